"""Promises [30] to [33]: books whose checks look less strictly while a batch is under way."""

import itertools
import random
import unittest

from makefirst.books import Book
from makefirst.errors import BadState, NoKind, Refused, TooGreat
from makefirst.lax import LaxBook, is_passable, lax_holds, lax_let, lax_ranking, lax_sorted, lax_store, lax_way
from makefirst.layers import is_ranked
from makefirst.rankings import least_ranking
from makefirst.stores import Store, is_good
from support import ALIKE, LEAST, MOST, REFERS, any_values, bad_ends, batch_lot, bent, frozen, good_states, is_int, is_int_row, is_seq
from support import lots, plain_is_kind, plain_kinds, plain_rankings, plain_reached, plain_told_store, plain_unlike, result_of
from support import small_books, some_books, some_laid, some_pairs, states_of, strict, thawed, with_set

BOOK = Book((2, 2), [((0, 1), [(0, 0), (1, 1)])])
LAX = LaxBook(BOOK, [[(0, 0), (1, 0), (1, 1)]])
FIRM = LaxBook(BOOK, [[(0, 0), (1, 1)]])
STORE = Store(BOOK, (0, 1, 1), [(0, (0, 1)), (0, (0, 2))])
OLD, NEW = (0, 0, 0), (1, 1, 1)


def own_ways(book):
    """The checks' own tables."""
    return [rows for _, rows in book.checks]


def loosened(book, choice):
    """A lax book of this one, with some more rows in the second tables."""
    share = choice.choice((0, 0.2, 0.5, 0.8))
    ways = []
    for places, rows in book.checks:
        table = itertools.product(*[range(book.columns[column]) for column in places])
        ways.append([row for row in table if row in rows or choice.random() < share])
    return LaxBook(book, ways)


def lax_books(many, seed, columns=((2,), (2, 2), (3,), (1, 2), (3, 1)), **named):
    choice = random.Random(seed)
    return [loosened(book, choice) for book in some_books(many, seed, columns=columns, **named)]


def books_to_try(seed, many=60, **named):
    choice = random.Random(seed)
    return [LAX, FIRM, *[loosened(book, choice) for book in small_books()], *lax_books(many, seed, **named)]


def plain_is_ways(book, value):
    if not is_seq(value) or len(value) != len(book.checks):
        return False
    for rows, (places, own) in zip(value, book.checks):
        sizes = [book.columns[column] for column in places]
        if not is_seq(rows) or not all(is_int_row(row, sizes) for row in rows):
            return False
        if not set(own) <= {tuple(row) for row in rows}:
            return False
    return True


def plain_lax_let(lax, behind, kind):
    for check, (places, rows) in enumerate(lax.book.checks):
        for p, t in itertools.product(rows, repeat=2):
            unlike = plain_unlike(places, p, t)
            done = [place for place in unlike if unlike[place] in behind and unlike[place] != kind]
            for lot in lots([place for place in unlike if unlike[place] == kind]):
                row = tuple(t[at] if at in done or at in lot else p[at] for at in range(len(places)))
                if row not in lax.ways[check]:
                    return False
    return True


def plain_reached_kinds(lax):
    """All lots of kinds to which one comes by kinds that are let, as sets; and the orders that suit."""
    kinds = plain_kinds(lax.book)
    found = {frozenset()}
    waiting = [frozenset()]
    steps = {}
    while waiting:
        lot = waiting.pop()
        steps[lot] = [kind for kind in kinds if kind not in lot and plain_lax_let(lax, lot, kind)]
        for kind in steps[lot]:
            longer = lot | {kind}
            if longer not in found:
                found.add(longer)
                waiting.append(longer)
    orders = [
        order for order in itertools.permutations(kinds)
        if all(frozenset(order[:at]) in found and kind in steps[frozenset(order[:at])] for at, kind in enumerate(order))
    ]
    return found, orders


def plain_passable(lax, store, state):
    return all(tuple(state[cell] for cell in cells) in lax.ways[check] for check, cells in store.laid)


def stray_pairs(lax):
    """(check, one, other) for two rows between which some row is not in the second table."""
    found = []
    for check, (places, rows) in enumerate(lax.book.checks):
        for one, other in itertools.product(rows, repeat=2):
            between = itertools.product(*[{one[at], other[at]} for at in range(len(places))])
            if not all(row in lax.ways[check] for row in between):
                found.append((check, one, other))
    return found


def plain_lax_store(lax):
    """(cells, laid, old, new) of the store that the document tells."""
    pairs = stray_pairs(lax)
    wide = max(len(places) for places, _ in lax.book.checks)
    kinds = {kind for check, one, other in pairs for kind in plain_unlike(lax.book.checks[check][0], one, other).values()}
    return plain_told_store(lax.book, pairs, sorted(kinds), 2 * (wide - 1), wide - 1)


def some_batches(lax, seed, many=3):
    """Some (store, old, new) of a lax book."""
    choice = random.Random(seed)
    cells = [choice.randrange(len(lax.book.columns)) for _ in range(choice.choice((3, 4)))]
    store = some_laid(lax.book, cells, choice.choice((1, 2)), choice)
    good = good_states(store)
    return [(store, old, new) for old, new in some_pairs(good, many, choice)] if good else []


class Books(unittest.TestCase):

    def test_attributes(self):
        for ways in (
            [[(0, 0), (1, 0), (1, 1)]], (((1, 1), (0, 0), (1, 0)),), [[[1, 0], [1, 1], [0, 0], [1, 0], (0, 0)]], [((1, 1), [1, 0], (0, 0))],
        ):
            lax = LaxBook(BOOK, ways)
            self.assertEqual(strict(lax.ways), strict((((0, 0), (1, 0), (1, 1)),)))
            self.assertIs(lax.book, BOOK)
            self.assertTrue(lax == LAX)
            self.assertFalse(lax != LAX)
        self.assertEqual(LaxBook(Book([2]), []).ways, ())
        self.assertEqual(LaxBook(book=Book([1], [((0,), [])]), ways=[[]]).ways, ((),))

    def test_equal(self):
        same = Book([2, 2], (([0, 1], ([1, 1], (0, 0), (0, 0))),))
        self.assertTrue(LaxBook(same, LAX.ways) == LAX)
        self.assertFalse(FIRM == LAX)
        self.assertFalse(LaxBook(Book([2, 3], BOOK.checks), LAX.ways) == LAX)
        for other in any_values():
            self.assertIs(LAX == other, False)
        self.assertIs(LAX == BOOK, False)

    def test_later_changes(self):
        ways = [[[0, 0], [1, 0], [1, 1]]]
        lax = LaxBook(BOOK, ways)
        ways[0][0][0] = 1
        ways[0].append([0, 1])
        ways.append([])
        self.assertEqual(lax, LAX)
        self.assertIs(lax_let(lax, [], (0, 1, 0)), False)

    def test_any_values(self):
        two = Book([2, 3], [REFERS, ((1,), [(2,)])])
        good = ([(0, 0), (0, 1), (1, 1), (1, 2)], [(2,), (0,)])
        for book, ways in ((BOOK, LAX.ways), (two, good), (Book([2]), []), (Book([1], [((0,), [])]), [[]])):
            for value in [*any_values(), *bent(ways), *bent(thawed(ways)), ways, thawed(ways), own_ways(book)]:
                got = result_of(LaxBook, book, value)
                if plain_is_ways(book, value):
                    self.assertEqual(got.ways, tuple(tuple(sorted({tuple(row) for row in rows})) for rows in value))
                else:
                    self.assertIs(type(got), Refused)
                    self.assertIs(got.at, value)

    def test_an_own_row_that_lacks(self):
        for value in ([[(0, 0), (1, 0), (0, 1)]], [[]], [[(1, 1)]]):
            self.assertIs(type(result_of(LaxBook, BOOK, value)), Refused)
        self.assertEqual(len(LaxBook(BOOK, [list(itertools.product((0, 1), repeat=2))]).ways[0]), 4)


class Passable(unittest.TestCase):

    def test_ordinary(self):
        self.assertIs(is_passable(LAX, STORE, (1, 0, 1)), True)
        self.assertIs(is_passable(LAX, STORE, [0, 0, 1]), False)
        self.assertIs(is_passable(FIRM, STORE, (1, 0, 1)), False)

    def test_all_states(self):
        for at, lax in enumerate(books_to_try(301)):
            for store, _, _ in some_batches(lax, at, many=1):
                for state in states_of(store):
                    wanted = plain_passable(lax, store, state)
                    self.assertIs(is_passable(lax, store, state), wanted)
                    if is_good(store, state):
                        self.assertTrue(wanted)

    def test_errors_in_their_order(self):
        other = Store(Book((2, 2), [((0, 1), [(0, 0), (1, 0)])]), (0, 1, 1))
        for state in ((0, 0, 0), None, (0, 0, 2)):
            got = result_of(is_passable, LAX, other, state)
            self.assertIs(type(got), Refused)
            self.assertIs(got.at, other)
        for value in [*any_values(), (0, 0, 2), (0, 0), (0, True, 0)]:
            got = result_of(is_passable, LAX, STORE, value)
            if is_int_row(value, (2, 2, 2)):
                self.assertIs(got, plain_passable(LAX, STORE, value))
            else:
                self.assertIs(type(got), BadState)
                at = -1 if not is_seq(value) or len(value) != 3 else [not (is_int(item) and item in (0, 1)) for item in value].index(True)
                self.assertEqual(strict(got.at), strict(at))

    def test_a_store_of_an_equal_book(self):
        same = Store(Book([2, 2], [((0, 1), [(1, 1), (0, 0)])]), (0, 1))
        self.assertIs(is_passable(LAX, same, (0, 0)), True)


class Let(unittest.TestCase):

    def test_ordinary(self):
        self.assertIs(lax_let(LAX, [], (0, 0, 1)), True)
        self.assertIs(lax_let(LAX, [], [0, 1, 0]), False)
        self.assertIs(lax_let(LAX, ((1, 1, 0),), (0, 1, 0)), True)
        self.assertIs(lax_let(LAX, [[1, 1, 0]], (1, 0, 1)), False)

    def test_by_rows(self):
        told = {True: 0, False: 0}
        for lax in books_to_try(311):
            kinds = plain_kinds(lax.book)
            for behind in lots(kinds):
                for kind in kinds:
                    wanted = plain_lax_let(lax, behind, kind)
                    told[wanted] += 1
                    self.assertIs(lax_let(lax, behind, kind), wanted)
        self.assertGreater(min(told.values()), 1000)

    def test_kinds_twice_and_in_any_order(self):
        for lax in books_to_try(312, many=20):
            kinds = plain_kinds(lax.book)
            for kind in kinds:
                behind = thawed(kinds[:3] + kinds[:2])
                self.assertIs(lax_let(lax, behind[::-1], list(kind)), plain_lax_let(lax, kinds[:3], kind))

    def test_more_ahead_may_let_or_bar(self):
        self.assertIs(lax_let(LAX, [], (1, 1, 0)), True)
        told = set()
        for lax in books_to_try(313):
            for kind, other in itertools.product(plain_kinds(lax.book), repeat=2):
                told.add((lax_let(lax, [], kind), lax_let(lax, [other], kind)))
        self.assertLessEqual({(True, False), (False, True)}, told)

    def test_errors_in_their_order(self):
        for value in [*any_values(), *bent([(0, 0, 1), (1, 1, 0)]), [(2, 0, 1)]]:
            wanted = is_seq(value) and all(plain_is_kind(BOOK, kind) for kind in value)
            for kind in ((0, 0, 1), None, (0, 0, 0)):
                got = result_of(lax_let, LAX, value, kind)
                if not wanted:
                    self.assertIs(type(got), Refused)
                    self.assertIs(got.at, value)
                elif kind == (0, 0, 1):
                    self.assertIs(got, plain_lax_let(LAX, frozen(value), kind))
        for value in [*any_values(), *bent((0, 0, 1)), (2, 0, 1), (0, 0, 2), (0, 0, True)]:
            got = result_of(lax_let, LAX, [], value)
            if plain_is_kind(BOOK, value):
                self.assertIs(got, plain_lax_let(LAX, [], tuple(value)))
            else:
                self.assertIs(type(got), NoKind)
                self.assertIs(got.kind, value)


class Rankings(unittest.TestCase):

    def test_ordinary(self):
        ranking = ((0, 0, 1), (1, 0, 1), (1, 1, 0), (0, 1, 0))
        self.assertEqual(strict(lax_ranking(LAX, most=99)), strict(ranking))
        self.assertIsNone(lax_ranking(FIRM, most=99))
        self.assertIs(lax_holds(LAX, thawed(ranking)), True)
        self.assertIs(lax_holds(LAX, ranking[::-1]), False)
        self.assertIs(lax_holds(LAX, []), False)

    def test_all_orders(self):
        suiting = none = 0
        for lax in books_to_try(314, many=40):
            found, orders = plain_reached_kinds(lax)
            wanted = orders[0] if orders else None
            suiting += bool(orders)
            none += not orders
            for most in (len(found), len(found) + 1, 2000):
                self.assertEqual(strict(lax_ranking(lax, most=most)), strict(wanted))
            if len(found) > 1:
                got = result_of(lax_ranking, lax, most=len(found) - 1)
                self.assertIs(type(got), TooGreat)
                self.assertEqual(strict(got.most), strict(len(found) - 1))
            known = set(orders)
            by = 7 if len(plain_kinds(lax.book)) > 4 else 1
            for order in itertools.islice(itertools.permutations(plain_kinds(lax.book)), 0, None, by):
                self.assertIs(lax_holds(lax, order), order in known)
            for order in orders[:50]:
                self.assertIs(lax_holds(lax, list(order)), True)
        self.assertGreater(min(suiting, none), 10)

    def test_second_tables_that_are_the_own_rows(self):
        for book in [*small_books(), *some_books(40, 315, columns=((2,), (2, 2), (3,), (1, 2)))]:
            lax = LaxBook(book, own_ways(book))
            rankings = plain_rankings(book)
            self.assertEqual(strict(lax_ranking(lax, most=64)), strict(rankings[0] if rankings else None))
            if rankings:
                self.assertEqual(lax_ranking(lax, most=64), least_ranking(book))
            known = set(rankings)
            for order in itertools.islice(itertools.permutations(plain_kinds(book)), 0, None, 5):
                self.assertIs(lax_holds(lax, order), order in known)

    def test_second_tables_with_all_rows(self):
        for book in some_books(30, 316):
            ways = [list(itertools.product(*[range(book.columns[column]) for column in places])) for places, _ in book.checks]
            lax = LaxBook(book, ways)
            self.assertEqual(lax_ranking(lax, most=2 ** len(plain_kinds(book))), tuple(plain_kinds(book)))

    def test_any_values(self):
        for lax in (LAX, FIRM, LaxBook(Book([2], [MOST]), [MOST[1]]), LaxBook(Book([1]), [])):
            orders = plain_reached_kinds(lax)[1]
            known = [strict(order) for order in orders]
            for value in [*any_values(), *bent(orders[0] if orders else plain_kinds(lax.book)), plain_kinds(lax.book) * 2]:
                self.assertIs(lax_holds(lax, value), strict(frozen(value)) in known)

    def test_no_kinds(self):
        for book in (Book([1]), Book([1, 1], [((0, 1), [(0, 0)])])):
            lax = LaxBook(book, own_ways(book))
            self.assertEqual(strict(lax_ranking(lax, most=1)), strict(()))
            self.assertIs(lax_holds(lax, []), True)

    def test_most_only_by_name(self):
        for call, args in ((lax_ranking, ()), (lax_way, (STORE, OLD, NEW)), (lax_store, ())):
            with self.assertRaises(TypeError):
                call(FIRM, *args, 99)
            with self.assertRaises(TypeError):
                call(FIRM, *args)

    def test_limits(self):
        table = list(itertools.product(range(3), range(2), range(3)))
        book = Book([3, 2], [((0, 1, 0), [row for row in table if sum(row) in (0, 3)])] * 6)
        lax = LaxBook(book, [[row for row in table if sum(row) != 4]] * 6)
        got = lax_ranking(lax, most=2000)
        self.assertTrue(got is None or lax_holds(lax, got))
        free = LaxBook(book, [table] * 6)
        self.assertEqual(lax_ranking(free, most=256), tuple(plain_kinds(book)))
        self.assertIs(type(result_of(lax_ranking, free, most=255)), TooGreat)
        great = Book([4] * 4, [((0, 1, 2), [row for row in itertools.product(range(4), repeat=3) if sum(row) % 3])] * 6)
        firm = LaxBook(great, own_ways(great))
        self.assertIs(lax_holds(firm, plain_kinds(great)), False)
        self.assertIs(lax_let(firm, [(3, 0, 1)], (3, 1, 0)), True)
        one = LaxBook(Book([4] * 4, great.checks[:1]), own_ways(great)[:1])
        self.assertIs(lax_let(firm, [(0, 0, 1)], (0, 1, 0)), plain_lax_let(one, [(0, 0, 1)], (0, 1, 0)))


class Batches(unittest.TestCase):

    def test_ordinary(self):
        ranking = lax_ranking(LAX, most=99)
        self.assertEqual(strict(lax_sorted(LAX, STORE, OLD, NEW, ranking)), strict((0, 1, 2)))
        self.assertEqual(strict(lax_sorted(LAX, STORE, list(NEW), OLD, thawed(ranking))), strict((1, 2, 0)))
        self.assertIn(lax_way(LAX, STORE, NEW, OLD, most=99), ((1, 2, 0), (2, 1, 0)))
        self.assertIsNone(lax_way(FIRM, STORE, OLD, NEW, most=9))

    def test_sorted(self):
        sorts = 0
        for at, lax in enumerate(books_to_try(321)):
            orders = plain_reached_kinds(lax)[1]
            for store, old, new in some_batches(lax, at):
                kinds = {cell: (store.cells[cell], old[cell], new[cell]) for cell in batch_lot(old, new)}
                for order in orders[:3] + orders[-2:]:
                    wanted = tuple(sorted(kinds, key=lambda cell: (order.index(kinds[cell]), cell)))
                    got = lax_sorted(lax, store, old, new, order)
                    sorts += len(got) > 1
                    self.assertEqual(strict(got), strict(wanted))
                    for many in range(len(got) + 1):
                        self.assertTrue(plain_passable(lax, store, with_set(old, new, got[:many])))
        self.assertGreater(sorts, 50)

    def test_ways_against_all_lots(self):
        ways = none = 0
        for at, lax in enumerate(books_to_try(322, many=250)):
            for store, old, new in some_batches(lax, at):
                reached = plain_reached(old, new, 1, lambda state: plain_passable(lax, store, state))
                for most in (len(reached), len(reached) + 1, 20000):
                    got = lax_way(lax, store, old, new, most=most)
                    if batch_lot(old, new) in reached:
                        ways += 1
                        self.assertEqual(sorted(got), list(batch_lot(old, new)))
                        self.assertEqual(strict(got), strict(tuple(got)))
                        for many in range(len(got) + 1):
                            self.assertTrue(plain_passable(lax, store, with_set(old, new, got[:many])))
                    else:
                        none += 1
                        self.assertIsNone(got)
                if len(reached) > 1:
                    got = result_of(lax_way, lax, store, old, new, most=len(reached) - 1)
                    self.assertIs(type(got), TooGreat)
                    self.assertEqual(strict(got.most), strict(len(reached) - 1))
        self.assertGreater(min(ways, none), 20)

    def test_a_batch_without_cells(self):
        self.assertEqual(strict(lax_sorted(LAX, STORE, OLD, OLD, lax_ranking(LAX, most=99))), strict(()))
        self.assertEqual(strict(lax_way(FIRM, STORE, NEW, NEW, most=1)), strict(()))

    def test_errors_in_their_order(self):
        other = Store(Book((2, 2)), (0, 1, 1))
        ranking = lax_ranking(LAX, most=99)
        for call in (
            lambda store, old, new: lax_sorted(LAX, store, old, new, None),
            lambda store, old, new: lax_way(LAX, store, old, new, most=1),
        ):
            for old, new in ((None, None), (OLD, NEW), ((0, 1, 0), NEW)):
                got = result_of(call, other, old, new)
                self.assertIs(type(got), Refused)
                self.assertIs(got.at, other)
            for old, new, error, at in bad_ends(STORE, OLD, (1, 0, 1)):
                got = result_of(call, STORE, old, new)
                self.assertIs(type(got), error)
                self.assertEqual(strict(got.at), strict(at if error is not Refused else [1, 0, 1]))
        for value in [*any_values(), *bent(ranking), ranking[::-1], ranking[1:], ranking * 2]:
            got = result_of(lax_sorted, LAX, STORE, OLD, NEW, value)
            if lax_holds(LAX, value):
                self.assertEqual(got, (0, 1, 2))
            else:
                self.assertIs(type(got), Refused)
                self.assertIs(got.at, value)

    def test_limits(self):
        book = Book([2], [((0, 0, 0), [(0, 0, 0), (1, 1, 1)]), LEAST])
        some = [row for row in itertools.product((0, 1), repeat=3) if row not in ((1, 0, 1), (0, 1, 0))]
        lax = LaxBook(book, [some, list(itertools.product((0, 1), repeat=2))])
        choice = random.Random(323)
        store = Store(book, [0] * 12, [(0, tuple(sorted(choice.sample(range(12), 3)))) for _ in range(100)])
        got = lax_way(lax, store, (0,) * 12, (1,) * 12, most=4096)
        for many in range(13):
            self.assertTrue(plain_passable(lax, store, with_set((0,) * 12, (1,) * 12, got[:many])))
        free = Store(book, [0] * 12)
        self.assertEqual(sorted(lax_way(lax, free, (0,) * 12, (1,) * 12, most=4096)), list(range(12)))
        self.assertIs(type(result_of(lax_way, lax, free, (0,) * 12, (1,) * 12, most=4095)), TooGreat)


class Exactly(unittest.TestCase):

    def test_the_documents_example(self):
        store, old, new = lax_store(FIRM, most=99)
        self.assertEqual((len(store.cells), len(store.laid)), (8, 8))
        self.assertIsNone(lax_way(FIRM, store, old, new, most=300))

    def test_stores_without_a_way(self):
        barred = 0
        for lax in books_to_try(331, many=300):
            if lax_ranking(lax, most=2000) is not None:
                continue
            cells, laid, old, new = plain_lax_store(lax)
            got = result_of(lax_store, lax, most=2000)
            if len(laid) > 4000 or len(cells) > 200:
                self.assertEqual((type(got), got.most), (TooGreat, 4000))
                continue
            store, *ends = got
            self.assertEqual((type(got), len(got), store.book), (tuple, 3, lax.book))
            self.assertEqual(strict(ends), strict([tuple(ends[0]), tuple(ends[1])]))
            self.assertTrue(is_good(store, ends[0]) and is_good(store, ends[1]))
            if len(batch_lot(*ends)) <= 12:
                barred += 1
                self.assertIsNone(lax_way(lax, store, *ends, most=4096))
                if len(batch_lot(*ends)) <= 8:
                    reached = plain_reached(*ends, 1, lambda state: plain_passable(lax, store, state))
                    self.assertNotIn(batch_lot(*ends), reached)
        self.assertGreater(barred, 20)

    def test_a_way_in_every_store_if_some_order_suits(self):
        for at, lax in enumerate(books_to_try(332)):
            if lax_ranking(lax, most=2000) is not None:
                for store, old, new in some_batches(lax, at):
                    self.assertIsNotNone(lax_way(lax, store, old, new, most=20000))

    def test_refused_behind_the_search(self):
        for lax in books_to_try(333, many=40):
            found, orders = plain_reached_kinds(lax)
            if len(found) > 1:
                got = result_of(lax_store, lax, most=len(found) - 1)
                self.assertEqual((type(got), strict(got.most)), (TooGreat, strict(len(found) - 1)))
            got = result_of(lax_store, lax, most=len(found))
            if orders:
                self.assertIs(type(got), Refused)
                self.assertIs(got.at, lax)
            else:
                self.assertNotIsInstance(got, Refused)

    def test_own_rows_bar_exactly_if_the_book_is_not_ranked(self):
        for book in [*small_books(), *some_books(40, 334, columns=((2,), (2, 2), (3,)))]:
            got = result_of(lax_store, LaxBook(book, own_ways(book)), most=2000)
            self.assertIs(type(got) is Refused, is_ranked(book))

    def test_most_cells(self):
        alike = [((column, column), [(value, value) for value in range(4)]) for column in range(4)]
        stays = ((0, 0, 1), [(one, one, value) for one in (0, 1) for value in range(4)])
        book = Book([4] * 4, [*alike, stays])
        lax = LaxBook(book, own_ways(book))
        store, old, new = lax_store(lax, most=1)
        self.assertEqual((store.cells, store.laid, old, new), plain_lax_store(lax))
        self.assertEqual((len(store.cells), len(store.laid)), (200, 1920))
        more = Book([4] * 4, [*alike, stays, ((1, 1, 0), [(0, 0, 0), (1, 1, 0)])])
        lax = LaxBook(more, own_ways(more))
        cells, laid, _, _ = plain_lax_store(lax)
        self.assertEqual((len(cells), len(laid)), (202, 1968))
        self.too_great(result_of(lax_store, lax, most=1))

    def test_most_laid(self):
        # A store of these always has an even number of laid checks, so 4,001 is none.
        rows = [(0, 1, 2), (0, 2, 1), (0, 2, 2), (1, 0, 1), (1, 0, 2), (1, 1, 1), (1, 2, 0), (2, 0, 0), (2, 0, 2), (2, 1, 0), (2, 2, 1)]
        lax = LaxBook(Book([3], [((0, 0, 0), rows)]), [rows])
        store, old, new = lax_store(lax, most=99)
        self.assertEqual((len(store.cells), len(store.laid)), (30, 4000))
        self.assertTrue(is_good(store, old) and is_good(store, new))
        two = [(0, 0), (0, 1), (1, 2), (2, 0), (2, 1), (2, 2)]
        rows = [
            (0, 0, 0), (0, 0, 1), (0, 0, 2), (0, 2, 1), (1, 0, 0), (1, 0, 1), (1, 1, 2), (2, 0, 0), (2, 1, 1), (2, 2, 0), (2, 2, 1), (2, 2, 2),
        ]
        lax = LaxBook(Book([3], [((0, 0), two), ((0, 0, 0), rows)]), [two + [(1, 1)], rows + [(0, 1, 2), (1, 1, 1)]])
        self.assertEqual(len(plain_lax_store(lax)[1]), 4008)
        self.too_great(result_of(lax_store, lax, most=99))

    def too_great(self, got):
        self.assertIs(type(got), TooGreat)
        self.assertEqual(strict(got.most), strict(4000))


if __name__ == "__main__":
    unittest.main()
