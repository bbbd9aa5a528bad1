"""Promises [18], [19] and [20]: ways by groups, and the store that bars them all."""

import itertools
import random
import unittest

from makefirst.barring import barring_store, straight_way, way_holds
from makefirst.books import Book
from makefirst.errors import Refused, TooGreat
from makefirst.layers import is_ranked
from makefirst.stores import Store, is_good
from makefirst.straight import is_straight
from support import ALIKE, LEAST, MOST, any_values, bad_ends, batch_lot, bent, dealings, good_states, good_stores, is_int, is_seq
from support import laid_everywhere, plain_broken, plain_layers, plain_papers, plain_reached, plain_told_store, result_of
from support import small_books, some_books, some_pairs, strict, thawed, with_set

BOTH = Book([2], [MOST, LEAST])
ONE = Store(Book([2], [MOST]), (0, 0, 0), [(0, (0, 1)), (0, (1, 2)), (0, (0, 2))])
OLD, NEW = (1, 0, 0), (0, 0, 1)
NO_SIZES = [value for value in any_values() if not is_int(value) or not 1 <= value <= 8] + [0, 9, True, None, "1", (1,), 10 ** 9]


def plain_way_holds(store, old, new, value, size):
    if not is_seq(value):
        return False
    for group in value:
        if not is_seq(group) or not all(is_int(cell) for cell in group) or list(group) != sorted(set(group)):
            return False
        if not 1 <= len(group) <= size:
            return False
    cells = [cell for group in value for cell in group]
    if sorted(cells) != list(batch_lot(old, new)):
        return False
    done = []
    for group in value:
        done += group
        if plain_broken(store, with_set(old, new, done)):
            return False
    return True


def lets_of(store):
    return lambda state: not plain_broken(store, state)


def plain_barring(book, size):
    """(cells, laid, old, new) of the barring store, as the document tells it."""
    knot = plain_layers(book)[1]
    papers = [min(plain_papers(book, kind, knot)) for kind in knot]
    wide = max(len(places) for places, _ in book.checks)
    pairs = [(check, one, other) for _, check, one, other, _ in papers]
    return plain_told_store(book, pairs, knot, 2 * wide - 2 + size, wide - 1)


def knotted_books():
    books = [BOTH, Book([2], [ALIKE]), Book([2, 2], [MOST, LEAST, ((0, 1), ALIKE[1])]), Book([2], [((0, 0, 0), [(0, 0, 0), (1, 1, 1)])])]
    books += [Book([2], [((0,), [(0,), (1,)]), ALIKE]), Book([2, 2], [((0, 0, 1), [(0, 1, 0), (1, 0, 0), (1, 1, 1)])])]
    return [book for book in [*small_books(), *books, *some_books(80, 191)] if not is_ranked(book)]


class Ways(unittest.TestCase):

    def test_ordinary(self):
        self.assertIs(way_holds(ONE, OLD, NEW, [(0,), (2,)]), True)
        self.assertIs(way_holds(ONE, list(OLD), list(NEW), ((0,), [2]), 1), True)
        self.assertIs(way_holds(ONE, OLD, NEW, [(2,), (0,)]), False)
        self.assertIs(way_holds(ONE, OLD, NEW, [(0, 2)]), False)
        self.assertIs(way_holds(ONE, OLD, NEW, [(0, 2)], 2), True)
        self.assertIs(way_holds(ONE, OLD, NEW, [(2, 0)], size=2), False)
        self.assertIs(way_holds(ONE, OLD, NEW, [(0, 2)], 8), True)

    def test_bent_groups(self):
        for value in (
            [(0,), (), (2,)], [(0,), (2,), ()], [()], [], [(0,)], [(0,), (1,), (2,)], [(0, 1), (2,)], [(0,), (2,), (0,)], [(0, 0), (2,)],
            [0, 2], [(0,), 2], [(0,), (3,)], [(0,), (-1,)], [(0,), (2, 2)], [(2, 0)], [(False,), (2,)], "02", None, [["0"], ["2"]], [(0, 1, 2)],
        ):
            for size in (1, 2, 3, 8):
                self.assertIs(way_holds(ONE, OLD, NEW, value, size), False, value)
                self.assertIs(way_holds(ONE, OLD, NEW, thawed(value), size), False, value)

    def test_any_values(self):
        for size in (1, 2, 8):
            for value in [*any_values(), *bent([(0,), (2,)]), *bent([(0, 2)]), *bent(((0,), [2]))]:
                self.assertIs(way_holds(ONE, OLD, NEW, value, size), plain_way_holds(ONE, OLD, NEW, value, size))

    def test_bools_are_no_cells(self):
        self.assertIs(way_holds(ONE, (0, 0, 0), (0, 1, 0), [[1]]), True)
        self.assertIs(way_holds(ONE, (0, 0, 0), (0, 1, 0), [[True]]), False)

    def test_all_dealings(self):
        choice = random.Random(181)
        told = 0
        for store, good in good_stores(60, 181):
            for old, new in some_pairs(good, 4, choice):
                for value in dealings(batch_lot(old, new)):
                    for size in (1, 2, 3):
                        wanted = plain_way_holds(store, old, new, value, size)
                        told += wanted
                        self.assertIs(way_holds(store, old, new, value, size), wanted)
        self.assertGreater(told, 100)

    def test_groups_of_one_are_straight_orders(self):
        choice = random.Random(182)
        for store, good in good_stores(40, 182):
            for old, new in some_pairs(good, 4, choice):
                for order in itertools.permutations(batch_lot(old, new)):
                    wanted = is_straight(store, old, new, order)
                    self.assertIs(way_holds(store, old, new, [[cell] for cell in order]), wanted)

    def test_a_batch_without_cells(self):
        for size in range(1, 9):
            self.assertIs(way_holds(ONE, OLD, OLD, [], size), True)
            self.assertIs(way_holds(ONE, OLD, OLD, [[]], size), False)
            self.assertEqual(strict(straight_way(ONE, OLD, OLD, size, most=1)), strict(()))

    def test_sizes_that_are_none(self):
        for size in NO_SIZES:
            for got in (
                result_of(way_holds, ONE, OLD, NEW, [(0,), (2,)], size), result_of(way_holds, ONE, OLD, NEW, None, size),
                result_of(straight_way, ONE, OLD, NEW, size, most=9), result_of(straight_way, ONE, OLD, NEW, size=size, most=1),
                result_of(barring_store, BOTH, size),
            ):
                self.assertIs(type(got), Refused)
                self.assertIs(got.at, size)

    def test_errors_of_the_states_come_first(self):
        for call in (
            lambda old, new: way_holds(ONE, old, new, None, 0), lambda old, new: way_holds(ONE, old, new, [(0,), (2,)]),
            lambda old, new: straight_way(ONE, old, new, None, most=1), lambda old, new: straight_way(ONE, old, new, most=9),
        ):
            for old, new, error, at in bad_ends(ONE, OLD, (1, 1, 0)):
                got = result_of(call, old, new)
                self.assertIs(type(got), error)
                self.assertEqual(strict(got.at), strict(at if error is not Refused else [1, 1, 0]))

    def test_limits(self):
        laid = [(0, (at % 100, 100 + at // 40)) for at in range(4000)]
        store = Store(Book([2], [MOST]), [0] * 200, laid)
        old, new = (1,) * 96 + (0,) * 104, (0,) * 100 + (1,) * 100
        value = [tuple(range(at, at + 8)) for at in range(0, 96, 8)]
        value += [tuple(range(at, min(at + 8, 200))) for at in range(100, 200, 8)]
        self.assertIs(way_holds(store, old, new, value, 8), True)
        self.assertIs(way_holds(store, old, new, value[::-1], 8), False)
        self.assertIs(way_holds(store, old, new, value, 7), False)


class Search(unittest.TestCase):

    def test_ordinary(self):
        self.assertEqual(strict(straight_way(ONE, OLD, NEW, most=9)), strict(((0,), (2,))))
        self.assertTrue(way_holds(ONE, OLD, NEW, straight_way(ONE, OLD, NEW, 2, most=99), 2))
        alike = Store(Book([2], [ALIKE]), [0] * 3, [(0, (0, 1)), (0, (1, 2))])
        self.assertIsNone(straight_way(alike, (0, 0, 0), (1, 1, 1), most=9))
        self.assertIsNone(straight_way(alike, (0, 0, 0), (1, 1, 1), size=2, most=9))
        self.assertEqual(strict(straight_way(alike, [0, 0, 0], [1, 1, 1], 3, most=9)), strict(((0, 1, 2),)))

    def test_by_brute_force(self):
        choice = random.Random(183)
        ways = none = 0
        for store, good in good_stores(120, 183, sizes=(3, 4, 5)):
            for old, new in some_pairs(good, 4, choice):
                for size in range(1, 9):
                    reached = plain_reached(old, new, size, lets_of(store))
                    for most in (len(reached), len(reached) + 1, 20000):
                        got = straight_way(store, old, new, size, most=most)
                        if batch_lot(old, new) in reached:
                            ways += 1
                            self.assertTrue(plain_way_holds(store, old, new, got, size))
                            self.assertIs(way_holds(store, old, new, got, size), True)
                            self.assertEqual(strict(got), strict(tuple(tuple(group) for group in got)))
                        else:
                            none += 1
                            self.assertIsNone(got)
                    if len(reached) > 1:
                        got = result_of(straight_way, store, old, new, size, most=len(reached) - 1)
                        self.assertIs(type(got), TooGreat)
                        self.assertEqual(strict(got.most), strict(len(reached) - 1))
        self.assertGreater(min(ways, none), 50)

    def test_groups_help_or_not(self):
        store = Store(BOTH, [0] * 4, [(0, (0, 1)), (1, (0, 1)), (0, (2, 3)), (1, (2, 3))])
        self.assertIsNone(straight_way(store, (1, 0, 1, 0), (0, 1, 0, 1), most=9))
        self.assertEqual(sorted(straight_way(store, (1, 0, 1, 0), (0, 1, 0, 1), 2, most=9)), [(0, 1), (2, 3)])
        self.assertEqual(sorted(straight_way(store, (1, 0, 1, 0), (0, 1, 0, 1), 3, most=9)), [(0, 1), (2, 3)])

    def test_most_only_by_name(self):
        with self.assertRaises(TypeError):
            straight_way(ONE, OLD, NEW, 1, 9)
        with self.assertRaises(TypeError):
            straight_way(ONE, OLD, NEW)

    def test_limits(self):
        rows = list(itertools.product((0, 1), repeat=3))
        book = Book([2], [((0, 0, 0), [row for row in rows if row not in ((1, 0, 1), (0, 1, 0))]), ((0, 0), ((0, 0), (1, 0), (1, 1)))])
        old, new = (0,) * 12, (1,) * 12
        for seed in range(4):
            choice = random.Random(seed)
            laid = [(0, sorted(choice.sample(range(12), 3))) for _ in range(97)]
            laid += [(1, sorted(choice.sample(range(12), 2))) for _ in range(3)]
            store = Store(book, [0] * 12, laid)
            for size in (1, 2, 8):
                got = straight_way(store, old, new, size, most=4096)
                self.assertTrue(plain_way_holds(store, old, new, got, size))
        free = Store(book, [0] * 12)
        for size in range(1, 9):
            self.assertTrue(plain_way_holds(free, old, new, straight_way(free, old, new, size, most=4096), size))
            self.assertIs(type(result_of(straight_way, free, old, new, size, most=4095)), TooGreat)


class Barring(unittest.TestCase):

    def test_the_documents_example(self):
        store, old, new = barring_store(BOTH)
        self.assertEqual((store.cells, old, new), ((0,) * 6, (0, 0, 0, 1, 1, 1), (1, 1, 1, 0, 0, 0)))
        self.assertEqual((len(store.laid), store.laid[0]), (18, (0, (0, 3))))
        self.assertIsNone(straight_way(store, old, new, most=99))
        self.assertIs(way_holds(store, old, new, [(0, 3), (1, 4), (2, 5)], 2), False)

    def test_as_told(self):
        wide = set()
        stores = 0
        for book in knotted_books():
            for size in range(1, 9):
                cells, laid, old, new = plain_barring(book, size)
                got = result_of(barring_store, book, size)
                if len(cells) > 200:
                    self.too_great(got, 200)
                elif len(laid) > 4000:
                    self.too_great(got, 4000)
                else:
                    stores += 1
                    wide |= {(len(places), size) for places, _ in book.checks}
                    store, *ends = got
                    self.assertEqual((type(got), len(got)), (tuple, 3))
                    self.assertEqual(strict((store.cells, store.laid)), strict((cells, laid)))
                    self.assertEqual(strict(ends), strict([old, new]))
                    self.assertEqual(store.book, book)
                    self.assertTrue(is_good(store, old) and is_good(store, new))
                    if size == 1:
                        self.assertEqual(strict(barring_store(book)[0].laid), strict(laid))
        self.assertEqual(wide, set(itertools.product((1, 2, 3), range(1, 9))))
        self.assertGreater(stores, 200)

    def too_great(self, got, most):
        self.assertIs(type(got), TooGreat)
        self.assertEqual(strict(got.most), strict(most))

    def test_no_way_of_this_size_nor_of_a_lesser_one(self):
        barred = 0
        for book in knotted_books():
            for size in (1, 2, 3):
                got = result_of(barring_store, book, size)
                if isinstance(got, TooGreat) or len(batch_lot(*got[1:])) > (16, 14, 12)[size - 1]:
                    continue
                store, old, new = got
                for lesser in range(1, size + 1):
                    way = result_of(straight_way, store, old, new, lesser, most=3000)
                    if not isinstance(way, TooGreat):
                        self.assertIsNone(way)
                        barred += 1
        self.assertGreater(barred, 60)

    def test_no_way_by_brute_force(self):
        for book, size in ((BOTH, 1), (BOTH, 2), (BOTH, 4), (Book([2], [ALIKE]), 1), (Book([2], [ALIKE]), 3), (knotted_books()[-1], 1)):
            store, old, new = barring_store(book, size)
            reached = plain_reached(old, new, size, lets_of(store))
            self.assertNotIn(batch_lot(old, new), reached)

    def test_errors_in_their_order(self):
        for book in (Book([2], [MOST]), Book([2]), Book([1]), Book([2, 2])):
            for size in (1, 8, 0, None, True):
                got = result_of(barring_store, book, size)
                self.assertIs(type(got), Refused)
                self.assertIs(got.at, book)
        great = Book([4] * 4, [((column, column), [(value, value) for value in range(4)]) for column in range(4)])
        for size in NO_SIZES:
            got = result_of(barring_store, great, size)
            self.assertIs(type(got), Refused)
            self.assertIs(got.at, size)
        self.too_great(result_of(barring_store, great, 3), 200)
        self.too_great(result_of(barring_store, great, 8), 200)

    def test_most_cells(self):
        alike = [((column, column), [(value, value) for value in range(size)]) for column, size in enumerate((4, 3, 2))]
        store, _, _ = barring_store(Book([4, 3, 2], alike), 8)
        self.assertEqual((len(store.cells), len(store.laid)), (200, 1800))
        rows = [
            (0, 0, 0), (0, 0, 1), (0, 2, 1), (0, 2, 2), (1, 0, 2), (1, 1, 1), (1, 2, 1), (1, 3, 0), (1, 3, 2), (2, 0, 0), (2, 1, 0),
            (2, 1, 1), (2, 1, 2), (2, 2, 0), (2, 2, 1), (2, 2, 2), (2, 3, 0), (3, 2, 2),
        ]
        self.limits(Book([3, 4, 4, 3], [((1, 2, 0), rows)]), 3, 201, 4263)
        self.limits(Book([3, 4], [((1, 1, 0), [(0, 3, 2), (1, 2, 0), (2, 3, 0), (3, 3, 1)])]), 7, 202, 6776)

    def test_most_laid(self):
        # A store of these always has a number of laid checks that its cells of a kind divide, so 4,001 is none.
        rows = [(0, 0, 2), (0, 1, 3), (1, 3, 3), (2, 1, 3), (2, 2, 2), (2, 3, 3), (3, 2, 0), (3, 3, 0)]
        self.limits(Book([4], [((0, 0, 0), [(2, 0, 3), (3, 2, 0), (3, 2, 1)])]), 6, 80, 4000)
        self.limits(Book([1, 4, 1, 4], [((3, 3, 1), rows)]), 3, 132, 4004)

    def limits(self, book, size, cells, laid):
        """Holds what barring_store tells of a book whose store would have so many cells and laid checks."""
        wanted = plain_barring(book, size)
        self.assertEqual((len(wanted[0]), len(wanted[1])), (cells, laid))
        got = result_of(barring_store, book, size)
        if cells > 200:
            self.too_great(got, 200)
        elif laid > 4000:
            self.too_great(got, 4000)
        else:
            self.assertEqual((got[0].cells, got[0].laid), wanted[:2])

    def test_least_size_by_default(self):
        self.assertEqual(barring_store(BOTH)[0], barring_store(BOTH, 1)[0])
        self.assertEqual(len(barring_store(BOTH, size=8)[0].cells), 20)


class Exactly(unittest.TestCase):

    def test_books(self):
        for book in [*small_books(), *some_books(60, 201)]:
            if not is_ranked(book):
                got = result_of(barring_store, book)
                if not isinstance(got, TooGreat):
                    way = result_of(straight_way, *got, most=2000)
                    self.assertTrue(way is None or isinstance(way, TooGreat))
            else:
                store = laid_everywhere(book, [cell % len(book.columns) for cell in range(3)])
                for old, new in itertools.product(good_states(store)[:8], repeat=2):
                    self.assertIsNotNone(straight_way(store, old, new, most=8))

    def test_told_kinds(self):
        for book in (Book([2, 2], [MOST, LEAST, ((0, 1), ALIKE[1])]), Book([3], [ALIKE, ((0, 0), [(0, 2), (2, 0)])])):
            store = laid_everywhere(book, [cell % len(book.columns) for cell in range(3)])
            for old, new in itertools.product(good_states(store), repeat=2):
                kinds = [(store.cells[cell], old[cell], new[cell]) for cell in batch_lot(old, new)]
                if is_ranked(book, kinds):
                    self.assertIsNotNone(straight_way(store, old, new, most=8))


if __name__ == "__main__":
    unittest.main()
