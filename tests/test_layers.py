"""Promises [11], [12] and [13]: what can go first, layers, papers."""

import itertools
import random
import unittest

from makefirst.books import Book
from makefirst.errors import NoKind, Refused
from makefirst.layers import is_let, is_ranked, knot_of, knot_papers, layers_of, papers_hold
from support import ALIKE, LEAST, MOST, REFERS, any_values, bent, good_states, is_int, is_int_row, is_seq, laid_everywhere
from support import lots, plain_broken, plain_is_kind, plain_is_let, plain_kinds, plain_layers, plain_papers, plain_unlike
from support import result_of, small_books, some_books, some_kinds, strict, thawed

BOTH = Book([2], [MOST, LEAST])


def great_book(share, seed, places=(0, 1, 2)):
    """A book of the greatest size."""
    choice = random.Random(seed)
    rows = list(itertools.product(range(4), repeat=3))
    checks = []
    for turn in range(6):
        own = [(place + turn) % 4 for place in places]
        checks.append((own, [row for row in rows if choice.random() < share]))
    return Book([4] * 4, checks)


def orders_by_layers(layers, kinds):
    """All orders of cells, told by their kinds, that go by the layers, in any order within one."""
    lots_of_cells = [[cell for cell in kinds if kinds[cell] in layer] for layer in layers]
    for parts in itertools.product(*[list(itertools.permutations(lot)) for lot in lots_of_cells]):
        yield [cell for part in parts for cell in part]


def plain_papers_hold(book, value, kinds=None):
    """Whether a value is a sequence of papers, by the words of [13]."""
    told = plain_kinds(book) if kinds is None else [tuple(kind) for kind in kinds]
    if not is_seq(value) or not value:
        return False
    for thing in value:
        if not is_seq(thing) or len(thing) != 5 or not plain_is_kind(book, thing[0]):
            return False
    own = [tuple(thing[0]) for thing in value]
    return len(set(own)) == len(own) and set(own) <= set(told) and all(plain_is_paper(book, thing, own) for thing in value)


def plain_is_paper(book, thing, own):
    kind, check, one, other, places = thing
    if not is_int(check) or not 0 <= check < len(book.checks):
        return False
    columns, rows = book.checks[check]
    sizes = [book.columns[column] for column in columns]
    if not is_int_row(one, sizes) or not is_int_row(other, sizes):
        return False
    if not is_seq(places) or not all(is_int(place) for place in places):
        return False
    if tuple(one) not in rows or tuple(other) not in rows:
        return False
    return (tuple(kind), check, tuple(one), tuple(other), tuple(places)) in plain_papers(book, tuple(kind), set(own))


class First(unittest.TestCase):

    def test_ordinary(self):
        refers = Book([2, 2], [REFERS])
        self.assertIs(is_let(refers, [], (0, 0, 1)), False)
        self.assertIs(is_let(refers, [(1, 0, 1)], [0, 0, 1]), True)
        self.assertIs(is_let(refers, (), (0, 1, 0)), True)
        self.assertIs(is_let(refers, [(1, 0, 1), [1, 0, 1]], (1, 1, 0)), False)
        self.assertIs(is_let(refers, [], (0, 0, 1), [(0, 0, 1)]), True)
        self.assertIs(is_let(refers, [], (0, 0, 1), [(0, 0, 1), (1, 0, 1)]), False)
        self.assertIs(is_let(refers, [], (0, 0, 1), None), False)

    def test_some_places_of_a_kind(self):
        pair = Book([2], [((0, 0, 0), [(0, 0, 0), (1, 1, 0), (0, 1, 0), (1, 0, 0), (1, 1, 1)])])
        self.assertIs(is_let(pair, [], (0, 0, 1)), False)
        only_all = Book([2], [((0, 0), [(0, 0), (1, 1), (0, 1)])])
        self.assertIs(is_let(only_all, [], (0, 0, 1)), False)
        self.assertIs(is_let(Book([2], [((0, 0), [(0, 0), (1, 1), (0, 1), (1, 0)])]), [], (0, 0, 1)), True)

    def test_kinds_that_are_behind_or_not_told_are_let(self):
        for kind in plain_kinds(BOTH):
            self.assertIs(is_let(BOTH, [], kind), False)
            self.assertIs(is_let(BOTH, [kind], kind), True)
            self.assertIs(is_let(BOTH, [], kind, []), True)
            self.assertIs(is_let(BOTH, [], kind, [kind]), True)

    def test_all_small_books(self):
        for book in small_books():
            kinds = plain_kinds(book)
            for kind in kinds:
                for behind in lots(kinds):
                    self.assertIs(is_let(book, behind, kind), plain_is_let(book, behind, kind))
                    for told in lots(kinds):
                        self.assertIs(is_let(book, behind, kind, told), plain_is_let(book, behind, kind, told))

    def test_some_greater_books(self):
        choice = random.Random(4)
        for book in some_books(120, 4):
            for kind in plain_kinds(book):
                behind, told = some_kinds(book, choice), some_kinds(book, choice)
                self.assertIs(is_let(book, behind, kind), plain_is_let(book, behind, kind))
                self.assertIs(is_let(book, behind, kind, told), plain_is_let(book, behind, kind, told))
                self.assertIs(is_let(book, behind * 2, kind, told * 2), plain_is_let(book, behind, kind, told))

    def test_what_is_let_stays_let_behind_more(self):
        choice = random.Random(5)
        for book in some_books(120, 5):
            for kind in plain_kinds(book):
                behind = some_kinds(book, choice)
                if is_let(book, behind, kind):
                    self.assertIs(is_let(book, behind + some_kinds(book, choice), kind), True)

    def test_errors_in_order(self):
        for behind, kind, kinds, wrong in (
            (None, None, 0, 0), ("", (0, 0, 1), None, 0), ([(0, 0, 0)], (0, 0, 1), None, 0), ([(0, 0, True)], 0, 0, 0),
            ([], None, 0, 1), ([], (0, 0, 0), [], 1), ([], (0, 0, 1, 0), [], 1), ([], (0, 0, 1), 0, 2), ([], (0, 0, 1), False, 2),
            ((), (0, 0, 1), [(0, 0, 1), None], 2), ((), (0, 0, 1), (0, 0, 1), 2), ((), (0, True, 0), 0, 1),
        ):
            got = result_of(is_let, BOTH, behind, kind, kinds)
            self.assertIs(type(got), (Refused, NoKind, Refused)[wrong])
            self.assertIs(got.kind if wrong == 1 else got.at, (behind, kind, kinds)[wrong])

    def test_any_values(self):
        for value in [*any_values(), *bent([(0, 0, 1), (0, 1, 0)])]:
            are_kinds = is_seq(value) and all(plain_is_kind(BOTH, kind) for kind in value)
            got = result_of(is_let, BOTH, value, (0, 0, 1))
            self.refused(got, value, not are_kinds)
            got = result_of(is_let, BOTH, [], (0, 0, 1), value)
            self.refused(got, value, not are_kinds and value is not None)
            for call in (layers_of, knot_of, is_ranked, knot_papers):
                self.refused(result_of(call, BOTH, value), value, not are_kinds and value is not None)
            self.refused(result_of(papers_hold, BOTH, None, value), value, not are_kinds and value is not None)
            got = result_of(is_let, BOTH, [], value)
            if plain_is_kind(BOTH, value):
                self.assertIs(got, False)
            else:
                self.assertIs(type(got), NoKind)
                self.assertIs(got.kind, value)

    def refused(self, got, value, wanted):
        self.assertIs(type(got) is Refused, wanted)
        if wanted:
            self.assertIs(got.at, value)
        else:
            self.assertNotIsInstance(got, Exception)


class Layers(unittest.TestCase):

    def test_ordinary(self):
        refers = Book([2, 2], [REFERS])
        self.assertEqual(strict(layers_of(refers)), strict((((0, 1, 0), (1, 0, 1)), ((0, 0, 1), (1, 1, 0)))))
        self.assertEqual(strict(knot_of(refers)), strict(()))
        self.assertIs(is_ranked(refers), True)
        self.assertEqual(layers_of(Book([2], [MOST])), (((0, 1, 0),), ((0, 0, 1),)))
        self.assertEqual(layers_of(Book([2], [LEAST])), (((0, 0, 1),), ((0, 1, 0),)))
        self.assertEqual(strict(layers_of(BOTH)), strict(()))
        self.assertEqual(strict(knot_of(BOTH)), strict(((0, 0, 1), (0, 1, 0))))
        self.assertIs(is_ranked(BOTH), False)

    def test_three_layers_and_a_knot_behind_a_layer(self):
        chain = Book([2, 2, 2], [((1, 0), [(0, 0), (0, 1), (1, 1)]), ((2, 1), [(0, 0), (0, 1), (1, 1)])])
        self.assertEqual(layers_of(chain), (((0, 0, 1), (2, 1, 0)), ((1, 0, 1), (1, 1, 0)), ((0, 1, 0), (2, 0, 1))))
        mixed = Book([2, 2], [MOST, ((1, 1), MOST[1]), ((1, 1), LEAST[1])])
        self.assertEqual(layers_of(mixed), (((0, 1, 0),), ((0, 0, 1),)))
        self.assertEqual(knot_of(mixed), ((1, 0, 1), (1, 1, 0)))
        self.assertIs(is_ranked(mixed), False)

    def test_told_kinds(self):
        for kinds in ([(0, 0, 1)], [[0, 0, 1], (0, 0, 1)], ((0, 0, 1),)):
            self.assertEqual(strict(layers_of(BOTH, kinds)), strict((((0, 0, 1),),)))
            self.assertEqual(strict(knot_of(BOTH, kinds)), strict(()))
            self.assertIs(is_ranked(BOTH, kinds), True)
        kinds = [[0, 1, 0], [0, 0, 1], [0, 1, 0]]
        self.assertEqual((layers_of(BOTH, kinds), knot_of(BOTH, kinds), is_ranked(BOTH, kinds)), (layers_of(BOTH), knot_of(BOTH), False))

    def test_no_kinds(self):
        for book, kinds in ((BOTH, []), (BOTH, ()), (Book([1, 1]), None), (Book([1], [((0, 0), [])]), None)):
            self.assertEqual(strict(layers_of(book, kinds)), strict(()))
            self.assertEqual(strict(knot_of(book, kinds)), strict(()))
            self.assertIs(is_ranked(book, kinds), True)
            self.assertEqual(strict(knot_papers(book, kinds)), strict(()))

    def test_no_checks(self):
        book = Book([2, 3])
        self.assertEqual(strict(layers_of(book)), strict((tuple(plain_kinds(book)),)))
        self.assertIs(is_ranked(book), True)

    def check(self, book, kinds=None):
        layers, knot = plain_layers(book, kinds)
        self.assertEqual(strict(layers_of(book, kinds)), strict(layers))
        self.assertEqual(strict(knot_of(book, kinds)), strict(knot))
        self.assertIs(is_ranked(book, kinds), not knot)

    def test_all_small_books(self):
        for book in small_books():
            self.check(book)
            for kinds in lots(plain_kinds(book)):
                self.check(book, kinds)

    def test_some_greater_books(self):
        choice = random.Random(6)
        for book in some_books(200, 6):
            self.check(book)
            self.check(book, some_kinds(book, choice))

    def test_sorted_batches_pass_through_good_states_alone(self):
        many = 0
        for book in [*small_books(), *some_books(80, 7)]:
            store = laid_everywhere(book, [cell % len(book.columns) for cell in range(4 if max(book.columns) < 3 else 3)])
            good = good_states(store)
            for old, new in itertools.product(good[:8] + good[-8:], repeat=2):
                kinds = {cell: (store.cells[cell], old[cell], new[cell]) for cell in range(len(old)) if old[cell] != new[cell]}
                for told in (None, list(kinds.values())):
                    if not is_ranked(book, told):
                        continue
                    for order in orders_by_layers(layers_of(book, told), kinds):
                        many += 1
                        self.assertEqual(len(order), len(kinds))
                        self.passes(store, old, new, order)
        self.assertGreater(many, 1000)

    def passes(self, store, old, new, order):
        state = list(old)
        for cell in order:
            state[cell] = new[cell]
            self.assertEqual(plain_broken(store, state), ())

    def test_limits(self):
        for share in (0.3, 0.9, 1):
            book = great_book(share, 8)
            self.assertEqual(sum(len(layer) for layer in layers_of(book)) + len(knot_of(book)), 48)
        self.assertEqual(len(layers_of(great_book(1, 8))), 1)
        rows = [row for row in itertools.product(range(4), repeat=3) if sum(row) <= 4]
        room = Book([4] * 4, [((0, 1, 2), rows), ((1, 2, 3), rows), ((0, 0, 0), rows)] * 2)
        self.assertEqual([[old > new for _, old, new in layer] for layer in layers_of(room)], [[True] * 24, [False] * 24])


class Papers(unittest.TestCase):

    def test_ordinary(self):
        alike = Book([2], [ALIKE])
        want = (((0, 0, 1), 0, (0, 0), (1, 1), (0,)), ((0, 1, 0), 0, (1, 1), (0, 0), (0,)))
        self.assertEqual(strict(knot_papers(alike)), strict(want))
        self.assertIs(papers_hold(alike, want), True)
        self.assertIs(papers_hold(alike, thawed(want)), True)
        self.assertIs(papers_hold(alike, want[::-1]), True)
        self.assertIs(papers_hold(alike, [((0, 0, 1), 0, (0, 0), (1, 1), [1])]), True)
        self.assertEqual(knot_papers(Book([2], [MOST])), ())

    def test_the_least_is_told(self):
        for book in [*small_books(), *some_books(150, 9)]:
            self.check(book)

    def test_the_least_is_told_of_told_kinds(self):
        choice = random.Random(10)
        for book in some_books(150, 10):
            self.check(book, some_kinds(book, choice))

    def check(self, book, kinds=None):
        knot = plain_layers(book, kinds)[1]
        papers = knot_papers(book, kinds)
        self.assertEqual(strict(papers), strict(tuple(min(plain_papers(book, kind, knot)) for kind in knot)))
        self.assertIs(papers_hold(book, papers, kinds), bool(knot))
        self.assertIs(papers_hold(book, thawed(papers), kinds), bool(knot))

    def test_any_such_papers_hold(self):
        many = 0
        for book in some_books(60, 11):
            knot = plain_layers(book)[1]
            choice = random.Random(11)
            if knot:
                papers = [choice.choice(plain_papers(book, kind, knot)) for kind in knot]
                choice.shuffle(papers)
                self.assertIs(papers_hold(book, papers), True)
                many += 1
        self.assertGreater(many, 10)

    def test_nothing_holds(self):
        for book in (BOTH, Book([2], [MOST]), Book([1]), Book([2])):
            for value in ([], (), None, "", 0):
                self.assertIs(papers_hold(book, value), False)

    def test_parts(self):
        papers = knot_papers(BOTH)
        self.assertEqual(len(papers), 2)
        for part in (papers[:1], papers[1:], papers * 2, papers[:1] * 2):
            self.assertIs(papers_hold(BOTH, part), False)
        self.assertIs(papers_hold(BOTH, papers), True)
        two = Book([2, 2], [ALIKE, ((1, 1), ALIKE[1])])
        for part in lots(knot_papers(two)):
            self.assertIs(papers_hold(two, part), bool(part))

    def test_told_kinds(self):
        papers = knot_papers(BOTH)
        self.assertIs(papers_hold(BOTH, papers, [(0, 0, 1), [0, 1, 0]]), True)
        self.assertIs(papers_hold(BOTH, papers, [(0, 0, 1)]), False)
        self.assertIs(papers_hold(BOTH, papers, []), False)
        self.assertIs(papers_hold(BOTH, papers, kinds=None), True)

    def test_any_values_and_bent_papers(self):
        tall = Book([2, 3], [((0, 1, 0), [(0, 0, 0), (1, 1, 1), (0, 2, 1)]), ((1, 1), [(0, 0), (1, 1), (2, 2)])])
        for book in (BOTH, Book([2], [ALIKE]), tall):
            for value in [*any_values(), *bent(knot_papers(book))]:
                self.assertIs(papers_hold(book, value), plain_papers_hold(book, value), value)

    def test_wrong_papers(self):
        book = Book([2, 2], [((0, 1), [(0, 0), (1, 1)]), ((0, 0), [(0, 0), (1, 1), (0, 1)])])
        good = (((0, 0, 1), 1, (0, 0), (1, 1), (0,)),)
        self.assertIs(papers_hold(book, good), True)
        for wrong in (
            ((0, 0, 1), 1, (0, 0), (1, 1), (1,)), ((0, 0, 1), 1, (0, 0), (1, 1), ()), ((0, 0, 1), 1, (0, 0), (1, 1), (0, 1)),
            ((0, 0, 1), 1, (0, 0), (1, 1), (0, 0)), ((0, 0, 1), 1, (0, 0), (1, 1), (False,)), ((0, 0, 1), 1, (0, 1), (1, 1), (0,)),
            ((0, 0, 1), True, (0, 0), (1, 1), (0,)), ((0, 0, 1), 2, (0, 0), (1, 1), (0,)), ((0, 0, 1), -1, (0, 0), (1, 1), (0,)),
            ((0, 0, 1), 1, (False, 0), (1, 1), (0,)), ((0, 0, 1), 1, (0, 0), (1, True), (0,)), ((0, 0, 1), 1, (1, 0), (1, 1), (1,)),
            ((0, 0, 1), 0, (0, 0), (1, 1), (0,)), ((1, 0, 1), 0, (0, 0), (1, 1), (1,)), ((0, 0, 1), 1, (0, 0), (1, 1), (2,)),
            ((0, 0, 1), 1, (0, 0), (1, 1)), ((0, 0, 1), 1, (0, 0), (1, 1), (0,), 0), ((0, 1, 0), 1, (0, 0), (1, 1), (0,)),
            ((0, 0, 1), 1, (1, 1), (0, 0), (0,)), (0, 1, (0, 0), (1, 1), (0,)), ((0, 0, 1), 1, (0, 0), (1, 1), 0),
            ((0, 0, 1), 1, (0, 0), (1, 1), "0"), ((0, 0, 1), 1, "00", (1, 1), (0,)), ((0, 0, 1), 1, (0, 0), (1, 1), (-2,)),
        ):
            self.assertIs(papers_hold(book, (wrong,)), False, wrong)
            self.assertIs(papers_hold(book, [wrong]), False, wrong)

    def test_what_holds_shows_kinds_of_the_knot(self):
        choice = random.Random(12)
        for book in some_books(60, 12, columns=((2,), (3,), (2, 2))):
            knot = plain_layers(book)[1]
            for _ in range(10):
                kinds = some_kinds(book, choice)
                papers = [plain_papers(book, kind, kinds) for kind in kinds]
                value = [choice.choice(own) for own in papers if own]
                if papers_hold(book, value):
                    self.assertLessEqual({thing[0] for thing in value}, set(knot))
                self.assertIs(papers_hold(book, value), plain_papers_hold(book, value))

    def test_limits(self):
        for share in (0.3, 0.9):
            book = great_book(share, 13)
            papers = knot_papers(book)
            self.assertEqual(tuple(paper[0] for paper in papers), knot_of(book))
            self.assertIs(papers_hold(book, papers), True)
            self.assertIs(papers_hold(book, (papers + papers)[:60]), False)

    def test_rows_are_unlike_by_the_kinds_of_the_papers(self):
        for book in some_books(40, 14):
            papers = knot_papers(book)
            for _, check, one, other, places in papers:
                unlike = plain_unlike(book.checks[check][0], one, other)
                self.assertLessEqual(set(unlike.values()), {paper[0] for paper in papers})
                self.assertLessEqual(set(places), set(unlike))


if __name__ == "__main__":
    unittest.main()
