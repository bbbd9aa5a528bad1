"""Promise [24]: the papers and the store that show that as many rounds are needed as there are layers."""

import itertools
import unittest

from makefirst.books import Book
from makefirst.choices import store_of_fates
from makefirst.errors import Knotted, Refused, TooGreat
from makefirst.layers import is_ranked, layers_of
from makefirst.plans import fewest_rounds, plan_holds, round_plan
from makefirst.slow import slow_papers, slow_store
from makefirst.stores import Store, is_good
from support import ALIKE, LEAST, MOST, REFERS, batch_lot, plain_kinds, plain_layers, plain_papers, plain_told_store, result_of
from support import small_books, some_books, strict

PAIR = Book([2], [MOST])
CHAIN = Book([2, 2, 2], [((1, 0), REFERS[1]), ((2, 1), REFERS[1])])


def plain_slow_papers(book):
    """The papers as the document tells them."""
    layers, _ = plain_layers(book)
    kinds = plain_kinds(book)
    found = []
    for kind in kinds:
        own = [at for at, layer in enumerate(layers) if kind in layer][0]
        if own > 0:
            gone = [other for layer in layers[:own - 1] for other in layer]
            found.append(min(plain_papers(book, kind, set(kinds) - set(gone))))
    return tuple(found)


def plain_slow_store(book):
    """(cells, laid, old, new) as the document tells them."""
    layers, _ = plain_layers(book)
    papers = plain_slow_papers(book)
    wide = max([len(places) for places, _ in book.checks], default=1)
    pairs = [(check, one, other) for _, check, one, other, _ in papers]
    return plain_told_store(book, pairs, plain_kinds(book), (len(layers) - 1) * (wide - 1) + 1, wide - 1)


def room_book(columns, places, high):
    """A ranked book with one check: the sum of values is so much at most."""
    rows = [row for row in itertools.product(*[range(columns[column]) for column in places]) if sum(row) <= high]
    return Book(columns, [(places, rows)])


def ranked_books():
    books = [PAIR, CHAIN, Book([2]), Book([2, 1], [((0,), [(1,)])]), Book([2, 2], [((0, 1), [])]), Book([2], [LEAST])]
    books += [room_book([3], (0, 0), 2), room_book([2], (0, 0, 0), 2), room_book([3, 2], (0, 1, 1), 2), room_book([2, 3], (0, 1), 1)]
    books += [Book([2, 2, 2, 2], [*CHAIN.checks, ((3, 2), REFERS[1])]), Book([2, 2], [((0, 0, 1), [(0, 0, 0), (0, 1, 0), (1, 0, 0), (0, 0, 1)])])]
    books += [Book([2, 2], [REFERS, ((1, 0), MOST[1])]), Book([2, 2], [((1, 0), MOST[1]), ((0, 0), LEAST[1])])]
    return [book for book in [*small_books(), *books, *some_books(250, 241)] if is_ranked(book) and plain_kinds(book)]


class Papers(unittest.TestCase):

    def test_ordinary(self):
        self.assertEqual(strict(slow_papers(PAIR)), strict((((0, 0, 1), 0, (0, 1), (1, 0), (0,)),)))
        self.assertEqual(slow_papers(CHAIN), plain_slow_papers(CHAIN))
        self.assertEqual(len(slow_papers(CHAIN)), 4)

    def test_as_told(self):
        layers = set()
        for book in ranked_books():
            layers.add(len(layers_of(book)))
            self.assertEqual(strict(slow_papers(book)), strict(plain_slow_papers(book)))
        self.assertLessEqual({1, 2, 3, 4}, layers)

    def test_one_layer(self):
        for book in (Book([2]), Book([4] * 4), Book([2, 2], [((0, 1), [])]), Book([3], [((0,), [(1,)])])):
            self.assertEqual(strict(slow_papers(book)), strict(()))


class Slow(unittest.TestCase):

    def test_ordinary(self):
        store, old, new = slow_store(PAIR)
        self.assertEqual(strict((store.cells, old, new)), strict(((0, 0, 0, 0), (0, 0, 1, 1), (1, 1, 0, 0))))
        self.assertEqual(strict(store.laid), strict(((0, (0, 2)), (0, (0, 3)), (0, (1, 2)), (0, (1, 3)))))
        self.assertEqual(fewest_rounds(store, old, new, most=16), 2)

    def test_as_told(self):
        staying = 0
        for book in ranked_books():
            cells, laid, old, new = plain_slow_store(book)
            got = result_of(slow_store, book)
            if len(cells) > 200 or len(laid) > 4000:
                self.too_great(got, 200 if len(cells) > 200 else 4000)
                continue
            store, *ends = got
            staying += old != new and len(batch_lot(old, new)) < len(cells)
            self.assertEqual((type(got), len(got)), (tuple, 3))
            self.assertEqual(strict((store.cells, store.laid)), strict((cells, laid)))
            self.assertEqual(strict(ends), strict([old, new]))
            self.assertEqual(store.book, book)
            self.assertTrue(is_good(store, old) and is_good(store, new))
        self.assertGreater(staying, 3)

    def too_great(self, got, most):
        self.assertIs(type(got), TooGreat)
        self.assertEqual(strict(got.most), strict(most))

    def test_no_plan_has_fewer_rounds(self):
        told = set()
        for book in ranked_books():
            got = result_of(slow_store, book)
            if isinstance(got, TooGreat):
                continue
            store, old, new = got
            many = len(layers_of(book))
            plan = round_plan(store, old, new)
            self.assertEqual(len(plan), many)
            self.assertIs(plan_holds(store, old, new, plan), True)
            if len(batch_lot(old, new)) <= (12 if many < 3 else 16):
                told.add(many)
                self.assertEqual(fewest_rounds(store, old, new, most=2 ** 16), many)
        self.assertLessEqual({1, 2, 3, 4}, told)

    def test_books_without_checks_and_with_one_layer(self):
        store, old, new = slow_store(Book([2, 3]))
        kinds = plain_kinds(Book([2, 3]))
        self.assertEqual((store.cells, old, new), tuple(zip(*kinds)))
        self.assertEqual(store.laid, ())
        store, old, new = slow_store(Book([2, 2], [((0, 1, 1), [])]))
        self.assertEqual((store.cells, store.laid, old, new), ((0, 0, 1, 1), (), (0, 1, 0, 1), (1, 0, 1, 0)))

    def test_errors_in_their_order(self):
        for call in (slow_papers, slow_store):
            for book in (Book([2], [MOST, LEAST]), Book([2, 2], [((0, 1), ALIKE[1])]), Book([4] * 4, [((0, 0), [(0, 0), (1, 1)])])):
                got = result_of(call, book)
                self.assertIs(type(got), Knotted)
                self.assertEqual(strict(got.kinds), strict(plain_layers(book)[1]))
            for book in (Book([1]), Book([1, 1, 1]), Book([1, 1], [((0, 1), [])]), Book([1], [((0, 0, 0), [(0, 0, 0)])])):
                got = result_of(call, book)
                self.assertIs(type(got), Refused)
                self.assertIs(got.at, book)

    def test_most_cells(self):
        one = [((0, 1), ((0, 0), (0, 1), (1, 0), (1, 1))), ((0, 1, 1), ((0, 0, 1), (1, 0, 0), (1, 0, 1), (1, 1, 0)))]
        self.limits(Book([2, 2, 4, 4], one), 200, 294)
        rows = ((0, 0, 0), (0, 0, 1), (0, 1, 0), (0, 1, 1), (0, 2, 0), (0, 2, 1), (1, 0, 0), (1, 0, 1), (1, 1, 0))
        two = [((3, 3), ((0, 1), (1, 0), (1, 1), (1, 2), (2, 1), (3, 1))), ((1, 3, 0), rows)]
        self.limits(Book([2, 2, 4, 4], two), 202, 784)

    def test_most_laid(self):
        checks = [
            ((0, 0, 0), ((0, 0, 0),)),
            ((0, 1, 0), ((0, 0, 0), (0, 0, 1), (0, 1, 0), (0, 1, 1), (0, 2, 0), (1, 0, 0), (1, 0, 1), (1, 1, 0))),
            ((2, 1), ((0, 0), (0, 2), (0, 3), (1, 3))), ((0, 1, 2), ((0, 1, 0), (1, 1, 0), (1, 1, 1), (1, 2, 1))),
        ]
        self.limits(Book([2, 4, 2], checks), 182, 3993)
        checks = [
            ((3, 3, 2), ((0, 1, 1), (1, 0, 0), (1, 0, 1), (1, 1, 1))), ((3, 2), ((1, 1),)),
            ((1, 0, 2), ((0, 0, 0), (0, 0, 1), (0, 1, 0), (0, 1, 1), (0, 2, 0), (1, 0, 0), (1, 0, 1), (1, 1, 0))), ((2, 1, 1), ((0, 0, 1),)),
        ]
        self.limits(Book([3, 2, 2, 2], checks), 140, 4114)

    def limits(self, book, cells, laid):
        """Holds what slow_store tells of a book whose store would have so many cells and laid checks."""
        wanted = plain_slow_store(book)
        self.assertEqual((len(wanted[0]), len(wanted[1])), (cells, laid))
        got = result_of(slow_store, book)
        if cells > 200:
            self.too_great(got, 200)
        elif laid > 4000:
            self.too_great(got, 4000)
        else:
            self.assertEqual((got[0].cells, got[0].laid), wanted[:2])

    def test_most_laid_exactly(self):
        book = Book([2], [MOST, ((0,), [(0,), (1,)])])
        up, down, stay = (0, 0, 1), (0, 1, 0), (0, 0, 0)
        fates = [up] * 40 + [down] * 100 + [stay]
        store, old, new = store_of_fates(book, fates, [(0, (up, down))])
        self.assertEqual(len(store.laid), 4000)
        self.assertEqual((len(old), sum(old), sum(new)), (141, 100, 40))
        self.too_great(result_of(store_of_fates, book, fates, [(0, (up, down)), (1, (stay,))]), 4000)

    def test_books_of_24_kinds(self):
        free = Book([4, 4])
        self.assertEqual(len(slow_store(free)[0].cells), 24)
        for book in (room_book([4, 4], (0, 1), 3), room_book([4, 4], (0, 0), 4), room_book([4, 4], (0, 1, 1), 5), Book([4, 4], [REFERS])):
            self.assertEqual(slow_papers(book), plain_slow_papers(book))
            cells, laid, old, new = plain_slow_store(book)
            got = result_of(slow_store, book)
            if isinstance(got, TooGreat):
                self.assertEqual(got.most, 200 if len(cells) > 200 else 4000)
                self.assertTrue(len(cells) > 200 or len(laid) > 4000)
            else:
                self.assertEqual((got[0], *got[1:]), (Store(book, cells, laid), old, new))


if __name__ == "__main__":
    unittest.main()
