"""Promises [28] and [29]: checks put off to the end, and kinds that are barred."""

import itertools
import math
import unittest

from makefirst.books import Book
from makefirst.deferring import barred_kinds, deferred_lots
from makefirst.errors import TooGreat
from makefirst.layers import is_ranked, knot_of
from makefirst.straight import told_cells
from support import ALIKE, LEAST, MOST, REFERS, batch_lot, good_states, laid_everywhere, lots, plain_fault, plain_kinds
from support import plain_layers, result_of, small_books, some_books, strict

BOTH = Book([2], [MOST, LEAST])


def without(book, lot):
    """The book without some of its checks."""
    return Book(book.columns, [check for at, check in enumerate(book.checks) if at not in lot])


def plain_deferred(book):
    """The least lots of checks without which there is no knot."""
    ranked = [lot for lot in lots(range(len(book.checks))) if not plain_layers(without(book, lot))[1]]
    return tuple(sorted(lot for lot in ranked if not any(set(part) < set(lot) for part in ranked)))


def plain_barred(book):
    """The least lot of fewest kinds without which the others have no knot."""
    kinds = plain_kinds(book)
    for many in range(len(kinds) + 1):
        for lot in itertools.combinations(kinds, many):
            if not plain_layers(book, [kind for kind in kinds if kind not in lot])[1]:
                return lot


def looked_among(book, lot):
    """How many lots of kinds of the knot have at most so many kinds."""
    return sum(math.comb(len(knot_of(book)), many) for many in range(len(lot) + 1))


class Deferring(unittest.TestCase):

    def test_ordinary(self):
        self.assertEqual(strict(deferred_lots(BOTH)), strict(((0,), (1,))))
        self.assertEqual(strict(deferred_lots(Book([2], [MOST, MOST, LEAST]))), strict(((0, 1), (2,))))
        self.assertEqual(strict(deferred_lots(Book([2], [ALIKE, MOST, ALIKE]))), strict(((0, 2),)))
        self.assertEqual(strict(deferred_lots(Book([2], [MOST, ALIKE, LEAST]))), strict(((0, 1), (1, 2))))

    def test_ranked_books(self):
        for book in (Book([2]), Book([1]), Book([2], [MOST]), Book([2, 2], [REFERS] * 6), Book([2], [((0, 0), [])])):
            self.assertEqual(strict(deferred_lots(book)), strict(((),)))

    def test_against_all_lots(self):
        told = {}
        for book in [*small_books(), *some_books(120, 281, most_checks=6), *some_books(40, 282, columns=((2,), (2, 2)), most_checks=6)]:
            got = deferred_lots(book)
            self.assertEqual(strict(got), strict(plain_deferred(book)))
            self.assertIs(got == ((),), is_ranked(book))
            told.setdefault(len(book.checks), set()).add(len(got[0]))
        self.assertEqual(set(told), set(range(7)))
        self.assertGreater(max(max(own) for own in told.values()), 2)

    def test_a_batch_with_a_lot_put_off(self):
        books = [BOTH, Book([2, 2], [MOST, LEAST, REFERS, ((0, 1), ALIKE[1])]), Book([3], [MOST, ((0, 0), [(0, 2), (2, 0), (1, 1)])])]
        for book in books:
            store = laid_everywhere(book, [cell % len(book.columns) for cell in range(3)])
            for lot in deferred_lots(book):
                rest = laid_everywhere(without(book, lot), store.cells)
                for old, new in itertools.product(good_states(store), repeat=2):
                    order = told_cells(rest, old, new)
                    self.assertEqual(sorted(order), list(batch_lot(old, new)))
                    self.assertIsNone(plain_fault(rest, old, new, order))

    def test_limits(self):
        rows = [row for row in itertools.product(range(4), repeat=3) if sum(row) % 3]
        great = Book([4] * 4, [((at % 4, (at + 1) % 4, (at + 2) % 4), rows) for at in range(6)])
        self.assertEqual(deferred_lots(great), (tuple(range(6)),))
        half = Book([4] * 4, [(places, rows if at % 2 else []) for at, (places, _) in enumerate(great.checks)])
        self.assertEqual(deferred_lots(half), ((1, 3, 5),))


class Barred(unittest.TestCase):

    def test_ordinary(self):
        self.assertEqual(strict(barred_kinds(BOTH, most=3)), strict(((0, 0, 1),)))
        self.assertEqual(strict(barred_kinds(Book([2], [ALIKE]), most=4)), strict(((0, 0, 1), (0, 1, 0))))
        self.assertEqual(strict(barred_kinds(Book([2, 2], [((0, 1), ALIKE[1])]), most=99)), strict(((0, 0, 1), (0, 1, 0))))

    def test_ranked_books(self):
        for book in (Book([2]), Book([1]), Book([2], [MOST]), Book([4] * 4), Book([2, 2], [REFERS] * 6)):
            self.assertEqual(strict(barred_kinds(book, most=1)), strict(()))

    def test_against_all_lots(self):
        told = set()
        for book in [*small_books(), *some_books(70, 291, columns=((2,), (2, 2), (3,), (3, 2), (2, 1, 2)))]:
            wanted = plain_barred(book)
            many = looked_among(book, wanted)
            told.add(len(wanted))
            self.assertLessEqual(set(wanted), set(knot_of(book)))
            for most in (many, many + 1, 20000):
                self.assertEqual(strict(barred_kinds(book, most=most)), strict(wanted))
            for most in {1, many // 2, many - 1} - {0}:
                if many > most:
                    got = result_of(barred_kinds, book, most=most)
                    self.assertIs(type(got), TooGreat)
                    self.assertEqual(strict(got.most), strict(most))
        self.assertLessEqual({0, 1, 2, 4}, told)

    def test_batches_without_them_are_straight(self):
        for book in (BOTH, Book([2, 2], [MOST, LEAST, ((0, 1), ALIKE[1])]), Book([3], [ALIKE, ((0, 0), [(0, 2), (2, 0)])])):
            lot = barred_kinds(book, most=999)
            store = laid_everywhere(book, [cell % len(book.columns) for cell in range(3)])
            for old, new in itertools.product(good_states(store), repeat=2):
                if not set(lot) & {(store.cells[cell], old[cell], new[cell]) for cell in batch_lot(old, new)}:
                    self.assertIsNone(plain_fault(store, old, new, told_cells(store, old, new)))

    def test_most_only_by_name(self):
        with self.assertRaises(TypeError):
            barred_kinds(BOTH, 9)
        with self.assertRaises(TypeError):
            barred_kinds(BOTH)

    def test_knots_of_12_kinds(self):
        table = list(itertools.product(range(4), repeat=3))
        for rows in ([row for row in table if len(set(row)) == 1], [row for row in table if len(set(row)) == 3]):
            book = Book([4], [((0, 0, 0), rows)] * 6)
            kinds = plain_kinds(book)
            self.assertEqual(knot_of(book), tuple(kinds))
            lot = barred_kinds(book, most=4096)
            rest = [kind for kind in kinds if kind not in lot]
            self.assertIs(is_ranked(book, rest), True)
            for lesser in itertools.islice(itertools.combinations(kinds, len(lot) - 1), 0, None, 7):
                self.assertIs(is_ranked(book, [kind for kind in kinds if kind not in lesser]), False)
        alike = Book([4], [((0, 0), [(value, value) for value in range(4)])])
        self.assertEqual(barred_kinds(alike, most=4096), tuple(plain_kinds(alike)))
        self.assertIs(type(result_of(barred_kinds, alike, most=4095)), TooGreat)


if __name__ == "__main__":
    unittest.main()
