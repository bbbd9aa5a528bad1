"""Promise [45], its store: a batch that nobody lets in, however often cells are set."""

import itertools
import unittest

from detour_support import ABLE, KNOWN, LOCK, OTHER, STUCK, plain_fates, plain_reached
from makefirst.books import Book
from makefirst.errors import Refused, TooGreat
from makefirst.stores import is_good
from makefirst.wayless import wayless_store
from support import any_values, groups_of, is_int, plain_broken, result_of, strict


def plain_wayless(book, size):
    """(cells, laid, old, new) as the document tells them."""
    wide = max(len(places) for places, _ in book.checks)
    fates = [fate for fate in plain_fates(book) for _ in range(book.columns[fate[0]] * (wide - 1) + 1 + size)]
    laid = set()
    for check, (places, rows) in enumerate(book.checks):
        for one, other in itertools.product(rows, repeat=2):
            by_place = [[cell for cell, fate in enumerate(fates) if fate == own] for own in zip(places, one, other)]
            laid |= {(check, row) for row in itertools.product(*by_place) if len(set(row)) == len(row)}
    cells, old, new = zip(*fates)
    return cells, tuple(sorted(laid)), old, new


def comes_to(store, old, new, size, limit):
    """Whether settings of at most so many cells at one go lead to the new state by good states; None if these are too many."""
    sizes = [store.book.columns[column] for column in store.cells]
    found, waiting = {old}, [old]
    looks = [[number for number, (_, cells) in enumerate(store.laid) if cell in cells] for cell in range(len(old))]

    def lets(state, group):
        return all(
            tuple(state[cell] for cell in store.laid[number][1]) in store.book.checks[store.laid[number][0]][1]
            for cell in group for number in looks[cell]
        )
    while waiting:
        state = waiting.pop()
        for group in groups_of(range(len(old)), size):
            for values in itertools.product(*[range(sizes[cell]) for cell in group]):
                behind = list(state)
                for cell, value in zip(group, values):
                    behind[cell] = value
                behind = tuple(behind)
                if behind not in found and lets(behind, group):
                    found.add(behind)
                    waiting.append(behind)
        if new in found:
            return True
        if len(found) > limit:
            return None
    return False


class Wayless(unittest.TestCase):

    def test_ordinary(self):
        store, old, new = wayless_store(OTHER, most=9)
        self.assertEqual((len(store.cells), len(store.laid)), (16, 64))
        self.assertEqual(strict((old, new)), strict(((0,) * 8 + (1,) * 8, ((0,) * 4 + (1,) * 4) * 2)))

    def test_as_told(self):
        told = set()
        for book, reached in STUCK[::3]:
            if sum(len(rows) for _, rows in book.checks) > 10:
                continue
            for size in (1, 2, 5):
                cells, laid, old, new = plain_wayless(book, size)
                got = result_of(wayless_store, book, size, most=len(reached))
                if len(cells) > 200 or len(laid) > 4000:
                    self.assertIs(type(got), TooGreat)
                    self.assertEqual(strict(got.most), strict(200 if len(cells) > 200 else 4000))
                    told.add(got.most)
                    continue
                told.add(size)
                self.assertEqual((type(got), len(got)), (tuple, 3))
                self.assertEqual(strict((got[0].cells, got[0].laid)), strict((cells, laid)))
                self.assertEqual(strict(got[1:]), strict((old, new)))
                self.assertEqual(got[0].book, book)
                self.assertTrue(is_good(got[0], old) and is_good(got[0], new))
                self.assertNotEqual(old, new)
        self.assertEqual(told, {1, 2, 5, 200, 4000})

    def test_nobody_lets_it_in(self):
        none = 0
        for book, _ in STUCK:
            if sum(len(rows) for _, rows in book.checks) > 8:
                continue
            for size in (1, 2):
                got = result_of(wayless_store, book, size, most=300)
                if not isinstance(got, TooGreat) and len(got[0].cells) < 30:
                    way = comes_to(*got, size, 300)
                    self.assertIsNot(way, True)
                    none += way is False
        self.assertGreater(none, 40)

    def test_size_is_one_if_it_is_not_told(self):
        self.assertEqual(wayless_store(OTHER, most=9), wayless_store(OTHER, 1, most=9))
        self.assertEqual(wayless_store(size=3, most=9, book=OTHER), wayless_store(OTHER, 3, most=9))
        with self.assertRaises(TypeError):
            wayless_store(OTHER, 1, 9)

    def test_sizes_that_are_none(self):
        for value in [*any_values(), 0, 9, -1, True]:
            for book, most in ((OTHER, 9), (OTHER, 1), (LOCK, 300), (LOCK, 1)):
                got = result_of(wayless_store, book, value, most=most)
                if not is_int(value) or not 1 <= value <= 8:
                    self.assertIs(type(got), Refused)
                    self.assertIs(got.at, value)
                elif book is OTHER:
                    self.assertEqual(len(got[0].cells), 4 * (3 + value))
                elif most == 1:
                    self.assertIs(type(got), TooGreat)
                else:
                    self.assertIs(type(got), Refused)
                    self.assertIs(got.at, book)

    def test_books_with_a_detour(self):
        for book, reached in [*ABLE, (Book([2]), [()]), (Book([1], [((0, 0), [])]), [()])]:
            got = result_of(wayless_store, book, 2, most=len(reached))
            self.assertIs(type(got), Refused)
            self.assertIs(got.at, book)

    def test_search(self):
        for book, reached in KNOWN:
            if len(reached) > 1:
                got = result_of(wayless_store, book, 1, most=len(reached) - 1)
                self.assertIs(type(got), TooGreat)
                self.assertEqual(strict(got.most), strict(len(reached) - 1))

    def test_limits_exactly(self):
        for columns, checks, size, many, laid in (
            ((4, 2), [((0, 0), ((0, 0), (0, 2), (3, 3))), ((0,), ((1,), (3,))), ((0, 1), ((0, 0), (2, 1), (3, 0)))], 8, 200, None),
            ((3, 1, 4), [((2, 0), ((0, 1), (2, 0), (2, 2), (3, 0), (3, 1))), ((0, 2), ((1, 1), (2, 3)))], 5, 201, None),
            ((4, 2), [
                ((1, 0, 1), ((0, 1, 1), (1, 3, 1))), ((0, 1), ((1, 0), (2, 1), (3, 1))), ((1, 0), ((0, 1), (0, 2), (1, 0), (1, 1))),
                ((0, 1), ((0, 1), (1, 0), (1, 1), (2, 0), (2, 1))),
            ], 3, 200, 5000),
            ((1, 4, 4), [((0, 0), ((0, 0),)), ((2, 2), ((0, 2), (1, 0), (1, 2), (2, 0), (3, 3))), ((0, 2), ((0, 0), (0, 2)))], 7, 201, 5000),
            ((2, 2, 2), [((2, 0, 1), ((1, 0, 0), (1, 1, 1)))], 5, None, 4000),
            ((1, 3), [
                ((1, 0), ((0, 0), (1, 0), (2, 0))), ((1, 0, 0), ((1, 0, 0),)), ((0, 0, 0), ((0, 0, 0),)), ((1, 1), ((0, 0), (0, 2), (2, 1))),
            ], 6, None, 4001),
        ):
            book = Book(columns, checks)
            told = plain_wayless(book, size)
            self.assertEqual(len(told[0]), many or len(told[0]))
            self.assertEqual(len(told[1]) > 4000, (laid or 0) > 4000)
            self.assertIn(laid, (None, 5000, len(told[1])))
            got = result_of(wayless_store, book, size, most=300)
            if len(told[0]) > 200 or len(told[1]) > 4000:
                self.assertIs(type(got), TooGreat)
                self.assertEqual(strict(got.most), strict(200 if len(told[0]) > 200 else 4000))
            else:
                self.assertEqual((got[0].cells, got[0].laid, *got[1:]), told)

    def test_reach_of_known_books(self):
        self.assertEqual(len(plain_reached(OTHER, 9)), 1)
        store, old, _ = wayless_store(OTHER, most=1)
        self.assertEqual(plain_broken(store, old), ())


if __name__ == "__main__":
    unittest.main()
