"""Promises [47] to [49]: families of checks of whose books it is known whether they are ranked."""

import itertools
import random
import unittest

from makefirst.books import Book, kinds_of
from makefirst.errors import Refused
from makefirst.families import longest_chain, order_check, reference_book, sum_check, unlike_check
from makefirst.layers import is_ranked, knot_of, layers_of
from support import any_values, bent, is_int, is_seq, result_of, strict

REFERENCE_ROWS = ((0, 0), (0, 1), (1, 1))
COLUMNS = [sizes for many in (1, 2) for sizes in itertools.product((1, 2, 3, 4), repeat=many)] + [(2, 3, 2), (1, 4, 2, 3), (4, 4, 4, 4)]
BOUNDS = (None, -7, -1, 0, 1, 2, 3, 5, 9, 10 ** 30)


def are_columns(value):
    return is_seq(value) and 1 <= len(value) <= 4 and all(is_int(size) and 1 <= size <= 4 for size in value)


def are_places(columns, value):
    return is_seq(value) and 1 <= len(value) <= 3 and all(is_int(place) and 0 <= place < len(columns) for place in value)


def are_references(tables, value):
    if not is_seq(value) or len(value) > 6:
        return False
    return all(is_seq(pair) and len(pair) == 2 and all(is_int(table) and 0 <= table < tables for table in pair) for pair in value)


def plain_check(columns, places, lets):
    table = itertools.product(*[range(columns[place]) for place in places])
    return tuple(places), tuple(row for row in table if lets(row))


def plain_chain(tables, references):
    """The length of the longest row of tables, each of which refers to the next one; None if some come round."""
    pairs = {tuple(pair) for pair in references}
    rows = [row for many in range(1, tables + 2) for row in itertools.product(range(tables), repeat=many)]
    found = [len(row) for row in rows if all(pair in pairs for pair in zip(row, row[1:]))]
    return max(found) if max(found) <= tables else None


def some_references(many, seed):
    """All references of two tables, and so many (tables, references) at random."""
    choice = random.Random(seed)
    pairs = list(itertools.product(range(2), repeat=2))
    found = [(2, references) for size in range(5) for references in itertools.combinations(pairs, size)]
    for _ in range(many):
        tables = choice.choice((1, 3, 4, 4))
        ahead = choice.random() < 0.5
        found.append((tables, [
            pair for pair in [[choice.randrange(tables), choice.randrange(tables)] for _ in range(choice.randint(0, 6))]
            if not ahead or pair[0] > pair[1]
        ]))
    return found


class Refusals(unittest.TestCase):

    def refused(self, got, kept):
        self.assertIs(type(got), Refused)
        self.assertIs(got.at, kept)


class Sums(Refusals):

    def test_ordinary(self):
        self.assertEqual(strict(sum_check((2, 3), (0, 1), 2, None)), strict(((0, 1), ((0, 2), (1, 1), (1, 2)))))
        self.assertEqual(strict(sum_check([2, 3], [1], None, 1)), strict(((1,), ((0,), (1,)))))
        self.assertEqual(strict(sum_check([2], [0, 0, 0], None, None)), strict(((0, 0, 0), tuple(itertools.product((0, 1), repeat=3)))))
        self.assertEqual(strict(sum_check([2], [0], 1, 0)), strict(((0,), ())))

    def test_as_told(self):
        choice = random.Random(471)
        for columns in COLUMNS:
            for _ in range(12):
                places = [choice.randrange(len(columns)) for _ in range(choice.randint(1, 3))]
                low, high = choice.choice(BOUNDS), choice.choice(BOUNDS)
                wanted = plain_check(columns, places, lambda row: (low is None or sum(row) >= low) and (high is None or sum(row) <= high))
                got = sum_check(columns, places, low, high)
                self.assertEqual(strict(got), strict(wanted))
                self.assertEqual(Book(columns, [got]).checks, (got,))

    def test_wrong_values(self):
        for value in [*any_values(), *bent([2, 3]), (5,), (1, 1, 1, 1, 1), (2, 0), (4, 4, 4, 4)]:
            for rest in (([0], 0, 1), (None, "0", True)):
                got = result_of(sum_check, value, *rest)
                if not are_columns(value):
                    self.refused(got, value)
                elif rest[0] is None:
                    self.refused(got, None)
                else:
                    self.assertIsInstance(got, tuple)
        for value in [*any_values(), *bent([0, 1, 1]), (2,), (0, 0, 0, 0), (True,), (-1,)]:
            for rest in ((0, 1), ("0", True)):
                got = result_of(sum_check, (2, 3), value, *rest)
                if not are_places((2, 3), value):
                    self.refused(got, value)
                elif rest[0] == "0":
                    self.refused(got, "0")
                else:
                    self.assertEqual(got[0], tuple(value))
        for value in any_values():
            for other in (None, "x"):
                fine = value is None or is_int(value)
                got = result_of(sum_check, (2, 3), (0,), value, other)
                if fine and other is None:
                    self.assertIsInstance(got, tuple)
                else:
                    self.refused(got, other if fine else value)
                if not fine:
                    self.refused(result_of(sum_check, (2, 3), (0,), 0, value), value)

    def test_checks_without_low_or_without_high(self):
        choice = random.Random(472)
        two = set()
        for _ in range(150):
            columns = choice.choice(COLUMNS)
            told = []
            for _ in range(choice.randint(0, 3)):
                places = [choice.randrange(len(columns)) for _ in range(choice.randint(1, 3))]
                told.append((places, choice.choice((None, 0, 1, 2, 3, 4, 6))))
            room = Book(columns, [sum_check(columns, places, None, bound) for places, bound in told])
            make = Book(columns, [sum_check(columns, places, bound, None) for places, bound in told])
            for book, is_first in ((room, lambda kind: kind[2] < kind[1]), (make, lambda kind: kind[2] > kind[1])):
                self.assertTrue(is_ranked(book))
                layers = layers_of(book)
                two.add(len(layers))
                self.assertLessEqual(len(layers), 2)
                self.assertLessEqual({kind for kind in kinds_of(book) if is_first(kind)}, set(layers[0] if layers else ()))
        self.assertLessEqual({1, 2}, two)

    def test_one_column_of_two_values(self):
        for many in (1, 2, 3):
            for low in (None, *range(-1, many + 3)):
                for high in (None, *range(-1, many + 3)):
                    if low is None or high is None or low <= high:
                        book = Book([2], [sum_check([2], [0] * many, low, high)])
                        knot = low in range(1, many) and high in range(1, many)
                        self.assertIs(is_ranked(book), not knot)


class References(Refusals):

    def test_ordinary(self):
        self.assertEqual(reference_book(2, [(1, 0)]), Book([2, 2], [((1, 0), REFERENCE_ROWS)]))
        self.assertEqual(strict(longest_chain(3, [(1, 0), (2, 1), (2, 0)])), strict(3))
        self.assertIsNone(longest_chain(2, [(0, 0)]))
        self.assertEqual(strict(longest_chain(4, ())), strict(1))
        self.assertIsNone(longest_chain(3, [[0, 1], [1, 2], [2, 0]]))

    def test_as_told(self):
        for tables, references in some_references(200, 481):
            book = reference_book(tables, references)
            self.assertEqual(strict(book.columns), strict((2,) * tables))
            self.assertEqual(strict(book.checks), strict(tuple((tuple(pair), REFERENCE_ROWS) for pair in references)))

    def test_ranked_exactly_if_none_come_round(self):
        told = set()
        for tables, references in some_references(200, 482):
            wanted = plain_chain(tables, references)
            told.add(wanted)
            self.assertEqual(strict(longest_chain(tables, references)), strict(wanted))
            book = reference_book(tables, references)
            self.assertIs(is_ranked(book), wanted is not None)
            if wanted:
                self.assertEqual(len(layers_of(book)), wanted)
        self.assertEqual(told, {None, 1, 2, 3, 4})

    def test_parents_are_made_first_and_children_taken_away_first(self):
        layers = layers_of(reference_book(3, [(1, 0), (2, 1)]))
        self.assertEqual(layers, (((0, 0, 1), (2, 1, 0)), ((1, 0, 1), (1, 1, 0)), ((0, 1, 0), (2, 0, 1))))

    def test_wrong_values(self):
        for call in (reference_book, longest_chain):
            for value in [*any_values(), 0, 5, -1, True]:
                for references in ([], None, [(0, 9)]):
                    got = result_of(call, value, references)
                    if not is_int(value) or not 1 <= value <= 4:
                        self.refused(got, value)
                    elif references != []:
                        self.refused(got, references)
                    else:
                        self.assertNotIsInstance(got, Exception)
            good = 0
            for value in [*any_values(), *bent([[1, 0], (2, 1)]), [(0, 1)] * 6, [(0, 1)] * 7, [(3, 0)], [(0, True)], [(0, -1)], [(0, 1, 2)]]:
                got = result_of(call, 3, value)
                good += are_references(3, value)
                if are_references(3, value):
                    self.assertNotIsInstance(got, Exception)
                else:
                    self.refused(got, value)
            self.assertGreater(good, 10)


class Pairs(Refusals):

    def test_ordinary(self):
        self.assertEqual(strict(order_check((2, 2), 0, 1)), strict(((0, 1), ((0, 0), (0, 1), (1, 1)))))
        self.assertEqual(strict(unlike_check((2,), 0, 0)), strict(((0, 0), ((0, 1), (1, 0)))))

    def test_as_told(self):
        for columns in COLUMNS:
            for one, other in itertools.product(range(len(columns)), repeat=2):
                places = (one, other)
                self.assertEqual(strict(order_check(list(columns), one, other)), strict(plain_check(columns, places, lambda row: row[0] <= row[1])))
                self.assertEqual(strict(unlike_check(columns, one, other)), strict(plain_check(columns, places, lambda row: row[0] != row[1])))

    def test_what_is_known_of_their_books(self):
        for columns in COLUMNS:
            for one, other in itertools.product(range(len(columns)), repeat=2):
                book = Book(columns, [order_check(columns, one, other)])
                if one != other:
                    layers = layers_of(book)
                    self.assertTrue(is_ranked(book))
                    if columns[one] > 1 and columns[other] > 1:
                        self.assertEqual(len(layers), 2)
                        first = [kind for kind in kinds_of(book) if kind[0] == one and kind[2] < kind[1] or kind[0] == other and kind[2] > kind[1]]
                        self.assertLessEqual(set(first), set(layers[0]))
                elif columns[one] > 1:
                    self.assertEqual(knot_of(book), tuple(kind for kind in kinds_of(book) if kind[0] == one))
                book = Book(columns, [unlike_check(columns, one, other)])
                self.assertIs(is_ranked(book), 1 in (columns[one], columns[other]))

    def test_wrong_values(self):
        for call in (order_check, unlike_check):
            for value in [*any_values(), *bent([2, 3]), (5,), (1, 1, 1, 1, 1)]:
                for rest in ((0, 0), (None, "x")):
                    got = result_of(call, value, *rest)
                    if not are_columns(value):
                        self.refused(got, value)
                    elif rest[0] is None:
                        self.refused(got, None)
                    else:
                        self.assertIsInstance(got, tuple)
            for value in [*any_values(), 0, 1, 2, 3, -1, True, False]:
                fine = is_int(value) and 0 <= value < 3
                for other in (0, "x"):
                    got = result_of(call, (2, 3, 1), value, other)
                    if fine and other == 0:
                        self.assertEqual(got[0], (value, 0))
                    else:
                        self.refused(got, other if fine else value)
                got = result_of(call, (2, 3, 1), 2, value)
                if fine:
                    self.assertEqual(got[0], (2, value))
                else:
                    self.refused(got, value)


if __name__ == "__main__":
    unittest.main()
