"""Promises [5] and [6]: books and kinds."""

import itertools
import unittest

from makefirst.books import Book, check_kinds, kinds_of, need_check, need_kind, unlike_by
from makefirst.errors import BadBook, NoCheck, NoKind, Refused
from makefirst.stores import Store
from support import any_values, bent, deep, frozen, is_int, is_int_row, is_seq, plain_is_kind, plain_kinds
from support import result_of, some_books, strict, thawed

ROWS = [(0, 0), (1, 0), (1, 1), (1, 1)]


def plain_book_fault(columns, checks):
    """None for a book, else the number that BadBook tells, by the words of [5]."""
    if not is_seq(columns) or not 1 <= len(columns) <= 4:
        return -1
    if not all(is_int(size) and 1 <= size <= 4 for size in columns):
        return -1
    if not is_seq(checks) or len(checks) > 6:
        return -1
    for at, check in enumerate(checks):
        if not plain_is_check(columns, check):
            return at
    return None


def plain_is_check(columns, check):
    if not is_seq(check) or len(check) != 2:
        return False
    places, rows = check
    if not is_seq(places) or len(places) not in (1, 2, 3) or not is_seq(rows):
        return False
    if not all(is_int(column) and 0 <= column < len(columns) for column in places):
        return False
    return all(is_int_row(row, [columns[column] for column in places]) for row in rows)


class Books(unittest.TestCase):

    def told(self, columns, checks=()):
        error = result_of(Book, columns, checks)
        if isinstance(error, Book):
            return None
        self.assertIs(type(error), BadBook)
        self.assertTrue(is_int(error.at))
        return error.at

    def test_ordinary(self):
        book = Book((2, 2), [((0, 1), ROWS)])
        self.assertEqual(strict(book.columns), strict((2, 2)))
        self.assertEqual(strict(book.checks), strict((((0, 1), ((0, 0), (1, 0), (1, 1))),)))

    def test_no_checks(self):
        for book in (Book([4]), Book([4], []), Book(columns=[4], checks=())):
            self.assertEqual(strict(book.columns), strict((4,)))
            self.assertEqual(strict(book.checks), strict(()))

    def test_no_rows(self):
        self.assertEqual(strict(Book([1], [([0], [])]).checks), strict((((0,), ()),)))

    def test_rows_in_any_order_and_twice(self):
        want = Book([2, 2], [((0, 1), ROWS)])
        for rows in itertools.permutations(ROWS):
            self.assertEqual(Book([2, 2], [((0, 1), rows)]), want)
            self.assertEqual(Book([2, 2], [((0, 1), rows + rows)]).checks, want.checks)

    def test_lists_and_tuples_alike(self):
        columns, checks = (2, 3), (((0, 1, 1), ((1, 2, 0), (0, 0, 0))), ((1,), ()))
        want = Book(columns, checks)
        for book in (Book(thawed(columns), thawed(checks)), Book(columns, list(checks)), Book([2, 3], thawed(checks))):
            self.assertEqual(book, want)
            self.assertEqual(strict(book.checks), strict(want.checks))
            self.assertEqual(strict(book.columns), strict(want.columns))

    def test_places_keep_their_order_and_checks_theirs(self):
        book = Book([2, 2], [((1, 0, 1), [(0, 1, 0)]), ((0,), [(1,)]), ((0,), [(1,)])])
        self.assertEqual(book.checks, (((1, 0, 1), ((0, 1, 0),)), ((0,), ((1,),)), ((0,), ((1,),))))

    def test_later_changes_have_no_effect(self):
        columns, checks = [2, 2], [[[0, 1], [[0, 0], [1, 1]]]]
        book = Book(columns, checks)
        before = (book.columns, book.checks)
        checks[0][1][0][0] = 1
        checks[0][1].append([0, 1])
        checks[0][0][0] = 1
        checks.append(0)
        columns[0] = 1
        self.assertEqual((book.columns, book.checks), before)
        self.assertEqual(book, Book([2, 2], [((0, 1), [(0, 0), (1, 1)])]))

    def test_equality(self):
        one = Book([2, 2], [((0, 1), ROWS)])
        self.assertTrue(one == Book((2, 2), [[[0, 1], ROWS[::-1]]]))
        self.assertFalse(one != Book((2, 2), [[[0, 1], ROWS[::-1]]]))
        others = [
            Book([2, 2]), Book([2, 3], [((0, 1), ROWS)]), Book([2, 2], [((1, 0), ROWS)]),
            Book([2, 2], [((0, 1), ROWS[:2])]), Book([2, 2], [((0, 1), ROWS)] * 2), Book([2, 2, 1], [((0, 1), ROWS)]),
        ]
        for other in others:
            self.assertFalse(one == other)
            self.assertTrue(one != other)
        self.assertFalse(one == Store(one, [0]))
        self.assertFalse(Store(one, [0]) == one)

    def test_limits(self):
        rows = list(itertools.product(range(4), repeat=3))
        book = Book([4] * 4, [((0, 1, 3), rows * 2)] * 6)
        self.assertEqual(book.checks, (((0, 1, 3), tuple(rows)),) * 6)
        self.assertEqual(self.told([4] * 5), -1)
        self.assertEqual(self.told([5]), -1)
        self.assertEqual(self.told([0]), -1)
        self.assertEqual(self.told([]), -1)
        self.assertEqual(self.told([2], [((0,), [])] * 7), -1)
        self.assertEqual(self.told([2], [((0,) * 4, [])]), 0)
        self.assertEqual(self.told([2], [((), [])]), 0)
        self.assertEqual(self.told([2], [((0,), [()])]), 0)

    def test_number_of_the_first_wrong_check(self):
        good = ((0,), [(1,)])
        self.assertEqual(self.told([2], [good, good, ((1,), []), 5]), 2)
        self.assertEqual(self.told([2], [good] * 5 + [((0,), [(2,)])]), 5)
        self.assertEqual(self.told([2], [good, ((0,), [(1,), (True,)])]), 1)
        self.assertEqual(self.told([2], [good, ("0", [(1,)])]), 1)
        self.assertEqual(self.told([2], [((0,), "1"), good]), 0)
        self.assertEqual(self.told([2], [((False,), [(1,)])]), 0)
        self.assertEqual(self.told([2], [((-1,), [(1,)])]), 0)
        self.assertEqual(self.told([2], [((0,), [(-1,)])]), 0)
        self.assertEqual(self.told([2], [((0,), [(1,)], 0)]), 0)

    def test_wrong_columns_come_first(self):
        self.assertEqual(self.told([0], [5]), -1)
        self.assertEqual(self.told([True], []), -1)
        self.assertEqual(self.told("2", []), -1)
        self.assertEqual(self.told([2], "ab"), -1)
        self.assertEqual(self.told([2], None), -1)
        self.assertEqual(self.told([2], [5] * 7), -1)
        self.assertEqual(self.told([2], {}), -1)

    def test_any_values(self):
        for value in any_values():
            self.assertEqual(self.told(value), plain_book_fault(value, ()))
            self.assertEqual(self.told([2, 2], value), plain_book_fault([2, 2], value))
            self.assertEqual(self.told([2, 2], [value]), plain_book_fault([2, 2], [value]))
            self.assertEqual(self.told([2], [((0,), []), (value, [])]), plain_book_fault([2], [((0,), []), (value, [])]))
            self.assertEqual(self.told([2], [((0,), value)]), plain_book_fault([2], [((0,), value)]))
            self.assertEqual(self.told([2], [((0,), [value])]), plain_book_fault([2], [((0,), [value])]))

    def test_bent_books(self):
        checks = [((0, 1), ((0, 2), (1, 0))), ([1], [[2]]), ((0, 0, 0), ())]
        for value in bent(checks):
            self.assertEqual(self.told([2, 3], value), plain_book_fault([2, 3], value))
        for value in bent([2, 3]):
            self.assertEqual(self.told(value, checks), plain_book_fault(value, checks))

    def test_need_check(self):
        book = Book([2], [((0,), [])] * 3)
        for value in [*any_values(), 3, 10 ** 20]:
            error = result_of(need_check, book, value)
            if is_int(value) and 0 <= value < 3:
                self.assertEqual(strict(error), strict(value))
            else:
                self.assertIs(type(error), NoCheck)
                self.assertIs(error.check, value)
        self.assertIs(type(result_of(need_check, Book([2]), 0)), NoCheck)


class Kinds(unittest.TestCase):

    def test_kinds_of(self):
        self.assertEqual(strict(kinds_of(Book([2, 2]))), strict(((0, 0, 1), (0, 1, 0), (1, 0, 1), (1, 1, 0))))
        self.assertEqual(kinds_of(Book([1, 1])), ())
        self.assertEqual(len(kinds_of(Book([4] * 4))), 48)
        for book in some_books(20, 1):
            self.assertEqual(kinds_of(book), tuple(plain_kinds(book)))

    def test_need_kind(self):
        book = Book([2, 1, 3])
        for kind in plain_kinds(book):
            self.assertEqual(strict(need_kind(book, kind)), strict(kind))
            self.assertEqual(strict(need_kind(book, list(kind))), strict(kind))
        wrong = [(1, 0, 0), (3, 0, 1), (0, 0, 2), (0, 2, 0), (-1, 0, 1), (0, -1, 1), (0, 1, 1), (2, True, 2), "001"]
        for value in [*any_values(), *wrong, *bent((2, 0, 1))]:
            got = result_of(need_kind, book, value)
            if plain_is_kind(book, value):
                self.assertEqual(strict(got), strict(tuple(value)))
            else:
                self.assertIs(type(got), NoKind)
                self.assertIs(got.kind, value)

    def test_check_kinds(self):
        book = Book([2, 1, 3])
        self.assertEqual(strict(check_kinds(book, [])), strict(()))
        told = [[2, 1, 0], (0, 1, 0), (2, 1, 0), [0, 0, 1]]
        self.assertEqual(strict(check_kinds(book, told)), strict(((0, 0, 1), (0, 1, 0), (2, 1, 0))))
        for value in [*any_values(), *bent([(0, 0, 1), [2, 0, 2]])]:
            got = result_of(check_kinds, book, value)
            if is_seq(value) and all(plain_is_kind(book, kind) for kind in value):
                self.assertEqual(strict(got), strict(tuple(sorted({tuple(kind) for kind in value}))))
            else:
                self.assertIs(type(got), Refused)
                self.assertIs(got.at, value)

    def test_unlike_by(self):
        book = Book([2, 3], [((0, 1), [(0, 0)]), ((1, 1, 0), []), ((1, 1), [])])
        self.assertEqual(strict(unlike_by(book, 0, (0, 0), [1, 1])), strict(((0, 0, 1), (1, 0, 1))))
        self.assertEqual(unlike_by(book, 0, [1, 2], [1, 2]), ())
        self.assertEqual(unlike_by(book, 1, (2, 0, 1), (0, 0, 0)), ((0, 1, 0), (1, 2, 0)))
        self.assertEqual(unlike_by(book, 2, (0, 0), (2, 2)), ((1, 0, 2),))
        self.assertEqual(unlike_by(book, 2, (2, 0), (0, 2)), ((1, 0, 2), (1, 2, 0)))

    def test_unlike_by_errors_in_order(self):
        book = Book([2, 3], [((0, 1), [(0, 0)])])
        for check, one, other, wrong in (
            (1, 0, 0, 0), (True, 0, 0, 0), (-1, (0, 0), (0, 0), 0), (0, 0, 0, 1), (0, (0, 3), "x", 1),
            (0, (0, 0), (2, 0), 2), (0, [1, 2], None, 2), (0, (0, 0), (0, True), 2), (0, (0,), (0, 0), 1),
        ):
            got = result_of(unlike_by, book, check, one, other)
            self.assertIs(type(got), (NoCheck, Refused, Refused)[wrong])
            self.assertIs(got.check if wrong == 0 else got.at, (check, one, other)[wrong])

    def test_unlike_by_any_values(self):
        book = Book([2, 3], [((1, 0), [(0, 0)])])
        for value in [*any_values(), *bent([2, 1])]:
            is_row = is_int_row(value, (3, 2))
            for args in ((0, value, (0, 0)), (0, (0, 0), value)):
                got = result_of(unlike_by, book, *args)
                if is_row:
                    self.assertIs(type(got), tuple)
                else:
                    self.assertIs(type(got), Refused)
                    self.assertIs(got.at, value)
            got = result_of(unlike_by, book, value, (0, 0), (0, 0))
            if is_int(value) and value == 0:
                self.assertEqual(got, ())
            else:
                self.assertIs(type(got), NoCheck)
                self.assertIs(got.check, value)

    def test_nested_values(self):
        book = Book([2], [((0,), [(0,)])])
        for value in (deep(40), frozen(deep(40)), [Store(book, [0])] * 3):
            self.assertIs(type(result_of(need_kind, book, value)), NoKind)
            self.assertIs(type(result_of(check_kinds, book, [value])), Refused)


if __name__ == "__main__":
    unittest.main()
