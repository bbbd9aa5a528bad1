"""Promise [10]: books, stores and states as texts."""

import itertools
import re
import unittest

from makefirst.books import Book
from makefirst.errors import BadState, BadText
from makefirst.stores import Store
from makefirst.texts import book_text, read_book, read_state, read_store, state_text, store_text
from support import any_values, laid_everywhere, result_of, some_books, strict

PARENTS = Book((2, 2), [((0, 1), [(0, 0), (1, 0), (1, 1)])])
FAMILY = Store(PARENTS, (0, 1, 1), [(0, (0, 1)), (0, (0, 2))])
FAMILY_TEXT = "columns 2 2\ncheck 0 1: 00 10 11\ncells 0 1 1\nlaid 0: 0 1\nlaid 0: 0 2"
NUMBER = "(0|[1-9][0-9]{0,5})"
NUMBERS = f"{NUMBER}( {NUMBER})*"


def plain_columns(line):
    """The columns of a line, None if it tells none."""
    if not re.fullmatch(f"columns {NUMBERS}", line):
        return None
    columns = [int(word) for word in line.split()[1:]]
    return columns if len(columns) <= 4 and all(1 <= size <= 4 for size in columns) else None


def plain_check(columns, line):
    """The check of a line, None if it tells none."""
    if not re.fullmatch(f"check {NUMBERS}: (-|[0-9]+( [0-9]+)*)", line):
        return None
    head, tail = line.split(": ")
    places = [int(word) for word in head.split()[1:]]
    rows = [] if tail == "-" else [[int(figure) for figure in word] for word in tail.split()]
    if len(places) > 3 or max(places) >= len(columns):
        return None
    if any(one >= other for one, other in zip(rows, rows[1:])):
        return None
    for row in rows:
        if len(row) != len(places) or any(item >= columns[column] for item, column in zip(row, places)):
            return None
    return places, rows


def plain_book_fault(lines):
    """None for the lines of a book, else the first that is not so."""
    if not lines or plain_columns(lines[0]) is None:
        return 1
    for at, line in enumerate(lines[1:], 2):
        if plain_check(plain_columns(lines[0]), line) is None or at > 7:
            return at
    return None


def plain_store_fault(lines):
    """None for the lines of a store, else the first that is not so, or that lacks."""
    ahead = [at for at, line in enumerate(lines) if line.startswith("cells ")]
    many = ahead[0] if ahead else len(lines)
    fault = plain_book_fault(lines[:many])
    if fault is not None:
        return fault
    if many == len(lines) or not re.fullmatch(f"cells {NUMBERS}", lines[many]) or len(lines) - many - 1 > 4000:
        return many + 1
    columns = plain_columns(lines[0])
    checks = [plain_check(columns, line) for line in lines[1:many]]
    cells = [int(word) for word in lines[many].split()[1:]]
    if len(cells) > 200 or max(cells) >= len(columns):
        return many + 1
    for at, line in enumerate(lines[many + 1:], many + 2):
        if not plain_is_laid(checks, cells, line):
            return at
    return None


def plain_is_laid(checks, cells, line):
    if not re.fullmatch(f"laid {NUMBER}: {NUMBERS}", line):
        return False
    head, tail = line.split(": ")
    check, row = int(head.split()[1]), [int(word) for word in tail.split()]
    if check >= len(checks) or max(row) >= len(cells):
        return False
    return [cells[cell] for cell in row] == checks[check][0]


def bent_texts(text):
    """The text with one sign left out, put in, turned into another one, and with lines moved about."""
    for at in range(len(text) + 1):
        yield text[:at] + text[at + 1:]
        for sign in "0129 \n:-cl\u0661\u00b2\t":
            yield text[:at] + sign + text[at:]
            yield text[:at] + sign + text[at + 1:]
    lines = text.split("\n")
    for at in range(len(lines)):
        yield "\n".join(lines[:at] + lines[at + 1:])
        yield "\n".join(lines[:at] + [lines[at]] + lines[at:])
        yield "\n".join(lines[:at] + lines[:at:-1])


class Written(unittest.TestCase):

    def test_book_text(self):
        self.assertEqual(book_text(PARENTS), "columns 2 2\ncheck 0 1: 00 10 11")
        self.assertEqual(book_text(Book([4])), "columns 4")
        book = Book([1, 4], [((1, 1, 0), [(3, 0, 0), (0, 3, 0)]), ((0,), []), ((0,), [(0,)])])
        self.assertEqual(book_text(book), "columns 1 4\ncheck 1 1 0: 030 300\ncheck 0: -\ncheck 0: 0")

    def test_store_text(self):
        self.assertEqual(store_text(FAMILY), FAMILY_TEXT)
        self.assertEqual(store_text(Store(Book([2]), [0])), "columns 2\ncells 0")
        many = Store(Book([2], [((0, 0), [])]), [0] * 150, [(0, (149, 7))])
        self.assertEqual(store_text(many), "columns 2\ncheck 0 0: -\ncells " + " ".join("0" * 150) + "\nlaid 0: 149 7")

    def test_state_text(self):
        self.assertEqual(state_text(FAMILY, [1, 0, 1]), "1 0 1")
        self.assertEqual(state_text(Store(Book([4]), [0]), (3,)), "3")
        for value, at in ((None, -1), ("1 0 1", -1), ([1, 0], -1), ((1, 2, 9), 1), ((1, 0, True), 2)):
            got = result_of(state_text, FAMILY, value)
            self.assertIs(type(got), BadState)
            self.assertEqual(strict(got.at), strict(at))


class Read(unittest.TestCase):

    def told(self, call, *args):
        """What BadText tells, None if nothing is raised."""
        got = result_of(call, *args)
        if isinstance(got, Exception):
            self.assertIs(type(got), BadText)
            self.assertIs(type(got.at), int)
            return got.at
        return None

    def test_what_is_written_is_read(self):
        for book in some_books(150, 3):
            self.assertEqual(read_book(book_text(book)), book)
            store = laid_everywhere(book, [cell % len(book.columns) for cell in range(3)])
            again = read_store(store_text(store))
            self.assertEqual(again, store)
            self.assertEqual(strict(again.laid), strict(store.laid))
            for state in itertools.product(*[range(book.columns[column]) for column in store.cells]):
                self.assertEqual(strict(read_state(store, state_text(store, state))), strict(state))

    def test_any_value_that_is_no_string(self):
        for value in any_values():
            if not isinstance(value, str):
                self.assertEqual(self.told(read_book, value), 0)
                self.assertEqual(self.told(read_store, value), 0)
                self.assertEqual(self.told(read_state, FAMILY, value), 0)

    def test_bent_lines_of_books(self):
        for text, at in (
            ("", 1), ("columns", 1), ("columns ", 1), ("columns  2", 1), ("columns 2 ", 1), (" columns 2", 1), ("columns 02", 1),
            ("columns 5", 1), ("columns 0", 1), ("columns 1 1 1 1 1", 1), ("columns 2,2", 1), ("columns -2", 1), ("column 2", 1),
            ("columns 2\n", 2), ("columns 2\n\ncheck 0: 0", 2), ("\ncolumns 2", 1), ("columns 2\r\ncheck 0: 0", 1),
            ("columns \u0662", 1), ("columns 2\u00b2", 1), ("columns +2", 1), ("columns 0000002", 1), ("COLUMNS 2", 1),
            ("columns 2\ncheck 0: 0 0", 2), ("columns 2\ncheck 0: 1 0", 2), ("columns 2\ncheck 0: 2", 2), ("columns 2\ncheck 0:", 2),
            ("columns 2\ncheck 0: ", 2), ("columns 2\ncheck 0:0", 2), ("columns 2\ncheck 0 : 0", 2), ("columns 2\ncheck 00: 0", 2),
            ("columns 2\ncheck 1: 0", 2), ("columns 2\ncheck : 0", 2), ("columns 2\ncheck: 0", 2), ("columns 2\ncheck 0: 00", 2),
            ("columns 2\ncheck 0 0: 0", 2), ("columns 2\ncheck 0 0 0 0: -", 2), ("columns 2\ncheck 0: --", 2),
            ("columns 2\ncheck 0: - 0", 2), ("columns 2\ncheck 0: 0  1", 2), ("columns 2\ncheck 0: 0 1 ", 2),
            ("columns 2\ncheck 0: \u0660", 2), ("columns 2\ncheck 0: 0\ncheck 0: -\ncheck 0", 4), ("columns 2\ncolumns 2", 2),
            ("columns 2\ncheck 0 0: 00 10 01", 2), ("columns 2\ncheck 0: 0: 1", 2), ("columns 2\ncheck  0: 0", 2),
            ("columns 2\ncheck 0  0: 00", 2), ("columns 2\ncells 0", 2), ("columns 2" + "\ncheck 0: -" * 7, 8),
            ("columns 2" + "\ncheck 0: -" * 9, 8), ("columns 2" + "\ncheck 0: -" * 6 + "\n", 8), ("check 0: -", 1),
            ("columns 2\ncheck 0: -0", 2), ("columns 2\ncheck 0: 0\n", 3), ("columns 2\u2028check 0: 0", 1),
        ):
            self.assertEqual(self.told(read_book, text), at, text)
            self.assertEqual(plain_book_fault(text.split("\n")), at, text)
        self.assertIsNone(self.told(read_book, "columns 2" + "\ncheck 0: -" * 6))

    def test_bent_lines_of_stores(self):
        book = "columns 2 2\ncheck 0 1: 00 11\n"
        for text, at in (
            ("", 1), ("columns 2", 2), (book[:-1], 3), (book, 3), (book + "cells", 3), (book + "cells ", 3), (book + "cells 2", 3),
            (book + "cells 0  1", 3), (book + "cells 0 01", 3), (book + "cells 0 1 ", 3), (book + "cells 0 1\n", 4),
            (book + "cells 0 1\nlaid 0: 0", 4), (book + "cells 0 1\nlaid 0: 1 0", 4), (book + "cells 0 1\nlaid 1: 0 1", 4),
            (book + "cells 0 1\nlaid 0: 0 2", 4), (book + "cells 0 1\nlaid 0 0: 0 1", 4), (book + "cells 0 1\nlaid 0:0 1", 4),
            (book + "cells 0 1\nlaid 00: 0 1", 4), (book + "cells 0 1\nlaid 0: 0 1\nlaid 0: 0 01", 5), (book + "cell 0 1", 3),
            (book + "cells 0 1\nlaid 0: 0 1 ", 4), (book + "cells 0 1\nlaid 0: 0 1 1", 4), (book + "cells 0 1\nlaid : 0 1", 4),
            (book + "cells 0 1\nlaid 0: ", 4), (book + "cells 0 1\nlaid 0", 4), (book + "cells 0 1\nlaid 0: 0 0000001", 4),
            (book + "cells 0 1\ncells 0 1", 4), (book + "cells 0 1\nlaid 0: 0 1\n\nlaid 0: 0 1", 5), ("cells 0\ncolumns 2", 1),
            ("columns 2\nlaid 0: 0\ncells 0", 2), ("columns 5\ncells 0\nlaid", 1), ("columns 2\ncheck 0: 1 0\ncells 9", 2),
            ("columns 2" + "\ncheck 0: -" * 7 + "\ncells 0", 8), ("columns 2" + "\ncheck 0: -" * 6, 8), ("cells 0", 1),
            ("columns 2\ncells" + " 0" * 201, 2), ("columns 2\n cells 0", 2), ("columns 2\ncheck 0: 0\ncells 0\nlaid 0: \u0660", 4),
            (book + "cells 0 1\nlaid 0: 0 1\n", 5), ("columns 2\ncells 0\ncheck 0: -\nlaid 0: 0", 3), (book + "cells 0 1 ", 3),
        ):
            self.assertEqual(self.told(read_store, text), at, text)
            self.assertEqual(plain_store_fault(text.split("\n")), at, text)

    def test_many_lines_behind_the_cells(self):
        book = "columns 2 2\ncheck 0 1: 00 11\n"
        self.assertIsNone(self.told(read_store, book + "cells 0 1" + "\nlaid 0: 0 1" * 4000))
        self.assertEqual(self.told(read_store, book + "cells 0 1" + "\nlaid 0: 0 1" * 3999 + "\n"), 4003)
        self.assertEqual(self.told(read_store, book + "cells 0 1" + "\nlaid 0: 0 1" * 4001), 3)
        self.assertEqual(self.told(read_store, book + "cells 0 1" + "\n" * 4001), 3)
        self.assertEqual(self.told(read_store, book + "cells 0 1" + "\n" * 4000), 4)
        self.assertEqual(self.told(read_store, "columns 2\nx\ncells 0" + "\n" * 4001), 2)
        self.assertIsNone(self.told(read_store, "columns 2\ncells" + " 0" * 200))

    def test_very_long_lines(self):
        long = "9" * 5000
        self.assertEqual(self.told(read_book, "columns " + long), 1)
        self.assertEqual(self.told(read_book, "columns 2\ncheck " + long + ": 0"), 2)
        self.assertEqual(self.told(read_book, "columns 2\ncheck 0: " + long), 2)
        self.assertEqual(self.told(read_book, "columns " + "2 " * 5000 + "2"), 1)
        self.assertEqual(self.told(read_store, "columns 2\ncells " + long), 2)
        self.assertEqual(self.told(read_store, "columns 2\ncheck 0: 0\ncells 0\nlaid " + long + ": 0"), 4)
        self.assertEqual(self.told(read_store, "columns 2\ncheck 0: 0\ncells 0\nlaid 0: " + long), 4)
        self.assertEqual(self.told(read_state, FAMILY, "0 0 " + long), 1)

    def test_bent_at_any_sign(self):
        text = "columns 2 3\ncheck 0 1: 00 02 11\ncheck 1: -\ncells 0 1 1\nlaid 0: 0 2\nlaid 1: 1"
        for bent in bent_texts(text):
            self.assertEqual(self.told(read_store, bent), plain_store_fault(bent.split("\n")), bent)
        for bent in bent_texts("columns 2 3\ncheck 0 1: 00 02 11\ncheck 1 0 1: -\ncheck 0: 0 1"):
            self.assertEqual(self.told(read_book, bent), plain_book_fault(bent.split("\n")), bent)

    def test_states(self):
        store = Store(Book([2, 4]), [0, 1, 1])
        self.assertEqual(strict(read_state(store, "1 0 3")), strict((1, 0, 3)))
        for text in (
            "", "1", "1 0", "1 0 3 0", "1 0 4", "2 0 3", "1  0 3", " 1 0 3", "1 0 3 ", "1 0 3\n", "1\n0 3", "1 0 03", "1 0 -1",
            "1 0 \u0663", "1 0 \u00b3", "1,0,3", "103", "1 0 3.", "1\t0 3", "1 0 0000000", "1 0 1000000", "+1 0 3",
        ):
            self.assertEqual(self.told(read_state, store, text), 1, text)
        for bent in bent_texts("1 0 3"):
            words = bent.split(" ")
            is_state = re.fullmatch("[01] [0-3] [0-3]", bent) is not None and len(words) == 3
            self.assertEqual(self.told(read_state, store, bent), None if is_state else 1, bent)

    def test_strings_of_any_kind(self):
        for value in any_values():
            if isinstance(value, str):
                self.assertEqual(self.told(read_book, value), plain_book_fault(value.split("\n")))
                self.assertEqual(self.told(read_store, value), plain_store_fault(value.split("\n")))
                self.assertEqual(self.told(read_state, FAMILY, value), 1)

    def test_books_at_the_limits(self):
        rows = list(itertools.product(range(4), repeat=3))
        book = Book([4] * 4, [((0, 1, 3), rows)] * 6)
        self.assertEqual(read_book(book_text(book)), book)
        store = Store(book, [0, 1, 2, 3] * 50, [(5, (196, 197, 199))] * 4000)
        self.assertEqual(read_store(store_text(store)), store)


if __name__ == "__main__":
    unittest.main()
