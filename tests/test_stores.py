"""Promises [7], [8] and [9]: stores, states and batches."""

import itertools
import unittest

from makefirst.books import Book
from makefirst.errors import BadState, BadStore, NoCell, NoCheck, Refused
from makefirst.stores import Store, batch_cells, batch_kind, broken, check_batch, check_state, is_good, need_cell, row_at
from support import REFERS, any_values, bent, good_states, is_int, is_int_row, is_seq, laid_everywhere, plain_broken
from support import result_of, some_books, states_of, strict, thawed

PARENTS = Book((2, 2), [((0, 1), [(0, 0), (1, 0), (1, 1)])])
FAMILY = Store(PARENTS, (0, 1, 1), [(0, (0, 1)), (0, (0, 2))])
TWICE = Store(Book([2, 3], [((1, 1), [(0, 0), (2, 2)]), ((0, 1, 1), [(0, 0, 1), (1, 2, 2)])]),
              [1, 0, 1], [(0, (0, 0)), (1, (1, 2, 2)), (0, (2, 0)), (0, (0, 0))])


def plain_store_fault(book, cells, laid):
    """None for a store, else the number that BadStore tells, by the words of [7]."""
    if not is_seq(cells) or not 1 <= len(cells) <= 200:
        return -1
    if not all(is_int(column) and 0 <= column < len(book.columns) for column in cells):
        return -1
    if not is_seq(laid) or len(laid) > 4000:
        return -1
    for at, item in enumerate(laid):
        if not plain_is_laid(book, cells, item):
            return at
    return None


def plain_is_laid(book, cells, item):
    if not is_seq(item) or len(item) != 2 or not is_int(item[0]) or not 0 <= item[0] < len(book.checks):
        return False
    places = book.checks[item[0]][0]
    if not is_int_row(item[1], [len(cells)] * len(places)):
        return False
    return all(cells[cell] == column for cell, column in zip(item[1], places))


def plain_state_fault(store, value):
    """None for a state, else the number that BadState tells, by the words of [8]."""
    if not is_seq(value) or len(value) != len(store.cells):
        return -1
    for cell, item in enumerate(value):
        if not is_int(item) or not 0 <= item < store.book.columns[store.cells[cell]]:
            return cell
    return None


class Stores(unittest.TestCase):

    def told(self, book, cells, laid=()):
        error = result_of(Store, book, cells, laid)
        if isinstance(error, Store):
            return None
        self.assertIs(type(error), BadStore)
        self.assertTrue(is_int(error.at))
        return error.at

    def test_ordinary(self):
        store = Store(PARENTS, [0, 1, 1], [[0, [0, 2]], (0, (0, 1)), (0, (0, 2))])
        self.assertIs(store.book, PARENTS)
        self.assertEqual(strict(store.cells), strict((0, 1, 1)))
        self.assertEqual(strict(store.laid), strict(((0, (0, 2)), (0, (0, 1)), (0, (0, 2)))))
        self.assertEqual(strict(Store(PARENTS, (0,)).laid), strict(()))

    def test_a_cell_at_two_places(self):
        self.assertEqual(TWICE.laid[1], (1, (1, 2, 2)))
        self.assertEqual(broken(TWICE, (0, 0, 1)), (1, 2))
        self.assertEqual(broken(TWICE, (1, 1, 2)), (0, 2, 3))
        self.assertTrue(is_good(TWICE, (2, 1, 2)))

    def test_later_changes_have_no_effect(self):
        cells, laid = [0, 1, 1], [[0, [0, 1]]]
        store = Store(PARENTS, cells, laid)
        laid[0][1][1] = 2
        laid.append([0, [0, 2]])
        cells[0] = 1
        self.assertEqual(store.cells, (0, 1, 1))
        self.assertEqual(store.laid, ((0, (0, 1)),))
        self.assertEqual(broken(store, (0, 1, 1)), (0,))

    def test_equality(self):
        one = Store(Book((2, 2), PARENTS.checks), [0, 1, 1], thawed(FAMILY.laid))
        self.assertTrue(one == FAMILY)
        self.assertFalse(one != FAMILY)
        for other in (
            Store(PARENTS, (0, 1, 1)), Store(PARENTS, (0, 1, 1), FAMILY.laid[::-1]), Store(PARENTS, (0, 1, 1, 0), FAMILY.laid),
            Store(Book((2, 2), [((0, 1), [])]), (0, 1, 1), FAMILY.laid), Store(PARENTS, (0, 1, 1), FAMILY.laid * 2),
        ):
            self.assertFalse(one == other)
            self.assertTrue(one != other)

    def test_limits(self):
        store = Store(PARENTS, [0, 1] * 100, [(0, (198, 199))] * 4000)
        self.assertEqual((len(store.cells), len(store.laid)), (200, 4000))
        self.assertEqual(broken(store, [0] * 199 + [1]), tuple(range(4000)))
        self.assertTrue(is_good(store, [0] * 200))
        self.assertEqual(row_at(store, [0] * 199 + [1], 3999), (0, 1))
        self.assertEqual(batch_cells(store, [0] * 200, [1] * 200), tuple(range(200)))
        self.assertEqual(self.told(PARENTS, [0] * 201), -1)
        self.assertEqual(self.told(PARENTS, []), -1)
        self.assertEqual(self.told(PARENTS, [2]), -1)
        self.assertEqual(self.told(PARENTS, [0, 1], [(0, (0, 1))] * 4001), -1)
        self.assertEqual(self.told(PARENTS, [0, 1], [(0, (0, 1))] * 3999 + [(0, (0, 0))]), 3999)

    def test_number_of_the_first_wrong_one(self):
        good = (0, (0, 1))
        for wrong in (
            (1, (0, 1)), (-1, (0, 1)), (False, (0, 1)), (0, (1, 0)), (0, (0, 0)), (0, (0, 2)), (0, (0,)), (0, (0, 1, 1)),
            (0, (0, True)), (0, "01"), (0, (0, 1), 0), (0,), "ab", None, 7, (0, (-2, 1)), (0, None), (0, (0, -1)),
        ):
            self.assertEqual(self.told(PARENTS, (0, 1), [good, wrong, None]), 1, wrong)
        self.assertEqual(self.told(PARENTS, (0, True), [None]), -1)
        self.assertEqual(self.told(PARENTS, "01", []), -1)
        self.assertEqual(self.told(PARENTS, (0, 1), None), -1)
        self.assertEqual(self.told(PARENTS, (0, 1), "ab"), -1)
        self.assertEqual(self.told(Book([2, 2]), (0, 1), [good]), 0)

    def test_any_values(self):
        book = Book([2, 2, 1], [((0, 1), []), ((0, 0, 1), [])])
        for value in any_values():
            for cells, laid in (
                (value, ()), ((0, 1), value), ((0, 1), [value]), ((0, 1), [(value, (0, 1))]), ((0, 1), [(0, value)]),
                ((0, 1), [(0, (0, 1)), (1, (0, value, 1))]), ((0, value), []), (value, value),
            ):
                self.assertEqual(self.told(book, cells, laid), plain_store_fault(book, cells, laid))

    def test_bent_stores(self):
        cells, laid = [0, 1, 1, 0], [(0, (0, 1)), [1, [0, 3, 2]], (1, (3, 3, 1))]
        book = Book([2, 2], [((0, 1), []), ((0, 0, 1), [])])
        for value in bent(laid):
            self.assertEqual(self.told(book, cells, value), plain_store_fault(book, cells, value))
        for value in bent(cells):
            self.assertEqual(self.told(book, value, laid), plain_store_fault(book, value, laid))

    def test_need_cell(self):
        for value in [*any_values(), 3, -3]:
            got = result_of(need_cell, FAMILY, value)
            if is_int(value) and 0 <= value < 3:
                self.assertEqual(strict(got), strict(value))
            else:
                self.assertIs(type(got), NoCell)
                self.assertIs(got.cell, value)


class States(unittest.TestCase):

    def test_check_state(self):
        self.assertEqual(strict(check_state(FAMILY, [1, 0, 1])), strict((1, 0, 1)))
        self.assertEqual(strict(check_state(FAMILY, (0, 1, 0))), strict((0, 1, 0)))

    def test_state_errors(self):
        for value in [*any_values(), *bent([1, 0, 1]), (0, 2, 3), (0, 1, 2), (0, -1, 5), (0, 0, True), (0, 0), (0,) * 4]:
            at = plain_state_fault(FAMILY, value)
            for call in (check_state, broken, is_good):
                got = result_of(call, FAMILY, value)
                if at is None:
                    self.assertIn(type(got), (tuple, bool))
                else:
                    self.assertIs(type(got), BadState)
                    self.assertEqual(strict(got.at), strict(at))
            for number in (0, 2, None):
                got = result_of(row_at, FAMILY, value, number)
                if at is not None:
                    self.assertIs(type(got), BadState)
                    self.assertEqual(strict(got.at), strict(at))

    def test_row_at(self):
        self.assertEqual(strict(row_at(FAMILY, [0, 0, 1], 1)), strict((0, 1)))
        self.assertEqual(row_at(FAMILY, (1, 0, 1), 0), (1, 0))
        self.assertEqual(row_at(TWICE, (0, 1, 2), 1), (1, 2, 2))
        for value in [*any_values(), 2, -1]:
            got = result_of(row_at, FAMILY, (0, 0, 0), value)
            if is_int(value) and 0 <= value < 2:
                self.assertEqual(got, (0, 0))
            else:
                self.assertIs(type(got), NoCheck)
                self.assertIs(got.check, value)

    def test_broken_and_is_good(self):
        self.assertEqual(strict(broken(FAMILY, [0, 1, 1])), strict((0, 1)))
        self.assertEqual(broken(FAMILY, (0, 0, 1)), (1,))
        self.assertEqual(strict(broken(FAMILY, (1, 0, 1))), strict(()))
        self.assertIs(is_good(FAMILY, (1, 0, 1)), True)
        self.assertIs(is_good(FAMILY, [0, 1, 0]), False)

    def test_all_states(self):
        for book in some_books(60, 2):
            cells = [cell % len(book.columns) for cell in range(3)]
            store = laid_everywhere(book, cells)
            for state in states_of(store):
                self.assertEqual(broken(store, state), plain_broken(store, state))
                self.assertIs(is_good(store, list(state)), not plain_broken(store, state))

    def test_nothing_laid_and_no_rows(self):
        for store in (Store(Book([2]), [0, 0]), Store(PARENTS, [0, 1])):
            for state in states_of(store):
                self.assertEqual(broken(store, state), ())
                self.assertIs(is_good(store, state), True)
        barren = Store(Book([2], [((0,), [])]), [0], [(0, (0,))])
        self.assertEqual(broken(barren, [0]), (0,))
        self.assertIs(is_good(barren, [1]), False)


class Batches(unittest.TestCase):

    def test_ordinary(self):
        old, new = [0, 0, 0], [1, 0, 1]
        self.assertEqual(strict(check_batch(FAMILY, old, new)), strict(((0, 0, 0), (1, 0, 1))))
        self.assertEqual(strict(batch_cells(FAMILY, old, new)), strict((0, 2)))
        self.assertEqual(strict(batch_kind(FAMILY, old, new, 2)), strict((1, 0, 1)))
        self.assertIsNone(batch_kind(FAMILY, old, new, 1))
        self.assertEqual(batch_cells(FAMILY, old, old), ())

    def test_all_batches(self):
        for store in (FAMILY, TWICE, laid_everywhere(Book([3, 2], [((0, 1), [(0, 0), (1, 0), (2, 1)])]), (1, 0, 0))):
            for old, new in itertools.product(good_states(store), repeat=2):
                self.assertEqual(check_batch(store, old, new), (old, new))
                unlike = tuple(cell for cell in range(3) if old[cell] != new[cell])
                self.assertEqual(batch_cells(store, old, new), unlike)
                for cell in range(3):
                    kind = (store.cells[cell], old[cell], new[cell]) if cell in unlike else None
                    self.assertEqual(batch_kind(store, old, new, cell), kind)

    def test_errors_in_order(self):
        bad, good = [0, 1, 0], [1, 1, 0]
        for call in (check_batch, batch_cells, lambda store, old, new: batch_kind(store, old, new, 9)):
            for old, new, error, at in (
                (None, None, BadState, -1), ([0, 0, 2], bad, BadState, 2), (bad, None, Refused, 0), (bad, bad, Refused, 0),
                (good, [0, 3, 0], BadState, 1), (good, "000", BadState, -1), (good, bad, Refused, 1),
                (good, (0, 0, 1), Refused, 1), ((0, 0, True), None, BadState, 2), (good, (0, False, 1), BadState, 1),
            ):
                got = result_of(call, FAMILY, old, new)
                self.assertIs(type(got), error)
                if error is Refused:
                    self.assertIs(got.at, (old, new)[at])
                else:
                    self.assertEqual(strict(got.at), strict(at))

    def test_any_values(self):
        for value in [*any_values(), *bent([1, 0, 1])]:
            at = plain_state_fault(FAMILY, value)
            for call in (check_batch, batch_cells):
                for args in ((value, (0, 0, 0)), ((0, 0, 0), value)):
                    got = result_of(call, FAMILY, *args)
                    if at is not None:
                        self.assertIs(type(got), BadState)
                        self.assertEqual(strict(got.at), strict(at))
                    elif plain_broken(FAMILY, value):
                        self.assertIs(type(got), Refused)
                        self.assertIs(got.at, value)
                    else:
                        self.assertIs(type(got), tuple)

    def test_batch_kind_of_any_cell(self):
        for value in [*any_values(), 3]:
            got = result_of(batch_kind, FAMILY, (1, 0, 0), (1, 1, 1), value)
            if is_int(value) and 0 <= value < 3:
                self.assertEqual(got, (None, (1, 0, 1), (1, 0, 1))[value])
            else:
                self.assertIs(type(got), NoCell)
                self.assertIs(got.cell, value)

    def test_store_of_a_check_with_its_places_turned(self):
        store = Store(Book([2, 2], [REFERS, ((1, 0), [(0, 1)])]), [1, 0], [(1, (0, 1)), (0, (1, 0))])
        self.assertEqual(row_at(store, (0, 1), 0), (0, 1))
        self.assertEqual(row_at(store, (0, 1), 1), (1, 0))
        self.assertEqual(broken(store, (0, 1)), (1,))


if __name__ == "__main__":
    unittest.main()
