"""Promises [16], [17] and [20]: straight orders, and batches sorted by layers."""

import itertools
import unittest

from makefirst.barring import barring_store
from makefirst.books import Book
from makefirst.errors import BadState, Knotted, Refused
from makefirst.layers import is_ranked, knot_of, layers_of
from makefirst.stores import Store
from makefirst.straight import first_fault, is_straight, sorted_cells, told_cells
from support import ALIKE, LEAST, MOST, REFERS, any_values, bent, good_states, is_int, is_seq, laid_everywhere, plain_broken
from support import plain_fault, plain_kinds, plain_layers, result_of, small_books, some_books, strict

ONE = Store(Book([2], [MOST]), (0, 0, 0), [(0, (0, 1)), (0, (1, 2)), (0, (0, 2))])
OLD, NEW = (1, 0, 0), (0, 0, 1)


def plain_is_order(old, new, value):
    cells = [cell for cell in range(len(old)) if old[cell] != new[cell]]
    return is_seq(value) and all(is_int(cell) for cell in value) and sorted(value) == cells


def stores_to_try():
    """Small stores of ranked books and of books with a knot, all checks laid everywhere."""
    for book in [*small_books(), *some_books(40, 18)]:
        many = 4 if max(book.columns) < 3 else 3
        yield laid_everywhere(book, [cell % len(book.columns) for cell in range(many)])


def some_batches(store):
    """Some of a store's batches."""
    good = good_states(store)
    return itertools.product(good[:6] + good[-6:], repeat=2)


def has_straight_order(store, old, new):
    """Whether a batch has a straight order, by search among the states on the way."""
    seen, waiting = {old}, [old]
    while waiting:
        state = waiting.pop()
        for cell in range(len(old)):
            further = state[:cell] + (new[cell],) + state[cell + 1:]
            if further not in seen and not plain_broken(store, further):
                seen.add(further)
                waiting.append(further)
    return new in seen


class Straight(unittest.TestCase):

    def test_ordinary(self):
        self.assertIs(is_straight(ONE, OLD, NEW, [0, 2]), True)
        self.assertIs(is_straight(ONE, OLD, NEW, (2, 0)), False)
        self.assertEqual(strict(first_fault(ONE, OLD, NEW, [2, 0])), strict((0, 2)))
        self.assertIsNone(first_fault(ONE, list(OLD), list(NEW), (0, 2)))

    def test_the_first_cell_and_the_least_laid_check(self):
        store = Store(Book([2], [MOST, ((0,), [(0,), (1,)])]), [0] * 4, [(1, (0,)), (0, (2, 3)), (0, (0, 3)), (0, (1, 3))])
        self.assertEqual(first_fault(store, (1, 1, 0, 0), (0, 0, 0, 1), [0, 3, 1]), (1, 3))
        self.assertEqual(first_fault(store, (1, 1, 0, 0), (0, 0, 0, 1), [3, 1, 0]), (0, 2))
        self.assertEqual(first_fault(store, (1, 1, 0, 0), (0, 0, 0, 1), [1, 3, 0]), (1, 2))
        self.assertIsNone(first_fault(store, (1, 1, 0, 0), (0, 0, 0, 1), [1, 0, 3]))

    def test_all_orders(self):
        faults = 0
        for store in stores_to_try():
            for old, new in some_batches(store):
                cells = [cell for cell in range(len(old)) if old[cell] != new[cell]]
                for order in itertools.permutations(cells):
                    fault = plain_fault(store, old, new, order)
                    faults += fault is not None
                    self.assertEqual(strict(first_fault(store, old, new, order)), strict(fault))
                    self.assertIs(is_straight(store, old, new, list(order)), fault is None)
        self.assertGreater(faults, 1000)

    def test_a_batch_without_cells(self):
        self.assertIs(is_straight(ONE, OLD, OLD, []), True)
        self.assertIs(is_straight(ONE, OLD, OLD, [0]), False)
        self.assertIsNone(first_fault(ONE, OLD, OLD, ()))
        self.assertIs(type(result_of(first_fault, ONE, OLD, OLD, [0])), Refused)
        self.assertEqual(strict(sorted_cells(ONE, OLD, OLD)), strict(()))
        self.assertEqual(strict(told_cells(ONE, OLD, OLD)), strict(()))

    def test_any_values(self):
        for value in [*any_values(), *bent([0, 2]), [2, 0], [0, 1, 2], [0, 2, 2], [0], (0, -1), (-3, 2), (0, 2, 3)]:
            if plain_is_order(OLD, NEW, value):
                fault = plain_fault(ONE, OLD, NEW, value)
                self.assertEqual(first_fault(ONE, OLD, NEW, value), fault)
                self.assertIs(is_straight(ONE, OLD, NEW, value), fault is None)
            else:
                got = result_of(first_fault, ONE, OLD, NEW, value)
                self.assertIs(type(got), Refused)
                self.assertIs(got.at, value)
                self.assertIs(is_straight(ONE, OLD, NEW, value), False)

    def test_bools_are_no_cells(self):
        self.assertIs(is_straight(ONE, (0, 0, 0), (0, 1, 0), [1]), True)
        self.assertIs(is_straight(ONE, (0, 0, 0), (0, 1, 0), [True]), False)
        self.assertIs(is_straight(ONE, (0, 0, 0), (1, 0, 0), [False]), False)

    def test_errors_of_the_states_come_first(self):
        knotted = Store(Book([2], [MOST, LEAST]), (0, 0), [(0, (0, 1))])
        bad = [1, 1]
        calls = [
            lambda old, new: is_straight(knotted, old, new, None), lambda old, new: first_fault(knotted, old, new, None),
            lambda old, new: sorted_cells(knotted, old, new), lambda old, new: told_cells(knotted, old, new),
        ]
        for call in calls:
            for old, new, error, at in (
                (None, bad, BadState, -1), ((0, 2), bad, BadState, 1), ((0, True), bad, BadState, 1), (bad, None, Refused, 0),
                (bad, bad, Refused, 0), ((0, 0), None, BadState, -1), ((0, 0), (2, 1), BadState, 0), ((0, 0), bad, Refused, 1),
                ([0, 0, 0], bad, BadState, -1), ([0, 1], (False, 1), BadState, 0),
            ):
                got = result_of(call, old, new)
                self.assertIs(type(got), error)
                if error is Refused:
                    self.assertIs(got.at, (old, new)[at])
                else:
                    self.assertEqual(strict(got.at), strict(at))

    def test_states_of_any_kind(self):
        for value in any_values():
            if is_seq(value) and len(value) == 3 and all(is_int(item) and item in (0, 1) for item in value):
                continue
            for old, new in ((value, NEW), (OLD, value)):
                for got in (
                    result_of(is_straight, ONE, old, new, [0, 2]), result_of(first_fault, ONE, old, new, [0, 2]),
                    result_of(sorted_cells, ONE, old, new), result_of(told_cells, ONE, old, new),
                ):
                    self.assertIs(type(got), BadState)


class Sorted(unittest.TestCase):

    def test_ordinary(self):
        self.assertEqual(strict(sorted_cells(ONE, list(OLD), list(NEW))), strict((0, 2)))
        self.assertEqual(strict(told_cells(ONE, NEW, OLD)), strict((2, 0)))
        parents = Store(Book([2, 2], [REFERS]), [0, 1, 0, 1], [(0, (0, 1)), (0, (2, 3))])
        self.assertEqual(sorted_cells(parents, (0, 0, 1, 1), (1, 1, 0, 1)), (1, 2, 0))
        self.assertEqual(sorted_cells(parents, (0, 0, 1, 1), (1, 1, 0, 0)), (1, 2, 0, 3))

    def test_all_kinds_or_the_batch_alone(self):
        chain = Book([2, 2, 2], [((1, 0), REFERS[1]), ((2, 1), REFERS[1])])
        store = Store(chain, (2, 1, 0), [(0, (1, 2)), (1, (0, 1))])
        self.assertEqual(sorted_cells(store, (0, 0, 0), (1, 1, 1)), (2, 1, 0))
        self.assertEqual(sorted_cells(store, (1, 1, 1), (0, 0, 0)), (0, 1, 2))
        apart = Store(chain, (2, 0), [])
        self.assertEqual(sorted_cells(apart, (0, 0), (1, 1)), (1, 0))
        self.assertEqual(told_cells(apart, (0, 0), (1, 1)), (0, 1))

    def test_a_knot_of_the_book_or_of_the_batch(self):
        store = Store(Book([2, 2], [MOST, LEAST, ((1, 1), MOST[1])]), (0, 0, 0, 1), [(0, (0, 1)), (1, (0, 2))])
        knot = ((0, 0, 1), (0, 1, 0))
        for old, new in (((0, 0, 1, 0), (1, 0, 0, 0)), ((0, 0, 1, 0), (0, 1, 1, 0)), ((0, 0, 1, 0), (0, 0, 1, 0))):
            got = result_of(sorted_cells, store, old, new)
            self.assertIs(type(got), Knotted)
            self.assertEqual(strict(got.kinds), strict(knot))
        got = result_of(told_cells, store, (0, 0, 1, 0), (1, 0, 0, 1))
        self.assertIs(type(got), Knotted)
        self.assertEqual(strict(got.kinds), strict(knot))
        self.assertEqual(told_cells(store, (0, 0, 1, 0), (0, 1, 1, 1)), (1, 3))
        self.assertEqual(told_cells(store, (0, 0, 1, 0), (0, 0, 1, 0)), ())

    def test_by_layers_and_straight(self):
        for store in stores_to_try():
            book = store.book
            for old, new in some_batches(store):
                kinds = {cell: (store.cells[cell], old[cell], new[cell]) for cell in range(len(old)) if old[cell] != new[cell]}
                for call, told in ((sorted_cells, None), (told_cells, list(kinds.values()))):
                    layers, knot = plain_layers(book, told)
                    got = result_of(call, store, old, new)
                    if knot:
                        self.assertIs(type(got), Knotted)
                        self.assertEqual(strict(got.kinds), strict(knot))
                    else:
                        place = {kind: at for at, layer in enumerate(layers) for kind in layer}
                        wanted = sorted(kinds, key=lambda cell: (place[kinds[cell]], cell))
                        self.assertEqual(strict(got), strict(tuple(wanted)))
                        self.assertIsNone(plain_fault(store, old, new, got))
                        self.assertIs(is_straight(store, old, new, got), True)

    def test_the_way_back_can_be_told_from_anywhere(self):
        for store in stores_to_try():
            for old, new in list(some_batches(store))[::3]:
                order = result_of(told_cells, store, old, new)
                if isinstance(order, Exception):
                    continue
                state = list(old)
                for cell in order:
                    state[cell] = new[cell]
                    back = told_cells(store, state, old)
                    self.assertIs(is_straight(store, state, old, back), True)

    def test_exactly(self):
        barred = 0
        for book in [*small_books(), *some_books(30, 19, columns=((2,), (2, 2)), most_places=2)]:
            if not is_ranked(book):
                store, old, new = barring_store(book)
                if len(knot_of(book)) <= 4:
                    barred += 1
                    self.assertFalse(has_straight_order(store, old, new))
                    self.assertIs(type(result_of(sorted_cells, store, old, new)), Knotted)
                    self.assertIs(type(result_of(told_cells, store, old, new)), Knotted)
        self.assertGreater(barred, 10)

    def test_exactly_for_told_kinds(self):
        for book in (Book([2, 2], [MOST, LEAST, ((0, 1), ALIKE[1])]), Book([3], [ALIKE, ((0, 0), [(0, 2), (2, 0)])])):
            store = laid_everywhere(book, [cell % len(book.columns) for cell in range(3)])
            for old, new in itertools.product(good_states(store), repeat=2):
                kinds = {(store.cells[cell], old[cell], new[cell]) for cell in range(3) if old[cell] != new[cell]}
                got = result_of(told_cells, store, old, new)
                self.assertIs(isinstance(got, Knotted), not is_ranked(book, sorted(kinds)))
                if not isinstance(got, Knotted):
                    self.assertTrue(has_straight_order(store, old, new))

    def test_limits(self):
        book = Book([2], [MOST, ((0, 0, 0), [row for row in itertools.product((0, 1), repeat=3) if sum(row) < 2])])
        laid = [(at % 2, (at % 100, 100 + at // 40) if at % 2 == 0 else (at % 100, 100 + at // 40, 199)) for at in range(4000)]
        store = Store(book, [0] * 200, laid)
        old, new = (1,) + (0,) * 199, (0,) * 100 + (1,) * 99 + (0,)
        self.assertEqual(sorted_cells(store, old, new), (0, *range(100, 199)))
        self.assertEqual(told_cells(store, old, new), (0, *range(100, 199)))
        self.assertIs(is_straight(store, old, new, [0, *range(100, 199)]), True)
        fault = first_fault(store, old, new, [*range(100, 199), 0])
        self.assertEqual(fault, plain_fault(store, old, new, [*range(100, 199), 0]))
        self.assertEqual(fault[0], 0)
        great = Book([4] * 4)
        wide = Store(great, [cell % 4 for cell in range(200)])
        self.assertEqual(sorted_cells(wide, [0] * 200, [3] * 200), tuple(range(200)))
        self.assertEqual(len(layers_of(great)[0]), len(plain_kinds(great)))


if __name__ == "__main__":
    unittest.main()
