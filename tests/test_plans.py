"""Promises [21], [22] and [23]: plans by rounds, the one by layers, and the fewest rounds."""

import itertools
import random
import unittest

from makefirst.books import Book
from makefirst.errors import Knotted, Refused, TooGreat
from makefirst.layers import is_ranked, layers_of
from makefirst.plans import fewest_rounds, plan_holds, round_plan
from makefirst.stores import Store
from support import ALIKE, LEAST, MOST, REFERS, any_values, bad_ends, batch_lot, bent, dealings, good_states, good_stores, is_int
from support import is_seq, laid_everywhere, lots, plain_broken, plain_layers, result_of, small_books, some_books, some_pairs
from support import strict, thawed, with_set

SHOP = Book([2, 2, 2], [((1, 0), REFERS[1]), ((2, 1), REFERS[1])])
STORE = Store(SHOP, (0, 1, 2), [(0, (1, 0)), (1, (2, 1))])
OLD, NEW = (0, 0, 0), (1, 1, 1)


def plain_plan_holds(store, old, new, value):
    if not is_seq(value):
        return False
    for group in value:
        if not is_seq(group) or not group or not all(is_int(cell) for cell in group):
            return False
    if sorted(cell for group in value for cell in group) != list(batch_lot(old, new)):
        return False
    done = ()
    for group in value:
        for part in lots(group):
            if plain_broken(store, with_set(old, new, done + part)):
                return False
        done += tuple(group)
    return True


def batches(many, seed, sizes=(3, 4)):
    """Some (store, old, new), the same for each seed."""
    choice = random.Random(seed)
    for store, good in good_stores(many, seed, sizes=sizes):
        for old, new in some_pairs(good, 5, choice):
            yield store, old, new


class Plans(unittest.TestCase):

    def test_ordinary(self):
        self.assertIs(plan_holds(STORE, OLD, NEW, [[0], [1], [2]]), True)
        self.assertIs(plan_holds(STORE, OLD, NEW, [[1, 0], [2]]), False)
        self.assertIs(plan_holds(STORE, NEW, OLD, ((2,), (1,), (0,))), True)
        free = Store(SHOP, (0, 1, 2))
        for value in ([[0, 1, 2]], [(2, 0, 1)], [[2], (1, 0)]):
            self.assertIs(plan_holds(free, OLD, NEW, value), True)

    def test_dealt_anew_and_bent(self):
        for value in (
            [], [[]], [[0], [1]], [[0], [], [1], [2]], [[0], [1], [2], []], [[0], [1], [2], [2]], [[0], [1], [2, 2]], [[0], [1], 2], [0, 1, 2],
            [[0], [1], [2], [3]], [[0], [1], [-1]], [[0], [True], [2]], [[False], [1], [2]], None, "012", [["0"]], 3, [[[0]], [[1]], [[2]]],
        ):
            self.assertIs(plan_holds(STORE, OLD, NEW, value), False)
            self.assertIs(plan_holds(STORE, OLD, NEW, thawed(value)), False)

    def test_any_values(self):
        free = Store(SHOP, (0, 1, 2), [(0, (1, 0))])
        for store in (STORE, free):
            for value in [*any_values(), *bent([[0], [1], [2]]), *bent([(0,), (2, 1)]), *bent(((2, 0), [1]))]:
                self.assertIs(plan_holds(store, OLD, NEW, value), plain_plan_holds(store, OLD, NEW, value))

    def test_all_dealings(self):
        plans = others = 0
        for store, old, new in batches(60, 211):
            for value in dealings(batch_lot(old, new)):
                wanted = plain_plan_holds(store, old, new, value)
                plans += wanted
                others += not wanted
                self.assertIs(plan_holds(store, old, new, value), wanted)
                self.assertIs(plan_holds(store, old, new, [group[::-1] for group in value]), wanted)
        self.assertGreater(min(plans, others), 100)

    def test_a_batch_without_cells(self):
        self.assertIs(plan_holds(STORE, OLD, OLD, []), True)
        self.assertIs(plan_holds(STORE, OLD, OLD, [[]]), False)
        self.assertIs(plan_holds(STORE, OLD, OLD, [[0]]), False)
        self.assertEqual(strict(round_plan(STORE, OLD, OLD)), strict(()))
        self.assertEqual(strict(fewest_rounds(STORE, OLD, OLD, most=1)), strict(0))

    def test_errors_of_the_states_come_first(self):
        knotted = Store(Book([2], [MOST, LEAST]), (0, 0), [(0, (0, 1))])
        for call in (
            lambda old, new: plan_holds(knotted, old, new, None), lambda old, new: round_plan(knotted, old, new),
            lambda old, new: fewest_rounds(knotted, old, new, most=1),
        ):
            for old, new, error, at in bad_ends(knotted, (1, 0), (1, 1)):
                got = result_of(call, old, new)
                self.assertIs(type(got), error)
                self.assertEqual(strict(got.at), strict(at if error is not Refused else [1, 1]))

    def test_limits(self):
        laid = [(0, (at % 100, 100 + at // 40)) for at in range(4000)]
        store = Store(Book([2], [MOST]), [0] * 200, laid)
        old, new = (1,) * 100 + (0,) * 100, (0,) * 100 + (1,) * 100
        self.assertIs(plan_holds(store, old, new, [range_of(0, 100), range_of(100, 200)]), True)
        self.assertIs(plan_holds(store, old, new, [range_of(0, 100)[::-1], range_of(100, 200)[::-1]]), True)
        self.assertIs(plan_holds(store, old, new, [range_of(0, 99), range_of(99, 200)]), False)
        self.assertIs(plan_holds(store, old, new, [range_of(100, 200), range_of(0, 100)]), False)
        self.assertEqual(round_plan(store, old, new), (tuple(range(100)), tuple(range(100, 200))))


def range_of(low, high):
    return list(range(low, high))


class Rounds(unittest.TestCase):

    def test_ordinary(self):
        self.assertEqual(strict(round_plan(STORE, OLD, NEW)), strict(((0,), (1,), (2,))))
        self.assertEqual(strict(round_plan(STORE, [1, 1, 0], [0, 0, 0])), strict(((1,), (0,))))

    def test_laid_checks_are_not_looked_at(self):
        self.assertEqual(round_plan(Store(SHOP, (2, 1, 0, 1)), (0,) * 4, (1,) * 4), ((2,), (1, 3), (0,)))

    def test_as_told_and_a_plan_in_any_store(self):
        plans = knots = 0
        for store, old, new in batches(150, 221):
            kinds = {cell: (store.cells[cell], old[cell], new[cell]) for cell in batch_lot(old, new)}
            layers, knot = plain_layers(store.book, list(kinds.values()))
            got = result_of(round_plan, store, old, new)
            if knot:
                knots += 1
                self.assertIs(type(got), Knotted)
                self.assertEqual(strict(got.kinds), strict(knot))
            else:
                plans += 1
                wanted = tuple(tuple(cell for cell in kinds if kinds[cell] in layer) for layer in layers)
                self.assertEqual(strict(got), strict(wanted))
                self.assertTrue(plain_plan_holds(store, old, new, got))
                self.assertIs(plan_holds(store, old, new, got), True)
        self.assertGreater(min(plans, knots), 20)

    def test_a_plan_with_all_checks_laid(self):
        for book in [*small_books(), *some_books(30, 222)]:
            store = laid_everywhere(book, [cell % len(book.columns) for cell in range(3)])
            for old, new in itertools.product(good_states(store)[:6], repeat=2):
                got = result_of(round_plan, store, old, new)
                if not isinstance(got, Knotted):
                    self.assertTrue(plain_plan_holds(store, old, new, got))
                    self.assertLessEqual(fewest_rounds(store, old, new, most=8), len(got))
                if is_ranked(book):
                    self.assertLessEqual(len(got), len(layers_of(book)))

    def test_the_knot_is_that_of_the_batch(self):
        store = Store(Book([2, 2], [MOST, LEAST, ((1, 1), ALIKE[1])]), (0, 0, 1), [])
        got = result_of(round_plan, store, (0, 0, 0), (0, 0, 1))
        self.assertEqual(strict(got.kinds), strict(((1, 0, 1),)))
        self.assertEqual(round_plan(store, (0, 0, 0), (1, 1, 0)), ((0, 1),))
        got = result_of(round_plan, store, (0, 1, 0), (1, 0, 0))
        self.assertEqual(strict(got.kinds), strict(((0, 0, 1), (0, 1, 0))))


class Fewest(unittest.TestCase):

    def test_ordinary(self):
        self.assertEqual(strict(fewest_rounds(STORE, OLD, NEW, most=8)), strict(3))
        self.assertEqual(fewest_rounds(STORE, (0, 0, 0), (1, 1, 0), most=4), 2)
        self.assertEqual(fewest_rounds(Store(SHOP, (0, 1, 2)), OLD, NEW, most=8), 1)
        alike = Store(Book([2], [ALIKE]), [0] * 2, [(0, (0, 1))])
        self.assertIsNone(fewest_rounds(alike, (0, 0), (1, 1), most=4))

    def test_against_all_dealings(self):
        told = {}
        for store, old, new in batches(120, 231, sizes=(3, 4, 5)):
            many = [len(value) for value in dealings(batch_lot(old, new)) if plain_plan_holds(store, old, new, value)]
            wanted = min(many, default=None)
            told[wanted] = told.get(wanted, 0) + 1
            for most in (2 ** len(batch_lot(old, new)), 1024):
                self.assertEqual(strict(fewest_rounds(store, old, new, most=most)), strict(wanted))
        self.assertLessEqual({None, 0, 1, 2, 3}, set(told))

    def test_too_great_exactly_by_the_lots_of_the_batch(self):
        for store, old, new in batches(60, 232):
            many = 2 ** len(batch_lot(old, new))
            for most in (1, 2, 3, 4, 5, 7, 8, 9, 15, 16, 17):
                got = result_of(fewest_rounds, store, old, new, most=most)
                self.assertIs(type(got) is TooGreat, many > most)
                if many > most:
                    self.assertEqual(strict(got.most), strict(most))
        alike = Store(Book([2], [ALIKE]), [0] * 2, [(0, (0, 1))])
        self.assertIs(type(result_of(fewest_rounds, alike, (0, 0), (1, 1), most=3)), TooGreat)

    def test_most_only_by_name(self):
        with self.assertRaises(TypeError):
            fewest_rounds(STORE, OLD, NEW, 8)
        with self.assertRaises(TypeError):
            fewest_rounds(STORE, OLD, NEW)

    def test_limits(self):
        rows = list(itertools.product((0, 1), repeat=3))
        book = Book([2], [((0, 0), ((0, 0), (1, 0), (1, 1))), ((0, 0, 0), [row for row in rows if row != (0, 1, 1)])])
        chain = Store(book, [0] * 10, [(0, (at, at + 1)) for at in range(9)])
        self.assertEqual(fewest_rounds(chain, (0,) * 10, (1,) * 10, most=1024), 10)
        self.assertIs(type(result_of(fewest_rounds, chain, (0,) * 10, (1,) * 10, most=1023)), TooGreat)
        halves = Store(book, [0] * 10, [(0, (at % 5, 5 + at // 5)) for at in range(20)])
        self.assertEqual(fewest_rounds(halves, (0,) * 10, (1,) * 10, most=1024), 2)
        wide = Store(book, [0] * 10, [(1, (at % 5, 5 + at // 5, 9)) for at in range(20)])
        self.assertEqual(fewest_rounds(wide, (0,) * 10, (1,) * 10, most=1024), 2)
        self.assertEqual(fewest_rounds(Store(book, [0] * 10), (0,) * 10, (1,) * 10, most=1024), 1)
        great = Store(book, [0] * 200)
        self.assertIs(type(result_of(fewest_rounds, great, (0,) * 200, (1,) * 200, most=20000)), TooGreat)


if __name__ == "__main__":
    unittest.main()
