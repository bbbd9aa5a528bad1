"""Promises [50] to [52]: keepers, by whom several hands do batches, cell by cell."""

import random
import unittest

from makefirst.books import Book
from makefirst.errors import BadState, Knotted, NoCell, Refused
from makefirst.keeper import Keeper
from makefirst.stores import Store
from support import ALIKE, LEAST, MOST, REFERS, any_values, bent, good_states, is_int, is_int_row, plain_broken, plain_layers, result_of, some_books
from support import some_laid, states_of, strict

PAIRS = [(0, (0, 1)), (0, (0, 2)), (0, (1, 2))]
STORE = Store(Book([2], [MOST]), [0, 0, 0], PAIRS)
ALIKE_STORE = Store(Book([2], [ALIKE]), [0, 0, 0], PAIRS[:1])
FREE = Store(Book([2]), [0, 0, 0])


def plain_left(store, state, goal):
    """(layers of cells, knot) of the batch that leads from a state to another one."""
    kinds = {cell: (store.cells[cell], state[cell], goal[cell]) for cell in range(len(state)) if state[cell] != goal[cell]}
    layers, knot = plain_layers(store.book, list(kinds.values()))
    return tuple(tuple(cell for cell in sorted(kinds) if kinds[cell] in layer) for layer in layers), knot


class Model:
    """A keeper worked out in the plainest way; each deed tells (error, what it keeps), or the result in a tuple of one."""

    def __init__(self, store, state, hands):
        self.store, self.state, self.goal, self.origin = store, tuple(state), None, tuple(state)
        self.left, self.taken, self.done = (), [[] for _ in range(hands)], 0

    def no_state(self, value):
        """The BadState that a value makes; None for a state."""
        if not isinstance(value, (list, tuple)) or len(value) != len(self.state):
            return BadState, -1
        for cell, item in enumerate(value):
            if not is_int(item) or not 0 <= item < self.store.book.columns[self.store.cells[cell]]:
                return BadState, cell
        return None

    def lead(self, store, goal):
        left, knot = plain_left(store, self.state, goal)
        if knot:
            return Knotted, knot
        self.store, self.goal, self.left = store, tuple(goal), left
        self.taken = [[] for _ in self.taken]
        self.rest()
        return (None,)

    def rest(self):
        if self.goal == self.state:
            self.goal, self.origin = None, self.state

    def aim(self, new):
        if self.no_state(new):
            return self.no_state(new)
        return (Refused, new) if plain_broken(self.store, new) else self.lead(self.store, new)

    def turn_back(self):
        return self.aim(self.origin)

    def renew(self, store):
        if store.cells != self.store.cells or store.book.columns != self.store.book.columns:
            return Refused, store
        if plain_broken(store, self.state) or self.goal and plain_broken(store, self.goal):
            return Refused, store
        return self.lead(store, self.goal or self.state)

    def open_cells(self):
        taken = [cell for cells in self.taken for cell in cells]
        return (tuple(cell for cell in (self.left[0] if self.left else ()) if cell not in taken),)

    def no_hand(self, hand):
        return not is_int(hand) or not 0 <= hand < len(self.taken)

    def no_cell(self, cell):
        return not is_int(cell) or not 0 <= cell < len(self.state)

    def take(self, hand, cell):
        if self.no_hand(hand):
            return Refused, hand
        if self.no_cell(cell):
            return NoCell, cell
        if cell not in self.open_cells()[0]:
            return Refused, cell
        self.taken[hand].append(cell)
        return (None,)

    def put(self, hand, cell):
        if self.no_hand(hand):
            return Refused, hand
        if self.no_cell(cell):
            return NoCell, cell
        if cell not in self.taken[hand]:
            return Refused, cell
        value = self.goal[cell]
        self.taken[hand].remove(cell)
        self.state = tuple(value if other == cell else now for other, now in enumerate(self.state))
        layers = [tuple(other for other in layer if other != cell) for layer in self.left]
        self.left, self.done = tuple(layer for layer in layers if layer), self.done + 1
        self.rest()
        return (value,)

    def drop(self, hand):
        if self.no_hand(hand):
            return Refused, hand
        cells, self.taken[hand] = tuple(sorted(self.taken[hand])), []
        return (cells,)


def attributes(keeper):
    return keeper.state, keeper.goal, keeper.origin, keeper.left, keeper.taken, keeper.done


class Keepers(unittest.TestCase):

    def fails(self, got, error, kept):
        self.assertIs(type(got), error)
        own = got.kinds if error is Knotted else got.cell if error is NoCell else got.at
        if error in (Refused, NoCell) and not isinstance(kept, (int, tuple)):
            self.assertIs(own, kept)
        if not isinstance(kept, Store):
            self.assertEqual(strict(own), strict(kept))

    def same(self, keeper, model):
        self.assertIs(keeper.store, model.store)
        taken = tuple(tuple(sorted(cells)) for cells in model.taken)
        wanted = (model.state, model.goal, model.origin, model.left, taken, model.done)
        self.assertEqual(strict(attributes(keeper)), strict(wanted))
        self.assertEqual(strict(keeper.open_cells()), strict(model.open_cells()[0]))

    def holds(self, keeper):
        """What [52] tells behind every call."""
        self.assertEqual(plain_broken(keeper.store, keeper.state), ())
        unlike = [] if keeper.goal is None else [cell for cell in range(len(keeper.state)) if keeper.state[cell] != keeper.goal[cell]]
        self.assertEqual(sorted(cell for layer in keeper.left for cell in layer), unlike)
        self.assertNotIn((), keeper.left)
        taken = sorted(cell for cells in keeper.taken for cell in cells)
        self.assertEqual(len(taken), len(set(taken)))
        self.assertLessEqual(set(taken), set(keeper.left[0] if keeper.left else ()))
        if keeper.goal is None:
            self.assertEqual(keeper.origin, keeper.state)
        else:
            self.assertEqual(plain_broken(keeper.store, keeper.goal), ())
            self.assertNotEqual(keeper.goal, keeper.state)

    def deed(self, keeper, model, name, *args):
        """Does a deed with both, and holds that they are alike; what it came to."""
        before = attributes(keeper)
        wanted = getattr(model, name)(*args)
        got = result_of(getattr(keeper, name), *args)
        if len(wanted) == 2:
            self.fails(got, *wanted)
            self.assertEqual(strict(attributes(keeper)), strict(before))
        else:
            self.assertEqual(strict(got), strict(wanted[0]))
        self.same(keeper, model)
        self.holds(keeper)
        return wanted[0] if len(wanted) == 2 else None

    def test_ordinary(self):
        keeper = Keeper(STORE, [1, 0, 0], 2)
        self.assertIs(keeper.store, STORE)
        self.assertEqual(strict(attributes(keeper)), strict(((1, 0, 0), None, (1, 0, 0), (), ((), ()), 0)))
        self.assertIsNone(keeper.aim([0, 0, 1]))
        self.assertEqual(strict((keeper.left, keeper.open_cells(), keeper.goal)), strict((((0,), (2,)), (0,), (0, 0, 1))))
        self.assertIsNone(keeper.take(1, 0))
        self.assertEqual(strict((keeper.open_cells(), keeper.taken)), strict(((), ((), (0,)))))
        self.assertEqual(strict(keeper.put(1, 0)), strict(0))
        self.assertEqual(strict((keeper.state, keeper.open_cells(), keeper.done)), strict(((0, 0, 0), (2,), 1)))
        self.assertIsNone(keeper.turn_back())
        self.assertEqual(strict((keeper.left, keeper.goal, keeper.origin)), strict((((0,),), (1, 0, 0), (1, 0, 0))))
        keeper.take(0, 0)
        self.assertEqual(strict(keeper.put(0, 0)), strict(1))
        self.assertEqual(strict(attributes(keeper)), strict(((1, 0, 0), None, (1, 0, 0), (), ((), ()), 2)))
        keeper.aim((0, 1, 0))
        self.assertIsNone(keeper.renew(FREE))
        self.assertEqual(strict(keeper.left), strict(((0, 1),)))
        self.assertIs(keeper.store, FREE)

    def test_arguments_by_names(self):
        keeper = Keeper(hands=2, state=(1, 0, 0), store=STORE)
        keeper.aim(new=(0, 0, 1))
        keeper.take(cell=0, hand=1)
        self.assertEqual(keeper.drop(hand=1), (0,))
        keeper.take(hand=0, cell=0)
        self.assertEqual(keeper.put(cell=0, hand=0), 0)
        keeper.renew(store=FREE)

    def test_begins_that_are_wrong(self):
        for value in [*any_values(), *bent([1, 0, 0]), [0, 1, 1], (1, 1, 1)]:
            for hands in (2, None):
                model = Model(STORE, (0, 0, 0), 1)
                got = result_of(Keeper, STORE, value, hands)
                if model.no_state(value):
                    self.fails(got, *model.no_state(value))
                elif plain_broken(STORE, value):
                    self.fails(got, Refused, value)
                    self.assertIs(got.at, value)
                elif hands is None:
                    self.fails(got, Refused, None)
                else:
                    self.assertEqual(strict(got.state), strict(tuple(value)))
        for value in [*any_values(), 0, 1, 8, 9, -1, True, "2"]:
            got = result_of(Keeper, STORE, (1, 0, 0), value)
            if is_int(value) and 1 <= value <= 8:
                self.assertEqual(strict(got.taken), strict(((),) * value))
            else:
                self.fails(got, Refused, value)
                self.assertIs(got.at, value)

    def some_stores(self, many, seed):
        """Some lists of stores of the same cells, of books of the same columns."""
        choice = random.Random(seed)
        for _ in range(many):
            columns = choice.choice(((2,), (2, 2), (3,), (3, 2)))
            cells = [choice.randrange(len(columns)) for _ in range(choice.choice((3, 4)))]
            books = [Book(columns), *some_books(4, choice.randrange(10 ** 6), columns=(columns,), most_checks=2)]
            if columns in ((2,), (2, 2)):
                books += [Book(columns, [MOST]), Book(columns, [LEAST])]
            if columns == (2, 2):
                books += [Book(columns, [REFERS]), Book(columns, [MOST, REFERS])]
            yield [some_laid(book, cells, choice.choice((1, 2)), choice) for book in books], choice

    def some_deed(self, keeper, stores, choice):
        """(name, arguments) of a deed at random; more often than not one that can be done."""
        cells = range(len(keeper.state))
        name = choice.choices(("aim", "turn_back", "renew", "take", "put", "drop"), (9, 6, 9, 30, 40, 3))[0]
        if name == "aim":
            likely = good_states(choice.choice(stores[:3]))
            return name, choice.choice(likely if likely and choice.random() < 0.8 else states_of(keeper.store))
        if name == "renew":
            return name, choice.choice(stores)
        if name == "turn_back":
            return (name,)
        hand = choice.randrange(len(keeper.taken) + (choice.random() < 0.1))
        if name == "drop":
            return name, hand
        likely = keeper.open_cells() if name == "take" else keeper.taken[hand] if hand < len(keeper.taken) else ()
        return name, hand, choice.choice(likely if likely and choice.random() < 0.9 else list(cells) + [len(cells)])

    def test_at_random(self):
        ends = {}
        for stores, choice in self.some_stores(300, 501):
            store = choice.choice(stores[:2])
            good = good_states(store)
            if not good:
                continue
            state = choice.choice(good)
            strange = [Store(store.book, store.cells[:-1]), Store(Book(store.book.columns + (1,)), store.cells)]
            keeper, model = Keeper(store, state, 3), Model(store, state, 3)
            self.same(keeper, model)
            for _ in range(80):
                name, *args = self.some_deed(keeper, stores + strange, choice)
                ended = self.deed(keeper, model, name, *args)
                ends[name, ended] = ends.get((name, ended), 0) + 1
        deeds = ["aim", "turn_back", "renew", "take", "put", "drop"]
        wanted = [(name, end) for name in deeds for end in (None, Refused)]
        wanted += [("aim", Knotted), ("renew", Knotted), ("take", NoCell), ("put", NoCell)]
        for end in wanted:
            self.assertGreater(ends.get(end, 0), 3, end)
        self.assertLessEqual(set(ends), {*wanted, ("turn_back", Knotted)})

    def test_any_values(self):
        values = [*any_values(), *bent([0, 0, 1]), [0, 1, 1], 0, 1, 2, 3, -1, True, False]
        for store in (STORE, ALIKE_STORE):
            for value in values:
                keeper, model = Keeper(store, (0, 0, 0), 2), Model(store, (0, 0, 0), 2)
                self.deed(keeper, model, "aim", value)
        for value in values:
            keeper, model = Keeper(STORE, (1, 0, 0), 2), Model(STORE, (1, 0, 0), 2)
            for at in (0, 1):
                for args in ((value, 0), (value, None), (0, value), (1, value)):
                    self.deed(keeper, model, "take", *args)
                    self.deed(keeper, model, "put", *args)
                self.deed(keeper, model, "drop", value)
                if at == 0:
                    self.deed(keeper, model, "aim", (0, 0, 1))
                    self.deed(keeper, model, "take", 1, 0)

    def test_aim_at_the_present_state(self):
        keeper = Keeper(STORE, (1, 0, 0), 2)
        keeper.aim((0, 0, 1))
        keeper.take(0, 0)
        keeper.put(0, 0)
        self.assertEqual(keeper.origin, (1, 0, 0))
        keeper.take(1, 2)
        keeper.aim([0, 0, 0])
        self.assertEqual(strict(attributes(keeper)), strict(((0, 0, 0), None, (0, 0, 0), (), ((), ()), 1)))
        keeper.turn_back()
        self.assertEqual(strict(attributes(keeper)), strict(((0, 0, 0), None, (0, 0, 0), (), ((), ()), 1)))

    def test_aim_anew_takes_all_from_the_hands(self):
        keeper = Keeper(FREE, (0, 0, 0), 2)
        keeper.aim((1, 1, 1))
        keeper.take(0, 2)
        keeper.take(0, 0)
        keeper.take(1, 1)
        self.assertEqual(strict(keeper.taken), strict(((0, 2), (1,))))
        keeper.aim((1, 1, 0))
        self.assertEqual(strict((keeper.taken, keeper.left, keeper.origin)), strict((((), ()), ((0, 1),), (0, 0, 0))))

    def test_errors_change_nothing(self):
        book = Book([2, 2], [MOST, LEAST])
        store = Store(book, [0, 0, 1], [(0, (0, 1)), (1, (0, 1))])
        keeper = Keeper(store, (1, 0, 0), 2)
        keeper.aim((1, 0, 1))
        keeper.take(1, 2)
        before = attributes(keeper)
        bad = [0, 0, 0]
        for call, args, error, kept in (
            (keeper.aim, ((0, 1, 0),), Knotted, ((0, 0, 1), (0, 1, 0))), (keeper.aim, (bad,), Refused, bad),
            (keeper.aim, (None,), BadState, -1), (keeper.aim, ((1, 0, 2),), BadState, 2), (keeper.take, (0, 2), Refused, 2),
            (keeper.take, (2, 9), Refused, 2), (keeper.take, (0, 9), NoCell, 9), (keeper.put, (0, 2), Refused, 2), (keeper.drop, (5,), Refused, 5),
        ):
            self.fails(result_of(call, *args), error, kept)
            self.assertEqual(strict(attributes(keeper)), strict(before))

    def test_other_stores(self):
        book = Book([2, 2], [MOST])
        keeper = Keeper(Store(book, [0, 0, 1]), (1, 1, 0), 2)
        bars = Store(book, [0, 0, 1], [(0, (0, 1))])
        for store in (bars, Store(book, [0, 0]), Store(book, [0, 0, 0]), Store(Book([2, 3], [MOST]), [0, 0, 1]), Store(Book([2]), [0] * 3)):
            got = result_of(keeper.renew, store)
            self.assertIs(type(got), Refused)
            self.assertIs(got.at, store)
        keeper.aim((1, 0, 0))
        self.assertIs(type(result_of(keeper.renew, bars)), Refused)
        keeper.take(0, 1)
        keeper.put(0, 1)
        keeper.renew(bars)
        self.assertEqual(strict((keeper.state, keeper.origin, keeper.goal, keeper.done)), strict(((1, 0, 0), (1, 0, 0), None, 1)))
        keeper.renew(Store(book, [0, 0, 1]))
        keeper.aim((1, 1, 0))
        self.assertIs(type(result_of(keeper.renew, bars)), Refused)
        self.assertEqual(keeper.goal, (1, 1, 0))

    def test_origin_that_is_not_good_any_more(self):
        keeper = Keeper(FREE, (1, 1, 0), 1)
        keeper.aim((0, 0, 1))
        keeper.take(0, 0)
        keeper.put(0, 0)
        keeper.renew(STORE)
        before = attributes(keeper)
        got = result_of(keeper.turn_back)
        self.assertIs(type(got), Refused)
        self.assertEqual(strict(got.at), strict((1, 1, 0)))
        self.assertEqual(strict(attributes(keeper)), strict(before))
        keeper.renew(FREE)
        self.assertIsNone(keeper.turn_back())
        self.assertEqual(strict(keeper.goal), strict((1, 1, 0)))

    def test_knots_of_a_renewed_store_and_of_the_way_back(self):
        keeper = Keeper(FREE, (0, 0, 0), 1)
        keeper.aim((1, 1, 1))
        alike = Store(Book([2], [ALIKE]), [0, 0, 0], PAIRS)
        self.fails(result_of(keeper.renew, alike), Knotted, ((0, 0, 1),))
        self.assertEqual(strict((keeper.left, keeper.goal)), strict((((0, 1, 2),), (1, 1, 1))))
        self.assertIs(keeper.store, FREE)
        keeper = Keeper(Store(Book([2, 2]), [0, 1]), (0, 0), 2)
        keeper.aim((1, 1))
        keeper.take(1, 0)
        keeper.put(1, 0)
        keeper.renew(Store(Book([2, 2], [ALIKE]), [0, 1]))
        keeper.take(0, 1)
        before = attributes(keeper)
        self.assertEqual(strict(before[:5]), strict(((1, 0), (1, 1), (0, 0), ((1,),), ((1,), ()))))
        self.fails(result_of(keeper.turn_back), Knotted, ((0, 1, 0),))
        self.assertEqual(strict(attributes(keeper)), strict(before))

    def test_three_layers(self):
        store = Store(Book([2, 2, 2], [((1, 0), REFERS[1]), ((2, 1), REFERS[1])]), [2, 1, 0, 2], [(0, (1, 2)), (1, (0, 1)), (1, (3, 1))])
        keeper = Keeper(store, (0, 0, 0, 0), 1)
        keeper.aim((1, 1, 1, 1))
        self.assertEqual(strict(keeper.left), strict(((2,), (1,), (0, 3))))
        opened = []
        while keeper.goal is not None:
            opened.append(keeper.open_cells())
            keeper.take(0, keeper.open_cells()[-1])
            keeper.put(0, keeper.taken[0][0])
            self.holds(keeper)
        self.assertEqual(opened, [(2,), (1,), (0, 3), (0,)])

    def test_hands_that_vanish(self):
        keeper = Keeper(STORE, (1, 0, 0), 3)
        keeper.aim((0, 1, 0))
        keeper.take(2, 0)
        self.assertEqual((keeper.open_cells(), keeper.left), ((), ((0,), (1,))))
        self.fails(result_of(keeper.take, 0, 1), Refused, 1)
        self.assertEqual(strict(keeper.drop(2)), strict((0,)))
        self.assertEqual(strict(keeper.drop(2)), strict(()))
        self.assertEqual(strict(keeper.open_cells()), strict((0,)))

    def test_batches_by_as_many_settings_as_cells(self):
        passed = set()
        for stores, choice in self.some_stores(120, 502):
            store = choice.choice(stores)
            good = good_states(store)
            for _ in range(4 if good else 0):
                old, new = choice.choice(good), choice.choice(good)
                keeper = Keeper(store, old, 4)
                if isinstance(result_of(keeper.aim, new), Knotted):
                    continue
                many, layers = sum(map(len, keeper.left)), keeper.left
                first = []
                while keeper.goal is not None:
                    first.append(layers.index(next(layer for layer in layers if set(keeper.left[0]) <= set(layer))))
                    hand = choice.randrange(4)
                    keeper.take(hand, choice.choice(keeper.open_cells()))
                    keeper.put(hand, keeper.taken[hand][0])
                    self.holds(keeper)
                self.assertEqual((keeper.done, keeper.state), (many, new))
                self.assertEqual(sorted(set(first)), list(range(len(layers))))
                self.assertEqual(first, sorted(first))
                passed.add(len(layers))
        self.assertLessEqual({0, 1, 2}, passed)

    def test_hands_in_any_order_stand_in_good_states(self):
        for stores, choice in self.some_stores(100, 503):
            good = good_states(stores[-1])
            if len(good) > 1:
                keeper = Keeper(stores[-1], choice.choice(good), 3)
                for _ in range(40):
                    name, *args = self.some_deed(keeper, stores[-1:], choice)
                    result_of(getattr(keeper, name), *args)
                    self.holds(keeper)

    def test_later_changes_of_arguments_have_no_effect(self):
        state, new = [1, 0, 0], [0, 0, 1]
        keeper = Keeper(STORE, state, 1)
        state[0] = 0
        keeper.aim(new)
        new[2] = 0
        self.assertEqual(strict((keeper.state, keeper.goal)), strict(((1, 0, 0), (0, 0, 1))))

    def test_limits(self):
        choice = random.Random(504)
        rows = [(first, second, third) for first in range(2) for second in range(2) for third in range(2) if first + second + third < 3]
        laid = [(0, choice.sample(range(30), 3)) for _ in range(600)]
        store = Store(Book([2], [((0, 0, 0), rows)]), [0] * 30, laid)
        keeper = Keeper(store, [0] * 30, 8)
        good = [state for state in ([int(cell in lot) for cell in range(30)] for lot in (choice.sample(range(30), 4) for _ in range(60)))
                if not plain_broken(store, state)]
        self.assertGreater(len(good), 5)
        for at in range(5000):
            name, *args = self.some_deed_of_many(keeper, good, choice, at)
            self.assertNotIsInstance(result_of(getattr(keeper, name), *args), Exception)
        self.holds(keeper)
        self.assertGreater(keeper.done, 500)

    def some_deed_of_many(self, keeper, good, choice, at):
        if at % 50 == 0 or keeper.goal is None:
            return "aim", choice.choice(good)
        hand = choice.randrange(8)
        if keeper.taken[hand]:
            return "put", hand, choice.choice(keeper.taken[hand])
        return ("take", hand, choice.choice(keeper.open_cells())) if keeper.open_cells() else ("drop", hand)

    def test_states_are_told_as_rows_of_integers(self):
        for value in [*bent([0, 0, 1])]:
            got = result_of(Keeper(STORE, (1, 0, 0), 1).aim, value)
            self.assertIs(isinstance(got, BadState), not is_int_row(value, [2, 2, 2]))


if __name__ == "__main__":
    unittest.main()
