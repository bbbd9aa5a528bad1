"""Promises [38] to [41]: several hands, each doing a batch at its own pace, and crews."""

import itertools
import random
import unittest

from makefirst.books import Book
from makefirst.errors import BadState, Knotted, Refused, TooGreat
from makefirst.hands import Crew, change_layers, check_changes, clash_holds, clash_paper, go_together, is_moment
from makefirst.layers import is_ranked
from makefirst.stores import Store
from support import ALIKE, LEAST, MOST, any_values, bent, good_stores, is_int, is_seq, lots, plain_broken, plain_layers, result_of
from support import states_of, strict, thawed

BOOK = Book([2], [MOST, LEAST])
STORE = Store(BOOK, [0] * 5, [(0, (0, 1)), (0, (2, 3)), (1, (0, 4))])
STATE = (1, 0, 1, 0, 0)
PAIR = Store(Book([2], [ALIKE]), [0, 0], [(0, (0, 1))])
FREE = Store(Book([2]), [0] * 12)


def plain_are_changes(store, state, value):
    if not is_seq(value) or not value or not all(is_seq(pair) and len(pair) == 2 and all(map(is_int, pair)) for pair in value):
        return False
    for cell, wanted in value:
        if not 0 <= cell < len(state) or not 0 <= wanted < store.book.columns[store.cells[cell]] or wanted == state[cell]:
            return False
    return len(dict(value)) == len(value)


def plain_are_batches(store, state, value):
    if not is_seq(value) or len(value) > 8 or not all(plain_are_changes(store, state, changes) for changes in value):
        return False
    cells = [cell for changes in value for cell, _ in changes]
    return len(set(cells)) == len(cells)


def done(state, batches):
    """The state in which these batches are done."""
    new = dict(pair for changes in batches for pair in changes)
    return tuple(new.get(cell, value) for cell, value in enumerate(state))


def plain_change_layers(store, state, changes):
    """(layers of cells, knot)."""
    kinds = {cell: (store.cells[cell], state[cell], wanted) for cell, wanted in changes}
    layers, knot = plain_layers(store.book, list(kinds.values()))
    return tuple(tuple(cell for cell in sorted(kinds) if kinds[cell] in layer) for layer in layers), knot


def plain_clash(store, state, batches):
    """The least (numbers, laid); None if the batches go together. All lots are looked at, of more than three, too."""
    found = []
    for lot in lots(range(len(batches))):
        broken = plain_broken(store, done(state, [batches[number] for number in lot]))
        found += [(lot, number) for number in broken]
    short = [paper for paper in found if len(paper[0]) <= 3]
    assert bool(found) == bool(short)
    return min(short) if short else None


def plain_moments(store, state, batches):
    """All states to which the hands come; None if the kinds of a batch have a knot."""
    dealt = [plain_change_layers(store, state, changes) for changes in batches]
    if any(knot for _, knot in dealt):
        return None
    goal = done(state, batches)
    found, waiting = {tuple(state)}, [tuple(state)]
    while waiting:
        now = waiting.pop()
        for layers, _ in dealt:
            left = [[cell for cell in layer if now[cell] != goal[cell]] for layer in layers]
            for cell in next((layer for layer in left if layer), []):
                behind = now[:cell] + (goal[cell],) + now[cell + 1:]
                if behind not in found:
                    found.add(behind)
                    waiting.append(behind)
    return found


def some_changes(store, cells, state, choice):
    """A change of each of the cells that has another value."""
    sizes = {cell: store.book.columns[store.cells[cell]] for cell in cells}
    return [(cell, choice.choice([value for value in range(sizes[cell]) if value != state[cell]])) for cell in cells if sizes[cell] > 1]


def some_batches(store, state, choice, most=4):
    """Batches at random, no cell in two of them; one of them at least is not empty."""
    cells = choice.sample(range(len(state)), len(state))
    deals = [[] for _ in range(choice.randint(1, most))]
    for cell in cells:
        choice.choice(deals + [[]]).append(cell)
    return [changes for changes in (some_changes(store, sorted(deal, reverse=True), state, choice) for deal in deals) if changes]


def cases(many, seed, most=4, **named):
    """Some (store, good state, batches), the same for each seed."""
    choice = random.Random(seed)
    for store, good in good_stores(many, seed, **named):
        for _ in range(4):
            state = choice.choice(good)
            yield store, state, some_batches(store, state, choice, most)


def loose_stores(many, seed):
    """Some (store, good states) of two checks that bar one row of three cells each, or the same one."""
    choice = random.Random(seed)
    rows = list(itertools.product((0, 1), repeat=3))
    for _ in range(many):
        pair = choice.choice(([rows[7], rows[7]], [rows[7], choice.choice(rows)]))
        checks = [((0, 0, 0), [row for row in rows if row != barred]) for barred in pair]
        laid = [(choice.randrange(2), choice.sample(range(6), 3)) for _ in range(choice.randint(1, 4))]
        store = Store(Book([2], checks), [0] * 6, laid)
        yield store, [state for state in states_of(store) if not plain_broken(store, state)]


def loose_cases(many, seed, most):
    """Some (store, good state, batches) of these stores."""
    choice = random.Random(seed)
    for store, good in loose_stores(many, seed):
        for _ in range(4):
            state = choice.choice(good)
            yield store, state, some_batches(store, state, choice, most)


def bad_states(many):
    """(value, error, at) for states that are none, or not good, of a store of so many cells; at is the value for Refused."""
    good = [1] + [0] * (many - 1)
    return [
        (None, BadState, -1), (good[1:], BadState, -1), (good[1:] + [9], BadState, many - 1), ([True] + good[1:], BadState, 0),
        ([1] * many, Refused, [1] * many),
    ]


class Changes(unittest.TestCase):

    def test_ordinary(self):
        self.assertEqual(strict(check_changes(STORE, list(STATE), [[4, 1], (0, 0)])), strict(((0, 0), (4, 1))))
        self.assertEqual(strict(check_changes(STORE, STATE, ((3, 1),))), strict(((3, 1),)))
        self.assertEqual(strict(change_layers(STORE, STATE, [(2, 0)])), strict(((2,),)))

    def test_wrong_values(self):
        good = 0
        for value in [*any_values(), *bent([[4, 1], (0, 0)]), *bent(((3, 1),)), [(0, 1)], [(0, 0), (0, 0)], [(5, 0)], [(-1, 1)]]:
            for call in (check_changes, change_layers):
                got = result_of(call, STORE, STATE, value)
                if plain_are_changes(STORE, STATE, value):
                    good += 1
                    if call is check_changes:
                        self.assertEqual(strict(got), strict(tuple(sorted(map(tuple, value)))))
                    continue
                self.assertIs(type(got), Refused)
                self.assertIs(got.at, value)
        self.assertGreater(good, 10)

    def test_errors_in_their_order(self):
        calls = [check_changes, change_layers, go_together, clash_paper]
        calls += [lambda *args: clash_holds(*args, None), lambda *args: is_moment(*args, None)]
        for call in calls:
            for value in (None, [(0, 0)], [[(0, 0)]]):
                for state, error, at in bad_states(5):
                    got = result_of(call, STORE, state, value)
                    self.assertIs(type(got), error)
                    self.assertEqual(strict(got.at), strict(at))

    def test_layers_as_told(self):
        knots = many = 0
        for store, state, batches in [*cases(120, 381), *loose_cases(30, 381, 2)]:
            for changes in batches:
                layers, knot = plain_change_layers(store, state, changes)
                got = result_of(change_layers, store, state, changes)
                knots += bool(knot)
                many += len(layers) > 1 and not knot
                if knot:
                    self.assertIs(type(got), Knotted)
                    self.assertEqual(strict(got.kinds), strict(knot))
                else:
                    self.assertEqual(strict(got), strict(layers))
        self.assertGreater(min(knots, many), 10)

    def test_layers_of_told_kinds_alone(self):
        self.assertFalse(is_ranked(BOOK))
        self.assertEqual(change_layers(STORE, STATE, [(0, 0), (2, 0)]), ((0, 2),))
        got = result_of(change_layers, STORE, STATE, [(0, 0), (4, 1)])
        self.assertIs(type(got), Knotted)
        self.assertEqual(strict(got.kinds), strict(((0, 0, 1), (0, 1, 0))))
        most = Store(Book([2], [MOST]), [0] * 3, [])
        self.assertEqual(strict(change_layers(most, (1, 0, 1), [(2, 0), (1, 1), (0, 0)])), strict(((0, 2), (1,))))


class Together(unittest.TestCase):

    def test_ordinary(self):
        self.assertIs(go_together(STORE, STATE, [[(2, 0)], [(4, 1)]]), True)
        self.assertIs(go_together(STORE, STATE, [[(4, 1)], [(0, 0)]]), False)
        self.assertEqual(strict(clash_paper(STORE, STATE, [[(4, 1)], [(0, 0)]])), strict(((1,), 2)))
        self.assertIs(clash_holds(STORE, STATE, [[(4, 1)], [(0, 0)]], [[1], 2]), True)
        self.assertIs(clash_holds(STORE, STATE, [[(4, 1)], [(0, 0)]], ((0, 1), 2)), False)

    def test_none_and_one(self):
        self.assertIs(go_together(STORE, STATE, []), True)
        self.assertIsNone(clash_paper(STORE, STATE, ()))
        self.assertIs(clash_holds(STORE, STATE, [], [[], 0]), False)
        self.assertIs(is_moment(STORE, STATE, [], list(STATE)), True)
        self.assertIs(go_together(STORE, STATE, [[(0, 0)]]), False)
        self.assertEqual(clash_paper(STORE, STATE, [[(0, 0), (1, 1)]]), ((0,), 2))
        self.assertIs(go_together(STORE, STATE, [[(0, 0), (4, 1)]]), True)

    def test_wrong_values(self):
        good = [[[2, 0]], ((4, 1),)]
        nine = [[[cell, 1]] for cell in range(9)]
        for store, state, values in (
            (STORE, STATE, [*any_values(), *bent(good), [[(2, 0)], [(2, 0)]], [[(2, 0), (4, 1)], [(3, 1), (4, 1)]], [[]], [good[0], []]]),
            (FREE, (0,) * 12, [nine, nine[:8], nine + [[]], [*nine[:7], [[7, 1], [8, 1]]]]),
        ):
            for value in values:
                for call in (go_together, clash_paper, lambda *args: clash_holds(*args, None), lambda *args: is_moment(*args, None)):
                    got = result_of(call, store, state, value)
                    if plain_are_batches(store, state, value):
                        self.assertNotIsInstance(got, Exception)
                    else:
                        self.assertIs(type(got), Refused)
                        self.assertIs(got.at, value)

    def test_at_most_eight(self):
        eight = [[(cell, 1)] for cell in range(8)]
        self.assertIs(go_together(FREE, [0] * 12, eight), True)
        self.assertIs(is_moment(FREE, [0] * 12, eight, [1] * 8 + [0] * 4), True)
        nine = eight + [[(8, 1)]]
        self.assertIs(result_of(go_together, FREE, [0] * 12, nine).at, nine)

    def test_against_all_lots(self):
        three = none = padded = 0
        for store, state, batches in [*cases(150, 382, most=3), *loose_cases(40, 383, 6)]:
            wanted = plain_clash(store, state, batches)
            self.assertEqual(strict(clash_paper(store, state, batches)), strict(wanted))
            self.assertEqual(strict(clash_paper(store, list(state), thawed(batches))), strict(wanted))
            self.assertIs(go_together(store, state, batches), wanted is None)
            none += wanted is None
            if wanted:
                three += len(wanted[0]) == 3
                padded += not plain_broken(store, done(state, [])) and bool(
                    [lot for lot in lots(wanted[0]) if lot != wanted[0] and plain_broken(store, done(state, [batches[at] for at in lot]))]
                )
            for lot in lots(range(len(batches))):
                broken = plain_broken(store, done(state, [batches[number] for number in lot]))
                for laid in range(len(store.laid)):
                    self.assertIs(clash_holds(store, state, batches, [list(lot), laid]), laid in broken)
        self.assertGreater(min(three, none, padded), 10)

    def test_least_goes_by_python_s_order(self):
        store = Store(Book([2], [((0,), [(0,)])]), [0] * 6, [(0, (5,)), (0, (4,))])
        batches = [[(cell, 1)] for cell in range(6)]
        self.assertEqual(strict(clash_paper(store, [0] * 6, batches)), strict(((0, 1, 4), 1)))
        self.assertEqual(strict(clash_paper(store, [0] * 6, [batches[0], batches[5]])), strict(((0, 1), 0)))
        self.assertIs(clash_holds(store, [0] * 6, batches, [list(range(6)), 0]), True)

    def test_values_that_are_no_clash(self):
        batches = [[(4, 1)], [(0, 0)], [(3, 1)]]
        some = 0
        values = [*any_values(), *bent([[1], 2]), *bent(((0, 2), 1)), [[2, 0], 1], [[0, 2, 2], 1], [[1], 3], [[1, 3], 2], [[1], -1], [[-2], 2]]
        for value in values:
            wanted = False
            if is_seq(value) and len(value) == 2 and is_seq(value[0]) and all(map(is_int, [*value[0], value[1]])):
                numbers = list(value[0])
                if numbers == sorted(set(numbers)) and all(0 <= at < 3 for at in numbers):
                    wanted = value[1] in plain_broken(STORE, done(STATE, [batches[at] for at in numbers]))
            some += wanted
            self.assertIs(clash_holds(STORE, STATE, batches, value), wanted)
        self.assertGreater(some, 5)


class Moments(unittest.TestCase):

    def test_ordinary(self):
        batches = [[(2, 0)], [(4, 1)]]
        self.assertIs(is_moment(STORE, STATE, batches, [1, 0, 0, 0, 0]), True)
        self.assertIs(is_moment(STORE, STATE, batches, STATE), True)
        self.assertIs(is_moment(STORE, STATE, batches, (1, 0, 0, 0, 1)), True)
        self.assertIs(is_moment(STORE, STATE, batches, (0, 0, 0, 0, 1)), False)

    def test_against_all_paces(self):
        within = apart = 0
        for store, state, batches in [*cases(100, 391, most=3), *loose_cases(60, 392, 2)]:
            moments = plain_moments(store, state, batches)
            if moments is None:
                self.assertIs(type(result_of(is_moment, store, state, batches, state)), Knotted)
                continue
            for other in states_of(store):
                self.assertIs(is_moment(store, state, batches, other), other in moments)
            within += len(moments) > 4
            apart += len(moments) < 2 ** sum(len(changes) for changes in batches)
        self.assertGreater(min(within, apart), 30)

    def test_all_moments_are_good_exactly_if_the_batches_go_together(self):
        told = {True: 0, False: 0}
        for store, state, batches in [*cases(200, 393, most=3), *loose_cases(60, 394, 4)]:
            moments = plain_moments(store, state, batches)
            if moments is not None:
                good = not any(plain_broken(store, moment) for moment in moments)
                self.assertIs(good, go_together(store, state, batches))
                told[good] += 1
        self.assertGreater(min(told.values()), 30)

    def test_batches_that_do_not_go_together_have_moments_too(self):
        self.assertIs(go_together(STORE, STATE, [[(4, 1)], [(0, 0)]]), False)
        self.assertIs(is_moment(STORE, STATE, [[(4, 1)], [(0, 0)]], (0, 0, 1, 0, 0)), True)

    def test_values_that_are_no_states(self):
        batches = [[(2, 0)], [(4, 1)]]
        for value in [*any_values(), *bent([1, 0, 0, 0, 0]), [1, 0, 0, 0, 2], [1, 0, False, 0, 0], (1, 0, 0, 0, None), (1, 0, 0, 0, 0, 0)]:
            moment = is_seq(value) and all(map(is_int, value)) and tuple(value) in plain_moments(STORE, STATE, batches)
            self.assertIs(is_moment(STORE, STATE, batches, value), moment)

    def test_first_batch_with_a_knot(self):
        store = Store(Book([2, 2], [MOST, LEAST, ((1, 1), ALIKE[1])]), [0, 0, 1, 1])
        state = (1, 0, 0, 0)
        both, lone, free = [(0, 0), (1, 1)], [(2, 1)], [(1, 1)]
        for batches, knot in (
            ([both, lone], ((0, 0, 1), (0, 1, 0))), ([lone, both], ((1, 0, 1),)), ([free, lone], ((1, 0, 1),)), ([free, [(0, 0)]], None),
        ):
            got = result_of(is_moment, store, state, batches, None)
            self.assertIs(type(got), Knotted if knot else bool)
            if knot:
                self.assertEqual(strict(got.kinds), strict(knot))


class Model:
    """A crew worked out in the plainest way."""

    def __init__(self, store, state):
        self.store, self.state, self.layers, self.left = store, tuple(state), [], []

    def under_way(self):
        return [number for number, left in enumerate(self.left) if left]

    def refuses(self, value):
        if not plain_are_changes(self.store, self.state, value):
            return True
        return any(cell in left for cell, _ in value for left in self.left)

    def clash_of(self, value):
        numbers = self.under_way()
        paper = plain_clash(self.store, self.state, [list(self.left[number].items()) for number in numbers] + [value])
        return None if paper is None else tuple(numbers[at] for at in paper[0][:-1])

    def begin(self, value):
        """(error, what it keeps), or the number."""
        if self.refuses(value):
            return Refused, value
        layers, knot = plain_change_layers(self.store, self.state, value)
        if knot:
            return Knotted, knot
        if self.clash_of(value) is not None:
            return Refused, value
        if len(self.under_way()) >= 8:
            return TooGreat, 8
        self.layers.append(layers)
        self.left.append(dict(sorted(map(tuple, value))))
        return len(self.left) - 1

    def next_cells(self, number):
        left = [tuple(cell for cell in layer if cell in self.left[number]) for layer in self.layers[number]]
        return next((layer for layer in left if layer), ())

    def move(self, number, cell):
        wanted = self.left[number].pop(cell)
        self.state = self.state[:cell] + (wanted,) + self.state[cell + 1:]
        return wanted


class Crews(unittest.TestCase):

    def same(self, crew, model):
        self.assertEqual(strict(crew.state), strict(model.state))
        self.assertIs(crew.store, model.store)
        for number, left in enumerate(model.left):
            self.assertEqual(strict(crew.left_of(number)), strict(tuple(sorted(left.items()))))
            self.assertEqual(strict(crew.next_cells(number)), strict(model.next_cells(number)))

    def fails(self, got, error, kept):
        self.assertIs(type(got), error)
        own = got.most if error is TooGreat else got.kinds if error is Knotted else got.at
        if error is Refused:
            self.assertIs(own, kept)
        self.assertEqual(strict(own), strict(kept))

    def test_ordinary(self):
        crew = Crew(STORE, list(STATE))
        self.assertEqual(strict(crew.state), strict(STATE))
        self.assertIs(crew.store, STORE)
        self.assertEqual(strict(crew.begin([(4, 1)])), strict(0))
        self.assertEqual(strict(crew.clash_of([(0, 0)])), strict(()))
        self.assertEqual(strict(crew.move(0, 4)), strict(1))
        self.assertIsNone(crew.clash_of([(0, 0)]))
        self.assertEqual(strict(crew.begin([[0, 0]])), strict(1))
        self.assertEqual(strict(crew.next_cells(1)), strict((0,)))
        self.assertEqual(strict(crew.left_of(1)), strict(((0, 0),)))
        self.assertEqual(strict(crew.leave(1)), strict(((0, 0),)))
        self.assertEqual(strict((crew.left_of(1), crew.next_cells(1), crew.leave(1))), strict(((), (), ())))
        self.assertEqual(strict(crew.state), strict((1, 0, 1, 0, 1)))

    def test_states_that_are_not_good(self):
        for state, error, at in bad_states(5):
            got = result_of(Crew, STORE, state)
            self.assertIs(type(got), error)
            self.assertEqual(strict(got.at), strict(at))

    def test_at_random(self):
        choice = random.Random(401)
        ends = {}
        for store, good in [*good_stores(60, 401, sizes=(4, 5)), *loose_stores(60, 401)]:
            state = choice.choice(good)
            crew, model = Crew(store, state), Model(store, state)
            for _ in range(12):
                changes = choice.choice(some_batches(store, model.state, choice, 3) or [[]])
                if not model.refuses(changes):
                    clash = model.clash_of(changes)
                    self.assertEqual(strict(crew.clash_of(changes)), strict(clash))
                    ends[clash if clash is None else len(clash)] = True
                else:
                    self.fails(result_of(crew.clash_of, changes), Refused, changes)
                wanted = model.begin(changes)
                got = result_of(crew.begin, changes)
                ends[wanted[0] if isinstance(wanted, tuple) else int] = True
                if isinstance(wanted, tuple):
                    self.fails(got, *wanted)
                else:
                    self.assertEqual(strict(got), strict(wanted))
                self.go_on(crew, model, choice)
                self.assertEqual(plain_broken(store, crew.state), ())
                self.same(crew, model)
        self.assertEqual(set(ends), {None, 0, 1, 2, int, Refused, Knotted})

    def go_on(self, crew, model, choice):
        """Moves some cells at random, and leaves a batch off now and then."""
        for number in model.under_way():
            for _ in range(choice.randint(0, 2)):
                ready = model.next_cells(number)
                for cell in range(len(model.state)):
                    if cell not in ready:
                        self.fails(result_of(crew.move, number, cell), Refused, cell)
                if ready:
                    cell = choice.choice(ready)
                    self.assertEqual(strict(crew.move(number, cell)), strict(model.move(number, cell)))
                    self.assertEqual(plain_broken(model.store, crew.state), ())
            if choice.random() < 0.1:
                self.assertEqual(strict(crew.leave(number)), strict(tuple(sorted(model.left[number].items()))))
                model.left[number] = {}

    def test_changes_that_are_none(self):
        for value in [*any_values(), *bent([[4, 1], [1, 0]])]:
            crew, model = Crew(STORE, STATE), Model(STORE, STATE)
            crew.begin([(2, 0)])
            model.begin([(2, 0)])
            if model.refuses(value):
                self.fails(result_of(crew.begin, value), Refused, value)
                self.fails(result_of(crew.clash_of, value), Refused, value)
                self.same(crew, model)

    def test_changes_of_cells_that_are_still_to_be_set(self):
        crew = Crew(FREE, [0] * 12)
        crew.begin([(0, 1), (1, 1)])
        for value in ([(1, 1)], [(2, 1), (0, 1)]):
            self.fails(result_of(crew.begin, value), Refused, value)
            self.fails(result_of(crew.clash_of, value), Refused, value)
        crew.move(0, 1)
        again = [(1, 1)]
        self.fails(result_of(crew.begin, again), Refused, again)
        self.assertEqual(crew.begin([(1, 0)]), 1)
        crew.leave(0)
        self.assertEqual(crew.begin([(0, 1)]), 2)

    def test_errors_of_begin_in_their_order(self):
        crew = Crew(PAIR, (0, 0))
        one, taken = [(0, 1)], [(1, 0)]
        self.fails(result_of(crew.begin, taken), Refused, taken)
        # This clashes, too, but its kind is a knot.
        self.assertEqual(strict(crew.clash_of(one)), strict(()))
        self.fails(result_of(crew.begin, one), Knotted, ((0, 0, 1),))
        self.assertIsNone(crew.clash_of([(0, 1), (1, 1)]))
        self.fails(result_of(crew.begin, [(0, 1), (1, 1)]), Knotted, ((0, 0, 1),))
        self.fails(result_of(Crew(STORE, STATE).begin, taken), Refused, taken)
        clash = [(1, 1)]
        self.fails(result_of(Crew(STORE, STATE).begin, clash), Refused, clash)

    def test_at_most_eight_under_way(self):
        store = Store(Book([2], [MOST]), [0] * 12, [(0, (8, 9)), (0, (10, 8))])
        crew = Crew(store, [0] * 9 + [1, 0, 0])
        for cell in range(8):
            self.assertEqual(crew.begin([(cell, 1)]), cell)
        self.fails(result_of(crew.begin, [(11, 1)]), TooGreat, 8)
        clash = [(8, 1)]
        self.fails(result_of(crew.begin, clash), Refused, clash)
        self.assertEqual(strict(crew.clash_of(clash)), strict((0, 1)))
        self.assertIsNone(crew.clash_of([(11, 1)]))
        crew.move(3, 3)
        self.assertEqual(crew.begin([(11, 1)]), 8)
        self.fails(result_of(crew.begin, [(3, 0)]), TooGreat, 8)
        crew.leave(0)
        self.assertEqual(strict(crew.clash_of(clash)), strict((1, 2)))
        self.assertEqual(crew.begin([(3, 0)]), 9)

    def test_numbers_that_are_none(self):
        crew = Crew(FREE, [0] * 12)
        for many in range(3):
            for value in [*any_values(), -1, many, "0", None, True]:
                if not is_int(value) or not 0 <= value < many:
                    for call in (crew.left_of, crew.next_cells, crew.leave, lambda number: crew.move(number, None)):
                        self.fails(result_of(call, value), Refused, value)
            crew.begin([(many, 1)])
        for value in [*any_values(), 12, True, False]:
            if not is_int(value) or value != 1:
                self.fails(result_of(crew.move, 1, value), Refused, value)
        self.assertEqual(crew.state, (0,) * 12)
        self.assertEqual(crew.move(1, 1), 1)
        self.fails(result_of(crew.move, 1, 1), Refused, 1)

    def test_layers_stay_as_they_were_begun(self):
        crew = Crew(Store(Book([2], [MOST]), [0] * 4, [(0, (0, 1)), (0, (2, 3))]), (1, 0, 1, 0))
        self.assertEqual(crew.begin([(1, 1), (3, 1), (2, 0), (0, 0)]), 0)
        self.assertEqual(strict(crew.next_cells(0)), strict((0, 2)))
        self.fails(result_of(crew.move, 0, 1), Refused, 1)
        self.assertEqual(strict(crew.move(0, 2)), strict(0))
        self.assertEqual(strict((crew.next_cells(0), crew.left_of(0))), strict(((0,), ((0, 0), (1, 1), (3, 1)))))
        crew.move(0, 0)
        self.assertEqual(strict(crew.next_cells(0)), strict((1, 3)))

    def test_who_is_refused_could_come_to_a_bad_state(self):
        refused = 0
        for store, state, batches in [*cases(150, 402, most=3), *loose_cases(60, 402, 3)]:
            if len(batches) > 1 and go_together(store, state, batches[:-1]):
                moments = plain_moments(store, state, batches)
                crew = Crew(store, state)
                got = [result_of(crew.begin, changes) for changes in batches]
                if moments is not None:
                    bad = any(plain_broken(store, moment) for moment in moments)
                    self.assertIs(isinstance(got[-1], Refused), bad)
                    refused += bad
        self.assertGreater(refused, 20)

    def test_later_changes_of_arguments_have_no_effect(self):
        state, changes = [0] * 12, [[4, 1], [1, 1]]
        crew = Crew(FREE, state)
        state[0] = 1
        crew.begin(changes)
        changes[0][1] = 0
        changes.pop()
        self.assertEqual(strict((crew.state, crew.left_of(0))), strict(((0,) * 12, ((1, 1), (4, 1)))))

    def test_arguments_by_names(self):
        crew = Crew(state=STATE, store=STORE)
        self.assertEqual(crew.begin(changes=[(4, 1)]), 0)
        self.assertEqual(crew.clash_of(changes=[(0, 0)]), ())
        self.assertEqual((crew.left_of(number=0), crew.next_cells(number=0)), (((4, 1),), (4,)))
        self.assertEqual((crew.move(cell=4, number=0), crew.leave(number=0)), (1, ()))

    def test_limits(self):
        choice = random.Random(403)
        rows = [row for row in itertools.product((0, 1), repeat=3) if sum(row) < 3]
        laid = [(0, choice.sample(range(200), 3)) for _ in range(4000)]
        store = Store(Book([2], [((0, 0, 0), rows)]), [0] * 200, laid)
        crew = Crew(store, [0] * 200)
        begun = 0
        for cell in range(200):
            if isinstance(crew.clash_of([(cell, 1)]), tuple):
                continue
            number = result_of(crew.begin, [(cell, 1)])
            if isinstance(number, TooGreat):
                for other in range(begun - 8, begun):
                    crew.move(other, crew.next_cells(other)[0])
                number = crew.begin([(cell, 1)]) if crew.clash_of([(cell, 1)]) is None else None
            begun += number is not None
        self.assertGreater(begun, 20)
        self.assertEqual(plain_broken(store, crew.state), ())


if __name__ == "__main__":
    unittest.main()
