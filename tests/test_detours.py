"""Promises [42] to [45]: fates, displays, steps, detours, and what shows that there is none."""

import itertools
import random
import unittest

from detour_support import ABLE, BOTH, EITHER, KNOWN, LOCK, LOCK_WAY, OTHER, STUCK, THREE, behind, ends_of, plain_fates
from detour_support import plain_is_let_step, plain_reached, plain_walk, plain_way
from makefirst.books import Book
from makefirst.detours import check_shown, detour_holds, detour_of, detour_settings, fates_of, is_let_step, stuck_holds, stuck_lot
from makefirst.errors import Refused, TooGreat
from makefirst.layers import is_ranked, layers_of
from makefirst.stores import Store
from support import ALIKE, MOST, REFERS, any_values, bad_ends, bent, frozen, good_states, is_int, is_int_row, is_seq, laid_everywhere
from support import plain_broken, result_of, small_books, some_books, strict, thawed

LOCK_STORE = Store(LOCK, (0, 0, 1), [(0, (0, 1, 2))])


def plain_stuck_holds(book, value):
    fates = plain_fates(book)
    sizes = [book.columns[column] for column, _, _ in fates]
    if not is_seq(value) or not all(is_int_row(shown, sizes) for shown in value):
        return False
    lot = [tuple(shown) for shown in value]
    first, last = ends_of(book)
    if lot != sorted(set(lot)) or first not in lot or last in lot:
        return False
    for shown in lot:
        for fate, now in zip(fates, shown):
            for goal in range(book.columns[fate[0]]):
                if goal != now and behind(book, shown, fate, goal) not in lot and plain_is_let_step(book, shown, fate, goal):
                    return False
    return True


class Fates(unittest.TestCase):

    def test_ordinary(self):
        self.assertEqual(strict(fates_of(OTHER)), strict(((0, 0, 0), (0, 0, 1), (0, 1, 0), (0, 1, 1))))
        self.assertEqual(strict(fates_of(LOCK)), strict(tuple(itertools.product((0, 1), repeat=3))))

    def test_values_at_one_place_alone(self):
        book = Book([3, 2, 2], [((0, 0), [(0, 1), (0, 2)]), ((1,), [(1,)]), ((1, 2), [])])
        self.assertEqual(strict(fates_of(book)), strict(((0, 0, 0), (0, 1, 1), (0, 1, 2), (0, 2, 1), (0, 2, 2), (1, 1, 1))))
        self.assertEqual(strict(fates_of(Book([2, 2]))), strict(()))
        self.assertEqual(strict(fates_of(Book([2], [((0, 0), [])]))), strict(()))

    def test_as_told(self):
        for book in [*small_books(), *some_books(150, 421)]:
            self.assertEqual(strict(fates_of(book)), strict(plain_fates(book)))

    def test_shown(self):
        self.assertEqual(strict(check_shown(OTHER, [0, 1, 1, 0])), strict((0, 1, 1, 0)))
        self.assertEqual(strict(check_shown(Book([2]), [])), strict(()))

    def test_values_that_are_no_displays(self):
        mixed = Book([3, 2], [((0, 1), [(2, 0), (2, 1)])])
        good = 0
        for book, display in ((OTHER, [0, 1, 1, 0]), (mixed, (2, 1, 0, 1, 1)), (Book([2]), ())):
            sizes = [book.columns[column] for column, _, _ in plain_fates(book)]
            for value in [*any_values(), *bent(display), [0, 1, 1, 2], [0, True, 1, 0], [0, 1, 1, -1], (2, 2, 0, 1, 1), (3, 1, 0, 1, 1)]:
                for call in (check_shown, lambda book, value: is_let_step(book, value, None, None)):
                    got = result_of(call, book, value)
                    if is_int_row(value, sizes) and call is check_shown:
                        good += 1
                        self.assertEqual(strict(got), strict(tuple(value)))
                    else:
                        self.assertIs(type(got), Refused)
                        self.assertIs(got.at, None if is_int_row(value, sizes) else value)
        self.assertGreater(good, 10)


class Steps(unittest.TestCase):

    def test_ordinary(self):
        self.assertIs(is_let_step(OTHER, (0, 0, 1, 1), (0, 0, 1), 1), False)
        self.assertIs(is_let_step(LOCK, [0, 0, 1, 1, 0, 0, 1, 1], [1, 0, 0], 1), True)
        self.assertIs(is_let_step(LOCK, [0, 0, 1, 1, 0, 0, 1, 1], (0, 0, 1), 1), False)

    def test_as_told_in_any_display(self):
        choice = random.Random(431)
        told = {True: 0, False: 0}
        for book in [*small_books(), *some_books(120, 431), *some_books(40, 432, columns=((4,), (4, 2), (3, 3, 2))), LOCK, BOTH, THREE, EITHER]:
            fates = plain_fates(book)
            for _ in range(6 if fates else 0):
                first, last = ends_of(book)
                shown = choice.choice((first, last, tuple(choice.randrange(book.columns[column]) for column, _, _ in fates)))
                fate = choice.choice(fates)
                for value in range(book.columns[fate[0]]):
                    if value != shown[fates.index(fate)]:
                        wanted = plain_is_let_step(book, shown, fate, value)
                        told[wanted] += 1
                        self.assertIs(is_let_step(book, thawed(shown), thawed(fate), value), wanted)
        self.assertGreater(min(told.values()), 100)

    def test_each_place_by_itself(self):
        both = Book([2], [((0, 0), [(0, 0), (1, 1)])])
        self.assertEqual(fates_of(both), ((0, 0, 0), (0, 0, 1), (0, 1, 0), (0, 1, 1)))
        self.assertIs(is_let_step(both, (0, 0, 1, 1), (0, 0, 1), 1), False)
        lone = Book([2], [((0, 0), [(0, 0), (0, 1), (1, 0), (1, 1)])])
        self.assertIs(is_let_step(lone, (0, 0, 1, 1), (0, 0, 1), 1), True)
        triple = Book([2], [((0, 0, 0), [(0, 0, 0), (1, 1, 1), (0, 1, 1), (1, 0, 0)])])
        self.assertIs(is_let_step(triple, (0, 0, 1, 1), (0, 0, 1), 1), False)

    def test_wrong_fates_and_values(self):
        mixed = Book([3, 2], [((0, 1), [(0, 0), (0, 1), (2, 1)])])
        shown = (0, 0, 2, 2, 0, 0, 1, 1)
        self.assertEqual(ends_of(mixed)[0], shown)
        fates = plain_fates(mixed)
        for value in [*any_values(), *bent([0, 2, 0]), (0, 0, 1), (0, 1, 1), (2, 0, 0), [1, 1, 0], (0, 2, 2), (0, 2, True), (0, 3, 3)]:
            got = result_of(is_let_step, mixed, shown, value, None)
            fine = is_seq(value) and all(map(is_int, value)) and tuple(value) in fates
            self.assertIs(type(got), Refused)
            self.assertIs(got.at, None if fine else value)
        for fate in fates:
            for value in [*any_values(), 0, 1, 2, 3, True, False, -1]:
                got = result_of(is_let_step, mixed, shown, fate, value)
                if is_int(value) and 0 <= value < mixed.columns[fate[0]] and value != shown[fates.index(fate)]:
                    self.assertIs(got, plain_is_let_step(mixed, shown, fate, value))
                else:
                    self.assertIs(type(got), Refused)
                    self.assertIs(got.at, value)

    def test_books_without_fates(self):
        for value in any_values():
            got = result_of(is_let_step, Book([2]), (), value, 0)
            self.assertIs(type(got), Refused)
            self.assertIs(got.at, value)


class Detours(unittest.TestCase):

    def test_ordinary(self):
        self.assertEqual(strict(detour_of(LOCK, most=300)), strict(LOCK_WAY))
        self.assertIsNone(detour_of(OTHER, most=9))
        self.assertIs(detour_holds(LOCK, LOCK_WAY), True)
        self.assertIs(detour_holds(LOCK, LOCK_WAY[1:]), False)

    def test_least_of_fewest(self):
        unranked = 0
        for book, reached in KNOWN:
            wanted = plain_way(book, reached)
            unranked += wanted is not None and not is_ranked(book)
            for most in (len(reached), 20000):
                self.assertEqual(strict(detour_of(book, most=most)), strict(wanted))
            if wanted is not None:
                self.assertIs(detour_holds(book, wanted), True)
        self.assertGreater(unranked, 5)
        self.assertGreater(len(STUCK), 50)

    def test_longer_ways(self):
        for book, many in ((THREE, 8), (BOTH, 12), (EITHER, 6)):
            self.assertFalse(is_ranked(book))
            reached = plain_reached(book, 2000)
            way = detour_of(book, most=len(reached))
            self.assertGreaterEqual(len(way), many)
            self.assertEqual(strict(way), strict(plain_way(book, reached)))

    def test_nothing_to_do(self):
        for book in (Book([2]), Book([2, 3], [((0, 1), [])]), Book([2, 2], [((0, 1), [(1, 0)])]), Book([1], [((0, 0), [(0, 0)])])):
            self.assertEqual(strict(detour_of(book, most=1)), strict(()))
            self.assertIs(detour_holds(book, []), True)
            self.assertIs(detour_holds(book, ()), True)
            self.assertIsNone(stuck_lot(book, most=1))
            self.assertIs(stuck_holds(book, [ends_of(book)[0]]), False)

    def test_ranked_books_have_detours_by_their_layers(self):
        for book in [book for book, _ in KNOWN if is_ranked(book)]:
            kinds = [kind for layer in layers_of(book) for kind in layer]
            way = [(kind, kind[2]) for kind in kinds if kind in plain_fates(book)]
            self.assertIs(detour_holds(book, way), True)
            self.assertEqual(len(detour_of(book, most=300)), len(way))

    def test_values_that_are_no_detours(self):
        some = 0
        far = [*LOCK_WAY[:1], ((1, 0, 0), 0), *LOCK_WAY]
        values = [*any_values(), *bent(LOCK_WAY), *bent(thawed(LOCK_WAY[:2])), far, thawed(far), [*LOCK_WAY, *LOCK_WAY]]
        for value in values:
            wanted = plain_walk(LOCK, value) is not None
            some += wanted
            self.assertIs(detour_holds(LOCK, value), wanted)
            self.assertIs(detour_holds(LOCK, frozen(value)), wanted)
        self.assertGreater(some, 3)
        for value in any_values():
            self.assertIs(detour_holds(Book([2]), value), value == [] or value == ())

    def test_walks_at_random(self):
        choice = random.Random(441)
        told = {True: 0, False: 0}
        for book, reached in ABLE:
            first, last = ends_of(book)
            for _ in range(8):
                shown, walk = first, []
                while shown != last and len(walk) < 30 and reached[shown]:
                    step, shown = choice.choice(reached[shown])
                    walk.append(step)
                if walk and choice.random() < 0.5:
                    at = choice.randrange(len(walk))
                    walk[at] = (walk[at][0], choice.randrange(book.columns[walk[at][0][0]]))
                wanted = plain_walk(book, walk) is not None
                told[wanted] += 1
                self.assertIs(detour_holds(book, walk), wanted)
        self.assertGreater(min(told.values()), 50)

    def test_one_too_many(self):
        tried = 0
        for book, reached in KNOWN:
            if len(reached) > 1:
                for call in (detour_of, stuck_lot):
                    tried += 1
                    got = result_of(call, book, most=len(reached) - 1)
                    self.assertIs(type(got), TooGreat)
                    self.assertEqual(strict(got.most), strict(len(reached) - 1))
        self.assertGreater(tried, 100)

    def test_most_only_by_name(self):
        for call in (detour_of, stuck_lot):
            with self.assertRaises(TypeError):
                call(LOCK, 300)
            with self.assertRaises(TypeError):
                call(LOCK)


class Stuck(unittest.TestCase):

    def test_ordinary(self):
        self.assertEqual(strict(stuck_lot(OTHER, most=9)), strict(((0, 0, 1, 1),)))
        self.assertIs(stuck_holds(OTHER, []), False)
        self.assertIs(stuck_holds(OTHER, [[0, 0, 1, 1]]), True)
        self.assertIsNone(stuck_lot(LOCK, most=300))

    def test_as_told(self):
        many = 0
        for book, reached in KNOWN:
            able = ends_of(book)[1] in reached
            got = stuck_lot(book, most=len(reached))
            self.assertEqual(strict(got), strict(None if able else tuple(sorted(reached))))
            many += not able and len(reached) > 3
            if not able:
                self.assertIs(stuck_holds(book, got), True)
                self.assertIs(stuck_holds(book, thawed(got)), True)
                self.assertIs(stuck_holds(book, got[::-1]), len(got) == 1)
                self.assertIs(stuck_holds(book, got[:-1]), plain_stuck_holds(book, got[:-1]))
                self.assertIs(stuck_holds(book, got[1:]), plain_stuck_holds(book, got[1:]))
        self.assertGreater(many, 10)

    def test_lots_at_random(self):
        choice = random.Random(451)
        some = 0
        for book, reached in STUCK:
            sizes = [range(book.columns[column]) for column, _, _ in plain_fates(book)]
            lot = {tuple(map(choice.choice, sizes)) for _ in range(3)} | set(reached)
            for value in (sorted(lot), sorted(lot)[1:], sorted([*lot, ends_of(book)[1]])):
                wanted = plain_stuck_holds(book, value)
                some += wanted and len(value) > len(reached)
                self.assertIs(stuck_holds(book, value), wanted)
        self.assertGreater(some, 5)

    def test_values_that_are_none(self):
        lot = stuck_lot(OTHER, most=9)
        more = [(0, 0, 1, 1), (1, 1, 0, 0)]
        some = 0
        for book in (OTHER, LOCK, Book([2])):
            for value in [*any_values(), *bent(lot), *bent(more), [[0, 0, 1, 1], [0, 0, 1, 1]], [[0, 0, 1, 1], [0, 1, 0, 1]]]:
                wanted = plain_stuck_holds(book, value)
                some += wanted
                self.assertIs(stuck_holds(book, value), wanted)
        self.assertGreater(some, 5)

    def test_lots_that_steps_leave(self):
        first = ends_of(LOCK)[0]
        self.assertIs(stuck_holds(LOCK, [first]), False)
        without_last = sorted(shown for shown in plain_reached(LOCK, 300) if shown != ends_of(LOCK)[1])
        self.assertIs(stuck_holds(LOCK, without_last), False)

    def test_there_is_the_one_or_the_other(self):
        for book, reached in KNOWN:
            detour, lot = detour_of(book, most=300), stuck_lot(book, most=300)
            self.assertEqual((detour is None, lot is None), (lot is not None, detour is not None))


class Settings(unittest.TestCase):

    def test_ordinary(self):
        got = detour_settings(LOCK_STORE, [0, 1, 0], (1, 0, 0), LOCK_WAY)
        self.assertEqual(strict(got), strict(((2, 1), (0, 1), (1, 0), (2, 0))))
        self.assertEqual(strict(detour_settings(LOCK_STORE, (1, 0, 0), (1, 0, 0), thawed(LOCK_WAY))), strict(((2, 1), (2, 0))))

    def test_cells_whose_fate_is_not_looked_at(self):
        book = Book([2, 3], [MOST])
        store = Store(book, (1, 0, 1, 0, 1), [(0, (1, 3))])
        got = detour_settings(store, (2, 1, 0, 0, 1), (0, 0, 1, 1, 1), [((0, 1, 0), 0), ((0, 0, 1), 1)])
        self.assertEqual(strict(got), strict(((1, 0), (3, 1), (0, 0), (2, 1))))

    def cases(self):
        choice = random.Random(442)
        books = [book for book, _ in ABLE if len(book.checks) < 3] + [LOCK, THREE, BOTH, EITHER]
        for book in books:
            way = detour_of(book, most=2000)
            cells = [column for column in range(len(book.columns)) for _ in range(2)][:5]
            for store in (laid_everywhere(book, cells), Store(book, cells, laid_everywhere(book, cells).laid[::3])):
                good = good_states(store)
                for _ in range(3 if good else 0):
                    yield store, choice.choice(good), choice.choice(good), way, choice

    def test_as_told(self):
        for store, old, new, way, _ in self.cases():
            fates = list(zip(store.cells, old, new))
            wanted = [(cell, value) for fate, value in way for cell in range(len(fates)) if fates[cell] == fate]
            idle = [cell for cell, fate in enumerate(fates) if fate not in plain_fates(store.book) and fate[1] != fate[2]]
            self.assertEqual(strict(detour_settings(store, old, new, way)), strict(tuple(wanted + [(cell, new[cell]) for cell in idle])))

    def test_states_are_good_whatever_the_order_within_a_step(self):
        unranked = 0
        for store, old, new, way, choice in self.cases():
            unranked += old != new and not is_ranked(store.book)
            settings = detour_settings(store, old, new, way)
            fates = list(zip(store.cells, old, new))
            state, rest = list(old), list(settings)
            for fate, value in way:
                own = [cell for cell in range(len(fates)) if fates[cell] == fate]
                self.assertEqual(rest[:len(own)], [(cell, value) for cell in own])
                del rest[:len(own)]
                choice.shuffle(own)
                while own:
                    for cell in [own.pop() for _ in range(choice.randint(1, len(own)))]:
                        state[cell] = value
                    self.assertEqual(plain_broken(store, state), ())
            for cell, value in rest:
                state[cell] = value
                self.assertEqual(plain_broken(store, state), ())
            self.assertEqual(tuple(state), new)
        self.assertGreater(unranked, 20)

    def test_errors_in_their_order(self):
        bad = (0, 0, 0)
        for value in (None, LOCK_WAY):
            for old, new, error, at in bad_ends(LOCK_STORE, (0, 1, 0), bad):
                got = result_of(detour_settings, LOCK_STORE, old, new, value)
                self.assertIs(type(got), error)
                self.assertEqual(strict(got.at), strict(at if error is not Refused else list(bad)))
        for value in [*any_values(), *bent(LOCK_WAY), LOCK_WAY[1:], LOCK_WAY[:-1]]:
            got = result_of(detour_settings, LOCK_STORE, (0, 1, 0), (1, 0, 0), value)
            if plain_walk(LOCK, value) is None:
                self.assertIs(type(got), Refused)
                self.assertIs(got.at, value)
            else:
                self.assertIsInstance(got, tuple)

    def test_stuck_books(self):
        store = Store(OTHER, [0, 0], [(0, (0, 1))])
        for value in ((), [], LOCK_WAY):
            self.assertIs(type(result_of(detour_settings, store, (0, 1), (1, 0), value)), Refused)


class Limits(unittest.TestCase):

    def test_large_books(self):
        choice = random.Random(461)
        table = list(itertools.product(range(4), repeat=3))
        ends = set()
        for out in (1, 3, 20, 56):
            checks = []
            for _ in range(6):
                barred = choice.sample(table, out)
                checks.append(([choice.randrange(4) for _ in range(3)], [row for row in table if row not in barred]))
            book = Book([4] * 4, checks)
            got = result_of(detour_of, book, most=2000)
            ends.add(type(got))
            lot = result_of(stuck_lot, book, most=2000)
            if isinstance(lot, tuple):
                self.assertIs(stuck_holds(book, lot), True)
        self.assertLessEqual(ends, {TooGreat, tuple, type(None)})

    def test_many_steps(self):
        book = Book([4], [((0,), [(0,), (1,), (2,), (3,)])])
        fates = plain_fates(book)
        self.assertEqual(len(fates), 16)
        self.assertIs(type(result_of(detour_of, book, most=2000)), TooGreat)
        there = [((0, 0, 0), 1), ((0, 0, 0), 0)] * 194
        ranked = [(fate, fate[2]) for fate in fates if fate[1] != fate[2]]
        self.assertEqual(len(there + ranked), 400)
        self.assertIs(detour_holds(book, there + ranked), True)
        self.assertIs(detour_holds(book, there + ranked[1:]), False)
        store = Store(book, [0] * 200, [(0, (cell,)) for cell in range(200)])
        old, new = [cell // 4 % 4 for cell in range(200)], [cell % 4 for cell in range(200)]
        stay = [cell for cell in range(200) if old[cell] == new[cell] == 0]
        changed = [cell for cell in range(200) if old[cell] != new[cell]]
        self.assertEqual(len(detour_settings(store, old, new, there + ranked)), 388 * len(stay) + len(changed))

    def test_many_displays(self):
        free = [(0,), (1,)]
        book = Book([2] * 4, [((0, 0), ALIKE[1]), ((1,), free), ((2,), free), ((3, 3), MOST[1])])
        lot = stuck_lot(book, most=1536)
        self.assertEqual(len(lot), 1536)
        self.assertIs(stuck_holds(book, lot), True)
        self.assertIs(stuck_holds(book, lot[:700] + lot[701:]), False)


if __name__ == "__main__":
    unittest.main()
