"""Promise [46]: detours in which only the cells of some columns are set often."""

import itertools
import random
import unittest

from detour_support import ABLE, BOTH, EITHER, KNOWN, LOCK, LOCK_WAY, OTHER, STUCK, THREE, behind, ends_of, is_parked, plain_fates
from detour_support import plain_reached, plain_walk, plain_way
from makefirst.books import Book
from makefirst.detours import detour_holds, detour_of, detour_settings
from makefirst.errors import Refused, TooGreat
from makefirst.layers import is_ranked, layers_of
from makefirst.parking import parked_holds, parked_lots, parked_way
from support import MOST, all_tables, any_values, bent, good_states, is_int, is_seq, laid_everywhere, lots, result_of, strict, thawed


def plain_parked_holds(book, columns, value):
    walk = plain_walk(book, value)
    return walk is not None and all(is_parked(book, columns, shown, step) for step, shown in walk)


def plain_lots(book, reached):
    """The least lots of columns that can be parked."""
    able = [lot for lot in lots(range(len(book.columns))) if plain_way(book, reached, lot) is not None]
    return tuple(sorted(lot for lot in able if not any(set(other) < set(lot) for other in able)))


def are_columns_of(book, value):
    if not is_seq(value) or not all(map(is_int, value)):
        return False
    return list(value) == sorted(set(value)) and all(0 <= column < len(book.columns) for column in value)


class Ways(unittest.TestCase):

    def test_ordinary(self):
        self.assertEqual(strict(parked_way(LOCK, [1], most=300)), strict(LOCK_WAY))
        self.assertIsNone(parked_way(LOCK, (0,), most=300))
        self.assertIsNone(parked_way(LOCK, (), most=300))
        self.assertEqual(strict(parked_way(LOCK, (0, 1), most=300)), strict(LOCK_WAY))
        self.assertIsNone(parked_way(OTHER, [0], most=9))

    def test_as_told(self):
        longer = 0
        for book, reached in [*KNOWN, (EITHER, plain_reached(EITHER, 2000))]:
            fewest = plain_way(book, reached)
            for columns in lots(range(len(book.columns))):
                wanted = plain_way(book, reached, columns)
                longer += bool(wanted and not is_ranked(book) and len(wanted) > len(fewest) or wanted is None and fewest is not None)
                self.assertEqual(strict(parked_way(book, columns, most=len(reached))), strict(wanted))
                if wanted is not None:
                    self.assertIs(parked_holds(book, columns, wanted), True)
        self.assertGreater(longer, 5)

    def test_all_columns_parked(self):
        for book, _ in ABLE:
            self.assertEqual(strict(parked_way(book, list(range(len(book.columns))), most=300)), strict(detour_of(book, most=300)))

    def test_none_parked(self):
        for book, _ in KNOWN:
            self.assertIs(parked_way(book, [], most=300) is not None, is_ranked(book))

    def test_columns_that_are_none(self):
        for book in (LOCK, BOTH, Book([2] * 4, [MOST])):
            for value in [*any_values(), *bent([0, 1]), [1, 0], [0, 0], [True], [0, 4], [-1], [0, 1, 2, 3], (0, 3), [2]]:
                for call in (lambda value: parked_way(book, value, most=2000), lambda value: parked_holds(book, value, None)):
                    got = result_of(call, value)
                    if are_columns_of(book, value):
                        self.assertNotIsInstance(got, Exception)
                    else:
                        self.assertIs(type(got), Refused)
                        self.assertIs(got.at, value)

    def test_refused_ahead_of_too_great(self):
        for call in (parked_way, lambda book, columns, most: parked_holds(book, columns, LOCK_WAY)):
            got = result_of(call, LOCK, [1, 0], most=1)
            self.assertIs(type(got), Refused)

    def test_too_great(self):
        tried = 0
        for book, reached in [*KNOWN, (EITHER, plain_reached(EITHER, 2000))]:
            whole = tuple(range(len(book.columns)))
            for columns in lots(whole):
                for most in (1, len(reached) // 2, len(reached) - 1):
                    if most > 0:
                        got = result_of(parked_way, book, columns, most=most)
                        if isinstance(got, TooGreat):
                            tried += 1
                            self.assertEqual(strict(got.most), strict(most))
                        else:
                            self.assertEqual(strict(got), strict(plain_way(book, reached, columns)))
            if len(reached) > 1:
                got = result_of(parked_way, book, whole, most=len(reached) - 1)
                self.assertIs(type(got), TooGreat)
        self.assertGreater(tried, 100)

    def test_most_only_by_name(self):
        with self.assertRaises(TypeError):
            parked_way(LOCK, [1], 300)
        with self.assertRaises(TypeError):
            parked_lots(LOCK, 300)


class Holds(unittest.TestCase):

    def test_ordinary(self):
        self.assertIs(parked_holds(LOCK, [1], LOCK_WAY), True)
        self.assertIs(parked_holds(LOCK, [0], LOCK_WAY), False)
        self.assertIs(parked_holds(LOCK, [], thawed(LOCK_WAY)), False)
        self.assertIs(parked_holds(LOCK, (0, 1), thawed(LOCK_WAY)), True)

    def test_values(self):
        told = {True: 0, False: 0}
        far = (((1, 0, 0), 1), ((1, 0, 0), 0), *LOCK_WAY)
        for columns in lots((0, 1)):
            for value in [*any_values(), *bent(LOCK_WAY), far, thawed(far), (*LOCK_WAY, ((1, 1, 1), 1))]:
                wanted = plain_parked_holds(LOCK, columns, value)
                told[wanted] += 1
                self.assertIs(parked_holds(LOCK, columns, value), wanted)
        self.assertGreater(told[True], 5)

    def test_walks_at_random(self):
        choice = random.Random(461)
        told = {True: 0, False: 0}
        for book, reached in [*ABLE, (EITHER, plain_reached(EITHER, 2000))]:
            last = ends_of(book)[1]
            for _ in range(6):
                shown, walk = ends_of(book)[0], []
                while shown != last and len(walk) < 40 and reached[shown]:
                    step, shown = choice.choice(reached[shown])
                    walk.append(step)
                for columns in lots(range(len(book.columns))):
                    wanted = plain_parked_holds(book, columns, walk)
                    told[wanted and columns != tuple(range(len(book.columns)))] += 1
                    self.assertIs(parked_holds(book, columns, walk), wanted)
        self.assertGreater(min(told.values()), 20)

    def test_once_from_old_to_new(self):
        book = Book([2, 3], [((0,), [(0,), (1,)]), ((1,), [(0,), (1,), (2,)])])
        way = [(fate, fate[2]) for fate in plain_fates(book) if fate[1] != fate[2]]
        self.assertIs(parked_holds(book, [], way), True)
        by_another_value = [step for step in way if step[0] != (1, 0, 1)] + [((1, 0, 1), 2), ((1, 0, 1), 1)]
        back = way + [((1, 0, 1), 0), ((1, 0, 1), 1)]
        away = way + [((1, 0, 0), 1), ((1, 0, 0), 0)]
        for walk in (by_another_value, back, away):
            self.assertIs(detour_holds(book, walk), True)
            self.assertIs(parked_holds(book, [], walk), False)
            self.assertIs(parked_holds(book, [0], walk), False)
            self.assertIs(parked_holds(book, [1], walk), True)


class Lots(unittest.TestCase):

    def test_ordinary(self):
        self.assertEqual(strict(parked_lots(LOCK, most=300)), strict(((1,),)))
        self.assertEqual(strict(parked_lots(OTHER, most=9)), strict(()))
        self.assertEqual(strict(parked_lots(BOTH, most=2000)), strict(((0, 1),)))
        self.assertEqual(strict(parked_lots(THREE, most=2000)), strict(((0,),)))
        self.assertEqual(strict(parked_lots(EITHER, most=2000)), strict(((0,), (2,))))

    def test_ascending_as_tuples(self):
        cube = list(itertools.product((0, 1), repeat=3))
        checks = [((2, 3, 3), [row for row in cube if row != (1, 1, 0)]), ((0, 2, 1), cube[1:])]
        self.assertEqual(strict(parked_lots(Book([2] * 4, checks), most=2000)), strict(((0, 2), (1, 2))))
        barred = (((3, 0, 3), (1, 0, 1)), ((2, 3, 0), (1, 1, 1)), ((3, 1, 3), (0, 1, 0)))
        checks = [(places, [row for row in cube if row != out]) for places, out in barred]
        self.assertEqual(strict(parked_lots(Book([2] * 4, checks), most=2000)), strict(((0, 2), (1,))))

    def test_as_told(self):
        ends = set()
        for book, reached in KNOWN:
            wanted = plain_lots(book, reached)
            ends.add(wanted)
            self.assertEqual(strict(parked_lots(book, most=len(reached))), strict(wanted))
        self.assertLessEqual({(), ((),), ((0,),), ((1,),), ((0, 1),)}, ends)

    def test_ranked_and_stuck_books(self):
        for book, _ in KNOWN:
            self.assertIs(parked_lots(book, most=300) == ((),), is_ranked(book))
        for book, _ in STUCK:
            self.assertEqual(strict(parked_lots(book, most=300)), strict(()))

    def test_one_column_of_two_values(self):
        for rows in [*all_tables((2, 2)), *all_tables((2, 2, 2))[::5]]:
            book = Book([2], [((0,) * (len(rows[0]) if rows else 2), rows)])
            self.assertIs(detour_of(book, most=300) is not None, is_ranked(book))

    def test_too_great(self):
        for book, reached in KNOWN:
            for most in (1, len(reached) // 2, len(reached) - 1):
                if most > 0:
                    got = result_of(parked_lots, book, most=most)
                    if isinstance(got, TooGreat):
                        self.assertEqual(strict(got.most), strict(most))
                    else:
                        self.assertEqual(strict(got), strict(plain_lots(book, reached)))
        self.assertIs(type(result_of(parked_lots, LOCK, most=5)), TooGreat)


class Stores(unittest.TestCase):

    def test_cells_of_other_columns_are_set_once(self):
        choice = random.Random(462)
        tried = 0
        for book in (LOCK, EITHER, Book([2, 2], [((1, 1, 0), ((0, 1, 0), (0, 1, 1), (1, 0, 0), (1, 0, 1), (1, 1, 0)))])):
            for columns in parked_lots(book, most=2000):
                way = parked_way(book, columns, most=2000)
                store = laid_everywhere(book, [column for column in range(len(book.columns)) for _ in range(2)])
                store = type(store)(book, store.cells, store.laid[1::4])
                good = good_states(store)
                for _ in range(8):
                    old, new = choice.choice(good), choice.choice(good)
                    own = [(cell, value) for cell, value in detour_settings(store, old, new, way) if store.cells[cell] not in columns]
                    changed = [(cell, new[cell]) for cell in range(len(old)) if old[cell] != new[cell]]
                    self.assertEqual(sorted(own), [step for step in changed if store.cells[step[0]] not in columns])
                    tried += len(own) > 0
        self.assertGreater(tried, 10)

    def test_ranked_books_park_nothing(self):
        for book, _ in KNOWN:
            if is_ranked(book):
                kinds = [kind for layer in layers_of(book) for kind in layer if kind in plain_fates(book)]
                self.assertIs(parked_holds(book, [], [(kind, kind[2]) for kind in kinds]), True)

    def test_displays_that_come_of_it(self):
        shown = ends_of(LOCK)[0]
        for fate, value in LOCK_WAY:
            shown = behind(LOCK, shown, fate, value)
        self.assertEqual(shown, ends_of(LOCK)[1])


if __name__ == "__main__":
    unittest.main()
