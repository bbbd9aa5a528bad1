"""Promises [25], [26] and [27]: checks that suit an order of kinds, hulls, and the fewest rows added."""

import itertools
import math
import random
import unittest

from makefirst.books import Book
from makefirst.errors import NoCheck, Refused, TooGreat
from makefirst.hulls import fewest_added, hull_book, hull_rows, suits, suits_paper
from makefirst.layers import is_ranked
from makefirst.rankings import is_ranking
from support import ALIKE, LEAST, MOST, REFERS, any_values, bent, is_int, is_int_row, is_seq, lots, plain_kinds, plain_rankings
from support import plain_unlike, result_of, small_books, some_books, strict, thawed

BOTH = Book([2], [MOST, LEAST])
MAKE, BREAKS = ((0, 0, 1), (0, 1, 0)), ((0, 1, 0), (0, 0, 1))


def plain_steps(places, one, other, order):
    """(kind, lot, row) on the way from one row to another one, kind by kind, the lots of each ascending."""
    unlike = plain_unlike(places, one, other)
    found = []
    done = ()
    for kind in order:
        own = tuple(place for place in unlike if unlike[place] == kind)
        for lot in sorted(lots(own)):
            row = tuple(other[at] if at in done + lot else one[at] for at in range(len(places)))
            found.append((kind, lot, row))
        done += own
    return found


def plain_paper(places, rows, order):
    """The first paper, as the document tells it; None if the rows suit."""
    for one, other in itertools.product(sorted(rows), repeat=2):
        for kind, lot, row in plain_steps(places, one, other, order):
            if row not in rows:
                return one, other, kind, lot
    return None


def plain_hull(places, rows, order):
    """The rows with those on the way added again and again."""
    found = {tuple(row) for row in rows}
    while True:
        more = {row for one, other in itertools.product(found, repeat=2) for _, _, row in plain_steps(places, one, other, order)}
        if more <= found:
            return tuple(sorted(found))
        found |= more


def plain_is_order(book, value):
    if not is_seq(value) or not all(is_seq(kind) and len(kind) == 3 and all(is_int(item) for item in kind) for kind in value):
        return False
    return sorted(tuple(kind) for kind in value) == plain_kinds(book)


def some_orders(book, many, choice):
    """Some orders of all kinds."""
    kinds = plain_kinds(book)
    return [tuple(choice.sample(kinds, len(kinds))) for _ in range(many)]


def books_to_try(seed):
    return [*small_books(), *some_books(60, seed), Book([2, 2], [((0, 1, 0), []), ((0, 1, 0), list(itertools.product((0, 1), repeat=3)))])]


class Suits(unittest.TestCase):

    def test_ordinary(self):
        self.assertIs(suits(BOTH, 0, BREAKS), True)
        self.assertEqual(strict(suits_paper(BOTH, 0, thawed(MAKE))), strict(((0, 1), (1, 0), (0, 0, 1), (0,))))
        self.assertIs(suits(BOTH, 1, list(MAKE)), True)
        self.assertIs(suits(BOTH, 0, MAKE), False)
        self.assertIsNone(suits_paper(BOTH, 1, MAKE))

    def test_the_places_of_one_kind_in_any_order(self):
        book = Book([2], [((0, 0, 0), [(0, 0, 0), (0, 0, 1), (0, 1, 1), (1, 1, 1)])])
        self.assertEqual(suits_paper(book, 0, MAKE), ((0, 0, 0), (0, 1, 1), (0, 0, 1), (1,)))
        book = Book([2], [((0, 0, 0), [(0, 0, 0), (0, 0, 1), (0, 1, 0), (1, 0, 0), (1, 1, 1)])])
        self.assertEqual(suits_paper(book, 0, MAKE), ((0, 0, 0), (1, 1, 1), (0, 0, 1), (0, 1)))

    def test_all_pairs_of_rows(self):
        choice = random.Random(251)
        papers = 0
        for book in books_to_try(251):
            for check, (places, rows) in enumerate(book.checks):
                for order in some_orders(book, 4, choice):
                    wanted = plain_paper(places, rows, order)
                    papers += wanted is not None
                    self.assertEqual(strict(suits_paper(book, check, order)), strict(wanted))
                    self.assertEqual(strict(suits_paper(book, check, thawed(order))), strict(wanted))
                    self.assertIs(suits(book, check, order), wanted is None)
        self.assertGreater(papers, 100)

    def test_checks_without_rows_and_with_all_rows(self):
        book = Book([3, 2], [((0, 1), []), ((0, 1), list(itertools.product(range(3), range(2)))), ((0,), [(1,)])])
        for order in itertools.islice(itertools.permutations(plain_kinds(book)), 0, None, 997):
            for check in range(3):
                self.assertIs(suits(book, check, order), True)
                self.assertIsNone(suits_paper(book, check, order))

    def test_an_order_is_a_ranking_exactly_if_all_checks_suit(self):
        told = set()
        for book in [*small_books(), *some_books(30, 252, columns=((2,), (2, 2), (3,), (2, 1, 2)))]:
            rankings = set(plain_rankings(book))
            for order in itertools.islice(itertools.permutations(plain_kinds(book)), 0, None, 1 if len(book.columns) < 3 else 5):
                wanted = all(suits(book, check, order) for check in range(len(book.checks)))
                told.add(wanted)
                self.assertIs(order in rankings, wanted)
                self.assertIs(is_ranking(book, order), wanted)
        self.assertEqual(told, {True, False})

    def test_errors_the_check_first(self):
        for call in (suits, suits_paper):
            for value in any_values():
                if not is_int(value) or value not in (0, 1):
                    for order in (MAKE, None, ()):
                        got = result_of(call, BOTH, value, order)
                        self.assertIs(type(got), NoCheck)
                        self.assertIs(got.check, value)
            for value in [*any_values(), *bent(MAKE), MAKE + MAKE, MAKE[:1]]:
                got = result_of(call, BOTH, 0, value)
                if plain_is_order(BOTH, value):
                    self.assertNotIsInstance(got, Exception)
                else:
                    self.assertIs(type(got), Refused)
                    self.assertIs(got.at, value)


class Hulls(unittest.TestCase):

    def test_ordinary(self):
        self.assertEqual(strict(hull_rows(BOTH, (0, 0, 0), [(0, 0, 1), (1, 0, 0)], MAKE)), strict(((0, 0, 1), (1, 0, 0), (1, 0, 1))))
        self.assertEqual(hull_rows(BOTH, [0, 0, 0], [[1, 0, 0], [0, 0, 1]], list(BREAKS)), ((0, 0, 0), (0, 0, 1), (1, 0, 0)))
        self.assertEqual(strict(hull_book(BOTH, MAKE).checks[0][1]), strict(((0, 0), (0, 1), (1, 0), (1, 1))))
        self.assertEqual(hull_book(BOTH, MAKE).checks[1], LEAST)
        self.assertEqual(type(hull_book(BOTH, MAKE)), Book)

    def test_again_and_again(self):
        choice = random.Random(261)
        more = 0
        for columns in ((2,), (2, 2), (3,), (4,), (3, 2), (2, 1, 2), (4, 3)):
            book = Book(columns)
            for _ in range(25):
                places = [choice.randrange(len(columns)) for _ in range(choice.randint(1, 3))]
                table = list(itertools.product(*[range(columns[column]) for column in places]))
                share = choice.choice((0.05, 0.1, 0.3, 0.7))
                rows = [row for row in table if choice.random() < share]
                for order in some_orders(book, 2, choice):
                    wanted = plain_hull(places, rows, order)
                    more += len(wanted) > len(rows)
                    twice = choice.sample(rows + rows[:2], len(rows) + len(rows[:2]))
                    self.assertEqual(strict(hull_rows(book, places, twice, order)), strict(wanted))
                    self.assertEqual(strict(hull_rows(book, tuple(places), thawed(rows), order)), strict(wanted))
                    self.assertIs(suits(Book(columns, [(places, wanted)]), 0, order), True)
        self.assertGreater(more, 80)

    def test_rows_twice_none_and_all(self):
        table = list(itertools.product((0, 1), repeat=2))
        self.assertEqual(strict(hull_rows(BOTH, [0, 0], [], MAKE)), strict(()))
        self.assertEqual(strict(hull_rows(BOTH, [0, 0], table * 3, MAKE)), strict(tuple(table)))
        self.assertEqual(strict(hull_rows(BOTH, [0, 0], [(1, 0)] * 5, MAKE)), strict(((1, 0),)))

    def test_nothing_less_suits(self):
        book = Book([2, 2])
        choice = random.Random(262)
        for places in ((0, 0), (0, 1), (0, 0, 1), (0, 1, 0)):
            table = list(itertools.product((0, 1), repeat=len(places)))
            for order in some_orders(book, 3, choice):
                rows = [row for row in table if choice.random() < 0.4]
                hull = hull_rows(book, places, rows, order)
                for lot in lots([row for row in table if row not in rows]):
                    larger = rows + list(lot)
                    if plain_paper(places, larger, order) is None:
                        self.assertLessEqual(set(hull), set(larger))

    def test_hull_book(self):
        choice = random.Random(263)
        for book in books_to_try(263):
            for order in some_orders(book, 2, choice):
                got = hull_book(book, thawed(order))
                wanted = tuple((places, plain_hull(places, rows, order)) for places, rows in book.checks)
                self.assertEqual(strict((got.columns, got.checks)), strict((book.columns, wanted)))
                self.assertIs(is_ranking(got, order), True)
                if is_ranking(book, order):
                    self.assertEqual(got, book)

    def test_errors_in_their_order(self):
        book = Book([2, 3], [MOST])
        order = plain_kinds(book)
        for value in [*any_values(), *bent((0, 1)), (0, 0, 0, 0), (2,)]:
            if not is_seq(value) or not 1 <= len(value) <= 3 or not is_int_row(value, [2] * len(value)):
                for rows, ranking in (([(0, 0)], order), (None, None), ([], ())):
                    self.refused(result_of(hull_rows, book, value, rows, ranking), value)
        for value in [*any_values(), *bent([(0, 2), (1, 0)]), [(0, 3)], [(2, 0)], [(0, 0, 0)], [(0,)], [0, 0]]:
            if not is_seq(value) or not all(is_int_row(row, (2, 3)) for row in value):
                for ranking in (order, None, ()):
                    self.refused(result_of(hull_rows, book, (0, 1), value, ranking), value)
            else:
                self.assertEqual(hull_rows(book, (0, 1), value, order), plain_hull((0, 1), value, order))
        for value in [*any_values(), *bent(order[:3]), order[1:], order + order[:1]]:
            if not plain_is_order(book, value):
                self.refused(result_of(hull_rows, book, (0, 1), [(0, 0)], value), value)
                self.refused(result_of(hull_book, book, value), value)

    def refused(self, got, value):
        self.assertIs(type(got), Refused)
        self.assertIs(got.at, value)

    def test_limits(self):
        great = Book([4] * 4)
        order = plain_kinds(great)
        table = list(itertools.product(range(4), repeat=3))
        rows = [row for row in table if len(set(row)) == 3]
        self.assertEqual(hull_rows(great, (0, 1, 2), rows, order), plain_hull((0, 1, 2), rows, order))
        self.assertEqual(hull_rows(great, (3, 3, 3), table, order), tuple(table))
        book = Book([4] * 4, [((at % 4, (at + at // 4) % 4, 3), rows) for at in range(6)])
        got = hull_book(book, order)
        self.assertIs(is_ranking(got, order), True)


class Fewest(unittest.TestCase):

    def test_ordinary(self):
        self.assertEqual(strict(fewest_added(BOTH, most=9)), strict((1, MAKE)))
        self.assertEqual(strict(fewest_added(Book([2], [MOST]), most=2)), strict((0, BREAKS)))
        self.assertEqual(strict(fewest_added(Book([1]), most=1)), strict((0, ())))
        self.assertEqual(strict(fewest_added(Book([1, 1], [((0, 1), [])]), most=1)), strict((0, ())))

    def test_against_all_orders(self):
        told = set()
        for book in [*small_books(), *some_books(30, 271, columns=((2,), (2, 2), (3,), (1, 2)), most_places=2)]:
            own = sum(len(rows) for _, rows in book.checks)
            found = []
            for order in itertools.permutations(plain_kinds(book)):
                found.append((sum(len(plain_hull(places, rows, order)) for places, rows in book.checks) - own, order))
            many = len(found)
            for most in (many, many + 1, 20000):
                self.assertEqual(strict(fewest_added(book, most=most)), strict(min(found)))
            told.add(min(found)[0])
            if many > 1:
                got = result_of(fewest_added, book, most=many - 1)
                self.assertIs(type(got), TooGreat)
                self.assertEqual(strict(got.most), strict(many - 1))
        self.assertGreater(len(told), 3)

    def test_none_exactly_if_ranked(self):
        for book in [*small_books(), *some_books(60, 272, columns=((2,), (2, 2), (3,), (2, 1, 2)))]:
            self.assertIs(fewest_added(book, most=720)[0] == 0, is_ranked(book))

    def test_the_ranking_adds_so_many(self):
        for book in some_books(40, 273, columns=((3,), (2, 2, 2))):
            many, order = fewest_added(book, most=720)
            hulls = hull_book(book, order)
            self.assertEqual(sum(len(rows) for _, rows in hulls.checks) - sum(len(rows) for _, rows in book.checks), many)

    def test_most_only_by_name(self):
        with self.assertRaises(TypeError):
            fewest_added(BOTH, 9)
        with self.assertRaises(TypeError):
            fewest_added(BOTH)

    def test_limits(self):
        table = list(itertools.product(range(3), repeat=3))
        unlike = ((0, 0, 0), [row for row in table if len(set(row)) > 1])
        alike = ((0, 0, 0), [row for row in table if len(set(row)) == 1])
        few = ((0, 0, 0), [row for row in table if sum(row) in (1, 4)])
        book = Book([3], [unlike, alike, few] * 2)
        many, order = fewest_added(book, most=720)
        hulls = hull_book(book, order)
        self.assertEqual(sum(len(rows) for _, rows in hulls.checks) - sum(len(rows) for _, rows in book.checks), many)
        self.assertIs(type(result_of(fewest_added, book, most=719)), TooGreat)
        free = Book([2, 2, 2], [((0, 1, 2), list(itertools.product((0, 1), repeat=3)))] * 6)
        self.assertEqual(fewest_added(free, most=720), (0, tuple(plain_kinds(free))))
        self.assertIs(type(result_of(fewest_added, Book([3, 2]), most=math.factorial(8) - 1)), TooGreat)
        refers = Book([2, 2], [REFERS, ((0, 1), ALIKE[1])])
        self.assertIs(type(result_of(fewest_added, refers, most=23)), TooGreat)


if __name__ == "__main__":
    unittest.main()
