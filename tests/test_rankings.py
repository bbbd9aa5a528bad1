"""Promises [14] and [15]: orders of all kinds, and rankings."""

import itertools
import math
import unittest

from makefirst.books import Book
from makefirst.errors import Knotted, Refused, TooGreat
from makefirst.layers import knot_of, layers_of
from makefirst.rankings import check_order, check_ranking, is_ranking, least_ranking, nth_ranking, openings_of
from makefirst.rankings import ranking_place, rankings_many
from support import ALIKE, LEAST, MOST, REFERS, any_values, bent, is_int, is_seq, lots, plain_is_kind, plain_is_let
from support import plain_kinds, plain_layers, plain_rankings, result_of, small_books, some_books, strict, thawed

FIRM = Book([2, 2], [REFERS])
BOTH = Book([2], [MOST, LEAST])


def plain_is_order(book, value):
    if not is_seq(value) or not all(plain_is_kind(book, kind) for kind in value):
        return False
    return sorted(tuple(kind) for kind in value) == plain_kinds(book)


def plain_openings(book):
    """All lots of kinds that have an order in which each is let behind those ahead of it, ascending."""
    found = {()}
    for many in range(len(plain_kinds(book))):
        for opening in [lot for lot in found if len(lot) == many]:
            for kind in plain_kinds(book):
                if kind not in opening and plain_is_let(book, opening, kind):
                    found.add(tuple(sorted(opening + (kind,))))
    return sorted(found)


def books_to_try():
    """Ranked books, and books with a knot, of six kinds at most."""
    return [*small_books(), *some_books(60, 15, columns=((2,), (2, 2), (3,), (1, 2), (3, 1)))]


class Orders(unittest.TestCase):

    def test_check_order(self):
        for order in itertools.permutations(plain_kinds(FIRM)):
            self.assertEqual(strict(check_order(FIRM, order)), strict(order))
            self.assertEqual(strict(check_order(FIRM, thawed(order))), strict(order))
        self.assertEqual(strict(check_order(Book([1]), [])), strict(()))

    def test_any_values(self):
        for book in (FIRM, BOTH, Book([1])):
            for value in [*any_values(), *bent(plain_kinds(book)), plain_kinds(book)[1:], plain_kinds(book) * 2]:
                got = result_of(check_order, book, value)
                if plain_is_order(book, value):
                    self.assertEqual(strict(got), strict(tuple(tuple(kind) for kind in value)))
                else:
                    self.assertIs(type(got), Refused)
                    self.assertIs(got.at, value)


class Rankings(unittest.TestCase):

    def test_ordinary(self):
        ranking = ((0, 1, 0), (1, 0, 1), (0, 0, 1), (1, 1, 0))
        self.assertEqual(strict(least_ranking(FIRM)), strict(ranking))
        self.assertIs(is_ranking(FIRM, thawed(ranking)), True)
        self.assertIs(is_ranking(FIRM, ranking[::-1]), False)
        self.assertEqual(strict(check_ranking(FIRM, thawed(ranking))), strict(ranking))
        got = result_of(least_ranking, BOTH)
        self.assertIs(type(got), Knotted)
        self.assertEqual(strict(got.kinds), strict(((0, 0, 1), (0, 1, 0))))

    def test_all_orders(self):
        for book in books_to_try():
            known = set(plain_rankings(book))
            for order in itertools.permutations(plain_kinds(book)):
                self.assertIs(is_ranking(book, order), order in known)
                got = result_of(check_ranking, book, order)
                if order in known:
                    self.assertEqual(strict(got), strict(order))
                else:
                    self.assertIs(type(got), Refused)
                    self.assertIs(got.at, order)

    def test_least(self):
        for book in books_to_try():
            rankings = plain_rankings(book)
            got = result_of(least_ranking, book)
            if rankings:
                self.assertEqual(strict(got), strict(rankings[0]))
            else:
                self.assertIs(type(got), Knotted)
                self.assertEqual(strict(got.kinds), strict(plain_layers(book)[1]))
                self.assertEqual(strict(got.kinds), strict(knot_of(book)))

    def test_layer_by_layer_is_one(self):
        for book in some_books(100, 16):
            kinds = [kind for layer in layers_of(book) for kind in layer]
            self.assertIs(is_ranking(book, kinds), not knot_of(book))
            self.assertIs(type(result_of(least_ranking, book)) is Knotted, bool(knot_of(book)))

    def test_any_values(self):
        for book in (FIRM, Book([2], [MOST]), BOTH, Book([1]), Book([2])):
            rankings = plain_rankings(book)
            for value in [*any_values(), *bent(rankings[0] if rankings else plain_kinds(book))]:
                wanted = plain_is_order(book, value) and tuple(tuple(kind) for kind in value) in rankings
                self.assertIs(is_ranking(book, value), wanted)
                for call in (check_ranking, lambda book, value: ranking_place(book, value, most=99)):
                    got = result_of(call, book, value)
                    self.assertIs(type(got) is Refused, not wanted)
                    if not wanted:
                        self.assertIs(got.at, value)

    def test_no_kinds(self):
        for book in (Book([1]), Book([1, 1], [((0, 1), [])])):
            self.assertEqual(strict(least_ranking(book)), strict(()))
            self.assertIs(is_ranking(book, []), True)
            self.assertEqual(strict(openings_of(book, most=1)), strict(((),)))
            self.assertEqual(rankings_many(book, most=1), 1)
            self.assertEqual(strict(nth_ranking(book, 0, most=1)), strict(()))
            self.assertEqual(strict(ranking_place(book, [], most=1)), strict(0))
            self.assertIs(type(result_of(nth_ranking, book, 1, most=1)), Refused)


class All(unittest.TestCase):

    def test_ordinary(self):
        self.assertEqual(len(openings_of(FIRM, most=50)), 9)
        self.assertEqual(strict(rankings_many(FIRM, most=50)), strict(6))
        self.assertEqual(strict(nth_ranking(FIRM, 5, most=50)), strict(((1, 0, 1), (0, 1, 0), (1, 1, 0), (0, 0, 1))))
        self.assertEqual(ranking_place(FIRM, [[1, 0, 1], (0, 0, 1), (0, 1, 0), (1, 1, 0)], most=50), 3)

    def test_by_brute_force(self):
        for book in books_to_try():
            openings, rankings = plain_openings(book), plain_rankings(book)
            many = len(openings)
            for most in (many, many + 1, 2000):
                self.assertEqual(strict(openings_of(book, most=most)), strict(tuple(openings)))
                self.assertEqual(strict(rankings_many(book, most=most)), strict(len(rankings)))
            for number, ranking in enumerate(rankings):
                self.assertEqual(strict(nth_ranking(book, number, most=many)), strict(ranking))
                self.assertEqual(strict(ranking_place(book, ranking, most=many)), strict(number))
            for number in (len(rankings), -1, True, None):
                got = result_of(nth_ranking, book, number, most=many)
                self.assertIs(type(got), Refused)
                self.assertIs(got.at, number)

    def test_openings_have_an_order(self):
        for book in (FIRM, Book([2, 2], [MOST, ((1, 1), LEAST[1])]), Book([2, 2], [ALIKE])):
            kinds = plain_kinds(book)
            for lot in lots(kinds):
                orders = [
                    order for order in itertools.permutations(lot)
                    if all(plain_is_let(book, order[:at], kind) for at, kind in enumerate(order))
                ]
                self.assertIs(tuple(lot) in openings_of(book, most=99), bool(orders))

    def test_two_openings_together_are_one(self):
        for book in some_books(25, 17):
            openings = openings_of(book, most=2000)
            for one, other in itertools.product(openings[:40], repeat=2):
                self.assertIn(tuple(sorted({*one, *other})), openings)

    def test_one_too_many(self):
        for book in books_to_try():
            many = len(plain_openings(book))
            if many > 1:
                got = result_of(openings_of, book, most=many - 1)
                self.too_great(got, many - 1)
                self.too_great(result_of(rankings_many, book, most=many - 1), many - 1)
                for number in (0, -1, None, 10 ** 9, True):
                    self.too_great(result_of(nth_ranking, book, number, most=many - 1), many - 1)
                for ranking in plain_rankings(book)[:1]:
                    self.too_great(result_of(ranking_place, book, ranking, most=many - 1), many - 1)

    def too_great(self, got, most):
        self.assertIs(type(got), TooGreat)
        self.assertEqual(strict(got.most), strict(most))

    def test_refused_behind_or_ahead_of_too_great(self):
        self.too_great(result_of(nth_ranking, FIRM, "x", most=1), 1)
        got = result_of(nth_ranking, FIRM, "x", most=9)
        self.assertIs(type(got), Refused)
        self.assertEqual(got.at, "x")
        value = [(0, 0, 1)]
        got = result_of(ranking_place, FIRM, value, most=1)
        self.assertIs(type(got), Refused)
        self.assertIs(got.at, value)
        self.assertIs(type(result_of(ranking_place, BOTH, plain_kinds(BOTH), most=1)), Refused)

    def test_any_number(self):
        for value in [*any_values(), 6, 7]:
            got = result_of(nth_ranking, FIRM, value, most=50)
            if is_int(value) and 0 <= value < 6:
                self.assertEqual(got, plain_rankings(FIRM)[value])
            else:
                self.assertIs(type(got), Refused)
                self.assertIs(got.at, value)

    def test_books_with_a_knot(self):
        self.assertEqual(strict(openings_of(BOTH, most=1)), strict(((),)))
        self.assertEqual(strict(rankings_many(BOTH, most=1)), strict(0))
        mixed = Book([2, 2], [MOST, ((1, 1), MOST[1]), ((1, 1), LEAST[1])])
        self.assertEqual(openings_of(mixed, most=3), ((), ((0, 0, 1), (0, 1, 0)), ((0, 1, 0),)))
        self.assertEqual(rankings_many(mixed, most=3), 0)
        self.assertIs(type(result_of(nth_ranking, mixed, 0, most=3)), Refused)

    def test_most_only_by_name(self):
        for call, args in ((openings_of, ()), (rankings_many, ()), (nth_ranking, (0,)), (ranking_place, (plain_kinds(FIRM),))):
            with self.assertRaises(TypeError):
                call(FIRM, *args, 50)
            with self.assertRaises(TypeError):
                call(FIRM, *args)

    def test_limits(self):
        free = Book([3, 2])
        kinds = tuple(plain_kinds(free))
        self.assertEqual(len(openings_of(free, most=256)), 256)
        self.assertEqual(openings_of(free, most=2000), tuple(sorted(lots(kinds))))
        self.too_great(result_of(openings_of, free, most=255), 255)
        self.assertEqual(rankings_many(free, most=256), math.factorial(8))
        orders = itertools.permutations(kinds)
        for number, order in enumerate(orders):
            if number % 997 == 0 or number > 40300:
                self.assertEqual(nth_ranking(free, number, most=256), order)
                self.assertEqual(ranking_place(free, order, most=256), number)
        self.assertIs(type(result_of(nth_ranking, free, 40320, most=256)), Refused)
        tall = Book([3, 2], [((0, 0), [(0, 0), (0, 1), (1, 1), (0, 2), (1, 2), (2, 2), (1, 0)]), ((1, 1, 0), [(0, 1, 2)])])
        for number in range(rankings_many(tall, most=2000)):
            self.assertEqual(ranking_place(tall, nth_ranking(tall, number, most=2000), most=2000), number)

    def test_eight_kinds_by_brute_force(self):
        rows = [(0, 0), (1, 0), (1, 1), (2, 0), (2, 1)]
        book = Book([3, 2], [((0, 1), rows), ((1, 1), MOST[1]), ((0, 0), [(0, 1), (0, 0), (1, 0), (2, 0), (0, 2)])])
        self.assertEqual(openings_of(book, most=2000), tuple(plain_openings(book)))
        got = [nth_ranking(book, number, most=2000) for number in range(min(300, rankings_many(book, most=2000)))]
        self.assertEqual(got, sorted(got))
        self.assertEqual(len(set(got)), len(got))
        for ranking in got:
            self.assertIs(is_ranking(book, ranking), True)


if __name__ == "__main__":
    unittest.main()
