"""Promises [53] and [54]: claims of what holds in all stores of a book, with papers that show it."""

import random
import unittest

from detour_support import ABLE, BOTH, EITHER, KNOWN, LOCK, LOCK_WAY, OTHER, STUCK, THREE, plain_reached, plain_walk, plain_way
from makefirst.books import Book
from makefirst.claims import claim_holds, claims_of
from makefirst.detours import detour_holds, detour_of, stuck_holds, stuck_lot
from makefirst.errors import TooGreat
from makefirst.layers import is_ranked, knot_papers, papers_hold
from makefirst.parking import parked_holds, parked_lots, parked_way
from makefirst.rankings import is_ranking, least_ranking
from support import ALIKE, LEAST, MOST, REFERS, any_values, bent, is_int, is_seq, lots, result_of, strict, thawed

RANKED = Book([2], [MOST])
KNOT = Book([2], [MOST, LEAST])
WORDS = ("ranking", "knot", "detour", "stuck", "parked")


def plain_claim_holds(book, value):
    """What the five functions say of it."""
    if not is_seq(value) or len(value) != 2 or not isinstance(value[0], str) or value[0] not in WORDS:
        return False
    word, paper = value
    if word != "parked":
        return {"ranking": is_ranking, "knot": papers_hold, "detour": detour_holds, "stuck": stuck_holds}[word](book, paper)
    if not is_seq(paper) or len(paper) != 2:
        return False
    columns, way = paper
    if not is_seq(columns) or not all(map(is_int, columns)) or list(columns) != sorted(set(columns)):
        return False
    return all(0 <= column < len(book.columns) for column in columns) and parked_holds(book, columns, way)


class Holds(unittest.TestCase):

    def test_ordinary(self):
        self.assertIs(claim_holds(RANKED, ["ranking", [[0, 1, 0], (0, 0, 1)]]), True)
        self.assertIs(claim_holds(RANKED, ("knot", ())), False)
        self.assertIs(claim_holds(KNOT, ("knot", knot_papers(KNOT))), True)
        self.assertIs(claim_holds(LOCK, ["detour", LOCK_WAY]), True)
        self.assertIs(claim_holds(OTHER, ("stuck", [[0, 0, 1, 1]])), True)
        self.assertIs(claim_holds(LOCK, ("parked", ([1], LOCK_WAY))), True)
        self.assertIs(claim_holds(LOCK, ("parked", ([0], LOCK_WAY))), False)

    def test_columns_that_are_refused(self):
        for value in [*any_values(), [1, 0], [0, 2], (True,), [-1], [0, 1]]:
            wanted = is_seq(value) and list(value) in ([1], [0, 1]) and all(map(is_int, value))
            self.assertIs(claim_holds(LOCK, ("parked", (value, LOCK_WAY))), wanted)

    def papers(self, book):
        """Papers that hold of the book, or nearly."""
        reached = plain_reached(book, 2000)
        way = plain_way(book, reached)
        found = [("ranking", least_ranking(book))] if is_ranked(book) else [("knot", knot_papers(book))]
        found.append(("stuck", tuple(sorted(reached))))
        if way is not None:
            found.append(("detour", way))
            found += [("parked", (columns, way)) for columns in lots(range(len(book.columns)))]
        return found

    def test_bent_papers(self):
        told = {word: [0, 0] for word in WORDS}
        for book in (RANKED, LOCK, OTHER, Book([2, 2], [REFERS])):
            for claim in self.papers(book):
                for value in [claim, thawed(claim), *bent(claim)]:
                    wanted = plain_claim_holds(book, value)
                    self.assertIs(claim_holds(book, value), wanted)
                    told[claim[0]][wanted] += 1
        self.assertGreater(min(many for pair in told.values() for many in pair), 2)

    def test_other_words(self):
        for book in (RANKED, LOCK, OTHER):
            papers = [paper for _, paper in self.papers(book)]
            for paper in papers:
                for word in (*WORDS, "Ranking", "rank", "", "knots", None, 0, True, ["ranking"], ("detour",)):
                    self.assertIs(claim_holds(book, (word, paper)), plain_claim_holds(book, (word, paper)))

    def test_any_values(self):
        for book in (RANKED, LOCK, OTHER, Book([1]), Book([2])):
            for value in any_values():
                self.assertIs(claim_holds(book, value), False)
                for word in WORDS:
                    self.assertIs(claim_holds(book, [word, value]), plain_claim_holds(book, [word, value]))
                    self.assertIs(claim_holds(book, (word, (value, ()))), plain_claim_holds(book, (word, (value, ()))))
                self.assertIs(claim_holds(book, (value, ())), False)

    def test_just_one_of_two_can_be_shown(self):
        choice = random.Random(531)
        for book, reached in KNOWN:
            papers = self.papers(book)
            shown = {word for word, paper in papers if claim_holds(book, (word, paper))}
            self.assertEqual(len(shown & {"ranking", "knot"}), 1)
            self.assertEqual(len(shown & {"detour", "stuck"}), 1)
            self.assertEqual("parked" in shown, "detour" in shown)
            for word, paper in papers:
                other = (choice.choice(WORDS), paper)
                if claim_holds(book, other):
                    self.assertTrue(other[0] in shown or other[0] == "detour" and plain_walk(book, paper) is not None)


class Claims(unittest.TestCase):

    def test_ordinary(self):
        self.assertEqual(strict(claims_of(RANKED, most=500)[0]), strict(("ranking", ((0, 1, 0), (0, 0, 1)))))
        self.assertEqual([word for word, _ in claims_of(Book([2], [ALIKE]), most=500)], ["knot", "stuck"])
        self.assertEqual([word for word, _ in claims_of(RANKED, most=500)], ["ranking", "detour", "parked"])
        self.assertEqual(strict(claims_of(LOCK, most=300)[1:]), strict((("detour", LOCK_WAY), ("parked", ((1,), LOCK_WAY)))))

    def test_as_told(self):
        told = set()
        for book, reached in [*KNOWN, *[(book, plain_reached(book, 2000)) for book in (EITHER, THREE, BOTH)]]:
            most = len(reached)
            wanted = [("ranking", least_ranking(book)) if is_ranked(book) else ("knot", knot_papers(book))]
            if plain_way(book, reached) is None:
                wanted.append(("stuck", stuck_lot(book, most=most)))
            else:
                columns = parked_lots(book, most=most)[0]
                wanted += [("detour", detour_of(book, most=most)), ("parked", (columns, parked_way(book, columns, most=most)))]
            got = claims_of(book, most=most)
            self.assertEqual(strict(got), strict(tuple(wanted)))
            told.add(tuple(word for word, _ in got))
            for claim in got:
                self.assertIs(claim_holds(book, claim), True)
                self.assertIs(claim_holds(book, thawed(claim)), True)
        self.assertEqual(told, {("ranking", "detour", "parked"), ("knot", "detour", "parked"), ("knot", "stuck")})

    def test_first_of_several_lots(self):
        self.assertEqual(len(parked_lots(EITHER, most=2000)), 2)
        word, (columns, way) = claims_of(EITHER, most=2000)[2]
        self.assertEqual(strict((word, columns)), strict(("parked", (0,))))
        self.assertIs(parked_holds(EITHER, [2], way), False)

    def test_ranked_books_park_no_columns(self):
        for book, _ in ABLE:
            if is_ranked(book):
                self.assertEqual(claims_of(book, most=300)[2][1][0], ())

    def test_too_great(self):
        tried = 0
        for book, reached in KNOWN:
            if len(reached) > 1:
                tried += 1
                got = result_of(claims_of, book, most=len(reached) - 1)
                self.assertIs(type(got), TooGreat)
                self.assertEqual(strict(got.most), strict(len(reached) - 1))
        self.assertGreater(tried, 100)
        self.assertGreater(len(STUCK), 50)

    def test_most_only_by_name(self):
        with self.assertRaises(TypeError):
            claims_of(RANKED, 500)
        with self.assertRaises(TypeError):
            claims_of(RANKED)

    def test_books_without_kinds_or_checks(self):
        for book in (Book([1]), Book([1, 1], [((0, 1), [(0, 0)])]), Book([1], [((0,), [])])):
            self.assertEqual(strict(claims_of(book, most=1)), strict((("ranking", ()), ("detour", ()), ("parked", ((), ())))))
        self.assertEqual(strict(claims_of(Book([2]), most=1)[0]), strict(("ranking", ((0, 0, 1), (0, 1, 0)))))

    def test_limits(self):
        free = [(0,), (1,)]
        book = Book([2] * 4, [((0, 0), ALIKE[1]), ((1,), free), ((2,), free)])
        claims = claims_of(book, most=20000)
        self.assertEqual([(word, len(paper)) for word, paper in claims], [("knot", 2), ("stuck", 256)])
        for claim in claims:
            self.assertIs(claim_holds(book, claim), True)
        # Here 256 displays are reached, each by the steps of eight fates.
        book = Book([2] * 4, [((0,), free), ((1,), free)])
        claims = claims_of(book, most=256)
        self.assertEqual([word for word, _ in claims], ["ranking", "detour", "parked"])
        self.assertEqual((len(claims[1][1]), claims[2][1][0]), (4, ()))


if __name__ == "__main__":
    unittest.main()
