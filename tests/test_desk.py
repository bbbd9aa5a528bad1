"""Promises [55] and [56]: desks, that lead a keeper by lines."""

import random
import unittest

from makefirst.books import Book
from makefirst.desk import Desk
from makefirst.errors import Knotted
from makefirst.keeper import Keeper
from makefirst.stores import Store
from support import ALIKE, MOST, REFERS, any_values, result_of

PAIRS = [(0, (0, 1)), (0, (0, 2)), (0, (1, 2))]
STORE = Store(Book([2], [MOST]), [0, 0, 0], PAIRS)
FREE = Store(Book([2]), [0] * 4)
FIGURES = ("0", "1", "2", "3", "9", "999999")
STRANGE = ("", "00", "01", "-1", "+1", "1000000", "0000000", "x", "1.0", "1_0", "None", "-", "\u0661", "\u00b2", "1\n", "\t1")
COUNTS = {"back": 0, "take": 2, "put": 2, "drop": 1, "state": 0, "goal": 0, "open": 0, "left": 0, "done": 0}


def is_number(word):
    return 1 <= len(word) <= 6 and all(sign in "0123456789" for sign in word) and (word == "0" or word[0] != "0")


def is_line(line):
    word, *rest = line.split(" ")
    if not all(map(is_number, rest)):
        return False
    return len(rest) > 0 if word == "aim" else word in COUNTS and len(rest) == COUNTS[word]


def told(numbers):
    return " ".join(map(str, numbers)) if numbers else "-"


def attributes(keeper):
    return keeper.store, keeper.state, keeper.goal, keeper.origin, keeper.left, keeper.taken, keeper.done


def plain_answer(keeper, line):
    """The answer, by the keeper's own methods."""
    if not is_line(line):
        return "?"
    word, *rest = line.split(" ")
    numbers = [int(figures) for figures in rest]
    if word in ("state", "goal", "open", "left", "done"):
        return {
            "state": "state " + told(keeper.state), "goal": "goal " + (told(keeper.goal) if keeper.goal else "none"),
            "open": "open " + told(keeper.open_cells()), "left": "left " + str(len([cell for layer in keeper.left for cell in layer])),
            "done": "done " + str(keeper.done),
        }[word]
    deed = {"aim": lambda: keeper.aim(numbers), "back": keeper.turn_back}.get(word) or (lambda: getattr(keeper, word)(*numbers))
    got = result_of(deed)
    if isinstance(got, Exception):
        return "knot" if isinstance(got, Knotted) else "no"
    if word in ("aim", "back"):
        return "left " + str(len([cell for layer in keeper.left for cell in layer]))
    if word == "drop":
        return "dropped " + told(got)
    return "taken" if word == "take" else "value " + str(got)


class Desks(unittest.TestCase):

    def says(self, desk, *pairs):
        for line, answer in pairs:
            self.assertEqual(desk.say(line), answer, line)

    def test_ordinary(self):
        keeper = Keeper(STORE, (1, 0, 0), 2)
        desk = Desk(keeper)
        self.assertIs(desk.keeper, keeper)
        self.says(
            desk, ("goal", "goal none"), ("open", "open -"), ("left", "left 0"), ("done", "done 0"), ("aim 0 0 1", "left 2"),
            ("open", "open 0"), ("take 0 2", "no"), ("take 0 0", "taken"), ("open", "open -"), ("put 0 0", "value 0"), ("back", "left 1"),
            ("state", "state 0 0 0"), ("goal", "goal 1 0 0"), ("aim 1 1 0", "no"), ("drop 5", "no"), ("lift", "?"), ("left", "left 1"),
            ("take 1 0", "taken"), ("drop 1", "dropped 0"), ("drop 1", "dropped -"), ("take 1 0", "taken"), ("put 1 0", "value 1"),
            ("goal", "goal none"), ("state", "state 1 0 0"), ("done", "done 2"), ("aim 1 0 0", "left 0"),
        )
        self.assertEqual(keeper.done, 2)

    def test_several_cells(self):
        desk = Desk(Keeper(FREE, [0] * 4, 2))
        self.says(
            desk, ("aim 1 0 1 1", "left 3"), ("open", "open 0 2 3"), ("take 0 3", "taken"), ("take 0 0", "taken"), ("drop 0", "dropped 0 3"),
            ("take 1 2", "taken"), ("put 1 2", "value 1"), ("left", "left 2"), ("state", "state 0 0 1 0"), ("back", "left 1"),
        )

    def test_knots(self):
        store = Store(Book([2, 2], [ALIKE]), [0, 1, 0])
        keeper = Keeper(store, (0, 0, 0), 1)
        desk = Desk(keeper)
        before = attributes(keeper)
        self.says(desk, ("aim 1 0 0", "knot"), ("goal", "goal none"))
        self.assertEqual(attributes(keeper), before)
        free = Keeper(Store(Book([2, 2]), [0, 1, 0]), (0, 0, 0), 1)
        self.says(Desk(free), ("aim 1 1 0", "left 2"), ("take 0 0", "taken"), ("put 0 0", "value 1"))
        free.renew(store)
        self.says(Desk(free), ("back", "knot"), ("left", "left 1"), ("goal", "goal 1 1 0"))

    def test_all_errors_are_answered(self):
        keeper = Keeper(STORE, (1, 0, 0), 2)
        desk = Desk(keeper)
        before = attributes(keeper)
        for line in (
            "aim 0", "aim 0 0 0 0", "aim 0 0 2", "aim 1 1 0", "take 2 0", "take 0 3", "take 0 0", "put 2 0", "put 0 3", "put 0 0", "drop 2",
            "take 999999 999999", "aim 999999",
        ):
            self.says(desk, (line, "no"))
            self.assertEqual(attributes(keeper), before)
        back = Keeper(Store(STORE.book, [0, 0, 0]), (1, 1, 0), 1)
        self.says(Desk(back), ("aim 0 0 0", "left 2"), ("take 0 0", "taken"), ("put 0 0", "value 0"))
        back.renew(STORE)
        self.says(Desk(back), ("back", "no"), ("goal", "goal 0 0 0"))

    def test_values_that_are_no_lines(self):
        keeper = Keeper(STORE, (1, 0, 0), 2)
        desk = Desk(keeper)
        keeper.aim((0, 0, 1))
        before = attributes(keeper)
        for value in any_values():
            self.assertEqual(desk.say(value), "?")
        for line in (
            "aim", "aim ", "aim  0 0 1", " aim 0 0 1", "aim 0 0 1 ", "Aim 0 0 1", "aim 0,0,1", "aim\t0 0 1", "aim 0 0 1\n", "aim 0 0 01",
            "aim 0 0 1000000", "back ", "back 0", "take", "take 0", "take 0 0 0", "take 0  0", "put 0", "put", "drop", "drop 0 0", "state 0",
            "state ", " state", "goal 1", "open 0", "left 1", "done 0", "STATE", "none", "-", "aim -", "aim -1", "take x 0", "take 0 00", "\nstate",
            "state\n", "state\nstate", "say state", "turn_back", "renew", "origin", "taken", "aim \u0661 0 0",
        ):
            self.assertEqual(desk.say(line), "?", line)
        self.assertEqual(attributes(keeper), before)

    def test_at_random(self):
        choice = random.Random(551)
        answers = {}
        stores = [STORE, Store(Book([2, 3], [REFERS, ALIKE]), [0, 1, 0, 1], [(0, (0, 1))]), Store(Book([4, 2]), [0, 1, 0])]
        for store in stores * 12:
            one, other = (Keeper(store, [0] * len(store.cells), 3) for _ in range(2))
            desk = Desk(one)
            for _ in range(120):
                word = choice.choice((*COUNTS, "aim", "take", "put", "take", "put", "aims", ""))
                many = len(store.cells) if word == "aim" else COUNTS.get(word, 0)
                sizes = [store.book.columns[column] for column in store.cells] if word == "aim" else (3, len(store.cells))
                numbers = [str(choice.randrange(size)) for size in sizes[:many]]
                if word == "put" and choice.random() < 0.8:
                    numbers = next(([str(hand), str(cells[0])] for hand, cells in enumerate(one.taken) if cells), numbers)
                if choice.random() < 0.1:
                    numbers.insert(choice.randint(0, len(numbers)), choice.choice(FIGURES + STRANGE))
                line = " ".join([word, *numbers])
                wanted = plain_answer(other, line)
                got = desk.say(line)
                self.assertEqual((type(got), got), (str, wanted), line)
                self.assertEqual(attributes(one), attributes(other))
                answers[word, wanted.split(" ")[0]] = True
        for pair in (
            ("aim", "left"), ("aim", "no"), ("aim", "?"), ("back", "left"), ("take", "taken"), ("take", "no"), ("put", "value"), ("put", "no"),
            ("drop", "dropped"), ("state", "state"), ("goal", "goal"), ("open", "open"), ("left", "left"), ("done", "done"), ("aim", "knot"),
        ):
            self.assertIn(pair, answers)

    def test_this_very_keeper(self):
        keeper = Keeper(STORE, (1, 0, 0), 2)
        one, other = Desk(keeper), Desk(keeper=keeper)
        keeper.aim((0, 0, 0))
        self.assertEqual(one.say("left"), "left 1")
        self.assertEqual(other.say(line="take 0 0"), "taken")
        self.assertEqual(keeper.taken, ((0,), ()))
        self.assertEqual(one.say("put 0 0"), "value 0")
        self.assertEqual(keeper.state, (0, 0, 0))

    def test_limits(self):
        store = Store(Book([4]), [0] * 40)
        desk = Desk(Keeper(store, [0] * 40, 8))
        self.says(desk, ("aim " + " ".join(["3"] * 40), "left 40"), ("open", "open " + " ".join(map(str, range(40)))))
        self.says(desk, ("aim " + " ".join(["3"] * 59), "no"), ("drop " + " ".join(["3"] * 59), "?"))
        for cell in range(40):
            self.says(desk, (f"take {cell % 8} {cell}", "taken"), (f"put {cell % 8} {cell}", "value 3"))
        self.says(desk, ("goal", "goal none"), ("done", "done 40"))


if __name__ == "__main__":
    unittest.main()
