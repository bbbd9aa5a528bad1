"""Desks: a keeper led by lines, with a line as the answer to each."""

from makefirst.errors import BatchError, Knotted, NoCell
from makefirst.texts import numbers_behind, spaced

# How many numbers there are behind the word of a line; `aim` has one or more.
NUMBERS = {"back": 0, "take": 2, "put": 2, "drop": 1, "state": 0, "goal": 0, "open": 0, "left": 0, "done": 0}


def listed(word, cells):
    """The word and the cells; a dash for none."""
    return word + " " + (spaced(cells) if cells else "-")


def say_left(keeper, _):
    """How many cells are left."""
    return "left " + str(sum([len(layer) for layer in keeper.left]))


def say_aim(keeper, numbers):
    """Aims at a state."""
    keeper.aim(numbers)
    return say_left(keeper, ())


def say_back(keeper, _):
    """Turns back."""
    keeper.turn_back()
    return say_left(keeper, ())


def say_take(keeper, numbers):
    """Has a hand take a cell."""
    keeper.take(numbers[0], numbers[1])
    return "taken"


def say_put(keeper, numbers):
    """Has a hand put a cell."""
    return "value " + str(keeper.put(numbers[0], numbers[1]))


def say_drop(keeper, numbers):
    """Has a hand drop its cells."""
    return listed("dropped", keeper.drop(numbers[0]))


def say_state(keeper, _):
    """The present state."""
    return "state " + spaced(keeper.state)


def say_goal(keeper, _):
    """The state to which the batch under way leads."""
    return "goal none" if keeper.goal is None else "goal " + spaced(keeper.goal)


def say_open(keeper, _):
    """The open cells."""
    return listed("open", keeper.open_cells())


def say_done(keeper, _):
    """How many cells were set."""
    return "done " + str(keeper.done)


ANSWERS = {
    "aim": say_aim, "back": say_back, "take": say_take, "put": say_put, "drop": say_drop, "state": say_state,
    "goal": say_goal, "open": say_open, "left": say_left, "done": say_done,
}


def numbers_of(word, blank, rest):
    """The numbers of a line, parted at its first blank; None for one that is no such line."""
    numbers = numbers_behind("", rest) if blank else []
    if word not in ANSWERS or numbers is None:
        return None
    fits = len(numbers) > 0 if word == "aim" else len(numbers) == NUMBERS[word]
    return numbers if fits else None


class Desk:
    """Leads a keeper by lines."""

    def __init__(self, keeper):
        self.keeper = keeper

    def say(self, line):
        """The answer to any value: a question mark for what is no line."""
        word, blank, rest = line.partition(" ") if isinstance(line, str) else ("", "", "")
        numbers = numbers_of(word, blank, rest)
        if numbers is None:
            return "?"
        answer = ANSWERS[word]
        try:
            return answer(self.keeper, numbers)
        except Knotted:
            return "knot"
        except (BatchError, NoCell):
            return "no"
