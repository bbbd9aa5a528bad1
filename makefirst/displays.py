"""Displays: by fate that is looked at the value that its cells show, and the steps that are let in them.

The fate of a cell is (column, old, new). Fates are numbered here, ascending; a display is a tuple by fate. Lots of
fates, and lots of values, are sums of bits, one for each.
"""

from makefirst.books import MOST_VALUES, lots_of, row_between
from makefirst.plain import are_below, is_below, is_sequence


class Displays:
    """The fates of a book that are looked at, the first and the last display, and what is let in displays."""

    def __init__(self, book):
        self.book = book
        self.fates = looked_at(book)
        self.numbers = {fate: number for number, fate in enumerate(self.fates)}
        self.first = tuple([old for _, old, _ in self.fates])
        self.last = tuple([new for _, _, new in self.fates])
        # All three are kept, as searches and walks ask for the same ones again and again.
        self._looks = {}
        self._bends = {}
        self._steps = {}

    def looks(self, number):
        """What looks_of tells of a fate."""
        if number not in self._looks:
            self._looks[number] = looks_of(self, number)
        return self._looks[number]

    def bends(self, check, own, rest, value):
        """What bends_of tells."""
        key = (check, own, rest, value)
        if key not in self._bends:
            self._bends[key] = bends_of(self.book, check, own, rest, value)
        return self._bends[key]

    def steps(self, shown):
        """The steps that are let in a display, each (number of the fate, value), ascending."""
        if shown not in self._steps:
            self._steps[shown] = steps_of(self, shown)
        return self._steps[shown]


def looked_at(book):
    """The ascending fates whose two values stand at some place of a check."""
    found = {}
    for places, rows in book.checks:
        for place, column in enumerate(places):
            values = sorted({row[place] for row in rows})
            for old in values:
                for new in values:
                    found[column, old, new] = True
    return tuple(sorted(found))


def pairs_with(places, rows, fate):
    """All two rows of a check, one old and one new, that have the fate at some place; some of them perhaps twice."""
    column, old, new = fate
    found = []
    for place, own in enumerate(places):
        if own == column:
            ends = [row for row in rows if row[place] == new]
            found.extend([(one, other) for one in rows if one[place] == old for other in ends])
    return found


def looks_of(displays, number):
    """(check, places, fates): at these places of the check two rows have the fate, and others at the other places.

    The fates are, by the one at the first of the other places, the lot of those at the second one. Where there is no
    such place, the fate itself stands in.
    """
    fate = displays.fates[number]
    found = {}
    for check, (places, rows) in enumerate(displays.book.checks):
        for one, other in pairs_with(places, rows, fate):
            numbers = [displays.numbers[column, one[place], other[place]] for place, column in enumerate(places)]
            own = tuple([place for place in range(len(places)) if numbers[place] == number])
            first, second = ([at for at in numbers if at != number] + [number, number])[:2]
            fates = found.setdefault((check, own), {})
            fates[first] = fates.get(first, 0) | 1 << second
    return [(check, own, tuple(fates.items())) for (check, own), fates in found.items()]


def bends_of(book, check, own, rest, value):
    """The lot of values that cells at some places of a check, of one column, may have beside a value, each by itself.

    The other places have the values of the rest, as many as there are.
    """
    places = book.checks[check][0]
    found = 0
    for goal in range(book.columns[places[own[0]]]):
        one = row_bent(len(places), own, rest, value)
        other = row_bent(len(places), own, rest, goal)
        rows = [row_between(one, other, lot) for lot in [()] + lots_of(own)]
        if not [row for row in rows if not book.lets(check, row)]:
            found += 1 << goal
    return found


def row_bent(many, own, rest, value):
    """The row of so many places that has the value at its own ones, and those of the rest at the others."""
    row = [value] * many
    for place, other in zip([place for place in range(many) if place not in own], rest):
        row[place] = other
    return tuple(row)


def by_value(shown):
    """By value the lot of fates that show it."""
    found = [0] * MOST_VALUES
    for number, value in enumerate(shown):
        found[value] += 1 << number
    return found


def rests_shown(shown, lots, fates):
    """All two values that the fates at the other places of a look show together, as looks_of tells these."""
    seconds = [0] * MOST_VALUES
    for first, others in fates:
        seconds[shown[first]] |= others
    return [
        (one, other)
        for one in range(MOST_VALUES)
        for other in range(MOST_VALUES)
        if seconds[one] & lots[other]
    ]


def goals_of(displays, shown, lots, number):
    """The lot of values to which it is let that a fate goes from the one that it shows; this one perhaps among them."""
    value = shown[number]
    found = (1 << displays.book.columns[displays.fates[number][0]]) - 1
    for check, own, fates in displays.looks(number):
        for rest in rests_shown(shown, lots, fates):
            found &= displays.bends(check, own, rest, value)
    return found


def steps_of(displays, shown):
    """The steps that are let in a display, ascending."""
    found = []
    lots = by_value(shown)
    for number, value in enumerate(shown):
        goals = goals_of(displays, shown, lots, number)
        found.extend([(number, goal) for goal in range(MOST_VALUES) if goals >> goal & 1 and goal != value])
    return found


def is_let(displays, shown, number, value):
    """Whether the step is let in a display."""
    return goals_of(displays, shown, by_value(shown), number) >> value & 1 == 1


def behind_step(shown, step):
    """The display to which a step leads."""
    number, value = step
    return shown[:number] + (value,) + shown[number + 1:]


def fate_number(displays, value):
    """The number of any value that is a fate that is looked at; None for any other one."""
    return displays.numbers.get(tuple(value)) if are_below(value, MOST_VALUES) else None


def is_goal(displays, shown, number, value):
    """Whether any value is one of the fate's column, and not the one that it shows."""
    return is_below(value, displays.book.columns[displays.fates[number][0]]) and value != shown[number]


def told_step(displays, shown, value):
    """The step (number of the fate, value) that any value tells, if it is let in the display; None for any other."""
    if not is_sequence(value) or len(value) != 2:
        return None
    number = fate_number(displays, value[0])
    if number is None or not is_goal(displays, shown, number, value[1]):
        return None
    return (number, value[1]) if is_let(displays, shown, number, value[1]) else None


def told_detour(displays, value):
    """The steps, each (number of the fate, value), of any value that is a detour; None for any other one."""
    if not is_sequence(value):
        return None
    found = []
    shown = displays.first
    for item in value:
        step = told_step(displays, shown, item)
        if step is None:
            return None
        found.append(step)
        shown = behind_step(shown, step)
    return found if shown == displays.last else None
