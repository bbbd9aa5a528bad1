"""Parked columns: only their cells may be set often, and without being changed by the batch.

A fate of another column goes once at most, from its old value to its new one.
"""

from itertools import combinations

from makefirst.deferring import is_part
from makefirst.detours import search_displays, steps_to_last
from makefirst.displays import Displays, told_detour
from makefirst.errors import Refused
from makefirst.plain import are_ascending


def need_columns(book, value):
    """The columns, themselves; Refused for any value that is no ascending sequence of columns."""
    if not are_ascending(value, len(book.columns)):
        raise Refused(value)
    return value


def may_go(displays, columns, step):
    """Whether a step of a detour that parks these columns alone may be taken."""
    number, value = step
    column, _, new = displays.fates[number]
    # A step goes to another value than the one shown, so a fate goes to its new value once, if to no other one.
    return column in columns or value == new


def search_parked(displays, columns, most):
    """What search_displays tells of the steps that may be taken with these columns parked."""
    return search_displays(
        displays, lambda shown: [step for step in displays.steps(shown) if may_go(displays, columns, step)], most
    )


def parked_way(book, columns, *, most):
    """The least of the detours with the fewest steps that park these columns alone; None if there is none."""
    own = need_columns(book, columns)
    displays = Displays(book)
    return steps_to_last(displays, search_parked(displays, own, most))


def parked_holds(book, columns, value):
    """Whether any value is a detour that parks these columns alone."""
    own = need_columns(book, columns)
    displays = Displays(book)
    steps = told_detour(displays, value)
    return steps is not None and not [step for step in steps if not may_go(displays, own, step)]


def parked_lots(book, *, most):
    """The ascending lots of columns with a detour that parks them alone, of which no lesser part has one."""
    displays = Displays(book)
    columns = list(range(len(book.columns)))
    found = []
    for many in range(len(columns) + 1):
        for lot in combinations(columns, many):
            if not [part for part in found if is_part(part, lot)]:
                if displays.last in search_parked(displays, lot, most):
                    found.append(lot)
    return tuple(sorted(found))
