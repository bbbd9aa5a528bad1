"""Detours: cells are set as often as one likes, all cells of one fate as one, with good states alone on the way."""

from makefirst.displays import Displays, behind_step, fate_number, is_goal, is_let, looked_at, told_detour
from makefirst.errors import Refused
from makefirst.plain import is_row, is_sequence
from makefirst.searches import search_from, way_to
from makefirst.stores import cell_kind, check_batch, unlike_cells


def fates_of(book):
    """The ascending fates (column, old, new) that are looked at."""
    return looked_at(book)


def is_shown(displays, value):
    """Whether any value is a display."""
    return is_row(value, [displays.book.columns[column] for column, _, _ in displays.fates])


def check_shown(book, value):
    """The display as a tuple; Refused for any value that is none."""
    if not is_shown(Displays(book), value):
        raise Refused(value)
    return tuple(value)


def is_let_step(book, shown, fate, value):
    """Whether it is let in a display that a fate goes to another value."""
    own = check_shown(book, shown)
    displays = Displays(book)
    number = fate_number(displays, fate)
    if number is None:
        raise Refused(fate)
    if not is_goal(displays, own, number, value):
        raise Refused(value)
    return is_let(displays, own, number, value)


def search_displays(displays, steps, most):
    """By display to which steps lead from the first one a display ahead of it; TooGreat if there are more."""
    return search_from(displays.first, lambda shown: [behind_step(shown, step) for step in steps(shown)], most)


def steps_to_last(displays, ahead):
    """The steps (fate, value) by which the search came to the last display; None if it did not."""
    if displays.last not in ahead:
        return None
    found = []
    way = way_to(ahead, displays.last)
    for shown, behind in zip(way, way[1:]):
        number = unlike_cells(shown, behind)[0]
        found.append((displays.fates[number], behind[number]))
    return tuple(found)


def detour_of(book, *, most):
    """The least of the detours with the fewest steps; None if there is no detour."""
    displays = Displays(book)
    return steps_to_last(displays, search_displays(displays, displays.steps, most))


def detour_holds(book, value):
    """Whether any value is a detour: steps from the first display to the last one, each let where it is taken."""
    return told_detour(Displays(book), value) is not None


def stuck_lot(book, *, most):
    """All displays to which let steps lead from the first one, ascending; None if there is a detour."""
    displays = Displays(book)
    found = search_displays(displays, displays.steps, most)
    return None if displays.last in found else tuple(sorted(found))


def stuck_holds(book, value):
    """Whether any value is ascending displays, with the first and not the last, that no let step leaves."""
    displays = Displays(book)
    if not is_sequence(value):
        return False
    for shown in value:
        if not is_shown(displays, shown):
            return False
    lot = [tuple(shown) for shown in value]
    told = {shown: True for shown in lot}
    if lot != sorted(told) or displays.first not in told or displays.last in told:
        return False
    for shown in lot:
        for step in displays.steps(shown):
            if behind_step(shown, step) not in told:
                return False
    return True


def detour_settings(store, old, new, value):
    """The settings (cell, value) of a batch, in their order, by a detour of the store's book."""
    start, goal = check_batch(store, old, new)
    displays = Displays(store.book)
    steps = told_detour(displays, value)
    if steps is None:
        raise Refused(value)
    fates = [cell_kind(store, start, goal, cell) for cell in range(len(start))]
    found = []
    for number, shown in steps:
        found.extend([(cell, shown) for cell, fate in enumerate(fates) if fate == displays.fates[number]])
    found.extend([(cell, goal[cell]) for cell in unlike_cells(start, goal) if fates[cell] not in displays.numbers])
    return tuple(found)
