"""Plans: a batch dealt to rounds, in each of which its cells can be set in any order, and by whomever."""

from makefirst.courses import Course, deals_out, lot_from
from makefirst.errors import TooGreat
from makefirst.layers import is_within
from makefirst.searches import bits_in, search_lots, steps_to
from makefirst.stores import check_batch
from makefirst.straight import own_layers


def parts_ahead(course, lot):
    """The parts of those faults to which setting cells can still lead from a lot."""
    return [part for mask, part in course.faults if is_within(lot & mask, part)]


def plan_holds(store, old, new, value):
    """Whether any value is a plan of the batch, the cells of its rounds in any order."""
    start, goal = check_batch(store, old, new)
    if not deals_out(value, start, goal):
        return False
    course = Course(store.book, store, start, goal)
    lot = 0
    for part in value:
        behind = lot + lot_from(course, part)
        if has_any_within(parts_ahead(course, lot), behind):
            return False
        lot = behind
    return True


def has_any_within(parts, lot):
    """Whether all cells of one of the parts are of the lot."""
    for part in parts:
        if is_within(part, lot):
            return True
    return False


def round_plan(store, old, new):
    """The plan by layers of the batch's own kinds; Knotted, with their knot, if they have one."""
    start, goal = check_batch(store, old, new)
    return own_layers(store, start, goal)


def behind_rounds(course, lot):
    """The lots to which a round leads from a lot that is let."""
    parts = parts_ahead(course, lot)
    found = [lot]
    for bit in bits_in(course.whole - lot):
        own = [part for part in parts if part & bit]
        found = found + [longer | bit for longer in found if not has_any_within(own, longer | bit)]
    return found[1:]


def fewest_rounds(store, old, new, *, most):
    """How many rounds the plans of the batch have that have fewest; None if there is no plan.

    TooGreat if the batch has more than so many lots of cells.
    """
    start, goal = check_batch(store, old, new)
    course = Course(store.book, store, start, goal)
    if 1 << len(course.cells) > most:
        raise TooGreat(most)
    ahead = search_lots(lambda lot: behind_rounds(course, lot), most)
    return len(steps_to(ahead, course.whole)) if course.whole in ahead else None
