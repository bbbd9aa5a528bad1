"""Ways of a batch by groups of cells that are set at one go, and a store that bars all of them."""

from makefirst.choices import most_places, paper_patterns, store_of_fates, told_fates
from makefirst.courses import Course, deals_out, group_steps, groups_to_whole
from makefirst.errors import Refused, TooGreat
from makefirst.layers import is_ranked, knot_of, knot_papers
from makefirst.plain import are_ascending, is_below
from makefirst.searches import search_lots
from makefirst.stores import MOST_CELLS, check_batch
from makefirst.straight import fault_on_way

MOST_SIZE = 8


def check_size(value):
    """The size of groups, itself; Refused for any value that is none."""
    if not is_below(value, MOST_SIZE + 1) or value < 1:
        raise Refused(value)
    return value


def are_groups(store, value, size):
    """Whether all of a sequence's items are ascending sequences of at most this many cells."""
    for group in value:
        if not are_ascending(group, len(store.cells)) or len(group) > size:
            return False
    return True


def way_holds(store, old, new, value, size=1):
    """Whether any value is a way of the batch by groups of at most this size."""
    start, goal = check_batch(store, old, new)
    check_size(size)
    if not deals_out(value, start, goal) or not are_groups(store, value, size):
        return False
    return fault_on_way(store, start, goal, value) is None


def straight_way(store, old, new, size=1, *, most):
    """Some way of the batch by groups of at most this size; None if there is none."""
    start, goal = check_batch(store, old, new)
    check_size(size)
    course = Course(store.book, store, start, goal)
    return groups_to_whole(course, search_lots(group_steps(course, size), most))


def barring_store(book, size=1):
    """(store, old, new) with no way by groups of this size; Refused for a ranked book.

    TooGreat(200) or TooGreat(4000) if more cells or laid checks than that are wanted.
    """
    if is_ranked(book):
        raise Refused(book)
    check_size(size)
    patterns = paper_patterns(book, knot_papers(book))
    spare = most_places(book) - 1
    fates = told_fates(knot_of(book), 2 * spare + size, patterns, spare)
    if len(fates) > MOST_CELLS:
        raise TooGreat(MOST_CELLS)
    return store_of_fates(book, fates, patterns)
