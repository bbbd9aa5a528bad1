"""A store with a batch that nobody lets in, however often cells are set and by groups of a told size."""

from makefirst.barring import check_size
from makefirst.choices import most_places, pattern_of, store_of_fates
from makefirst.detours import fates_of, stuck_lot
from makefirst.errors import Refused, TooGreat
from makefirst.stores import MOST_CELLS


def wayless_store(book, size=1, *, most):
    """(store, old, new) with no way by groups of this size; Refused if there is a detour.

    TooGreat(200) or TooGreat(4000) if more cells or laid checks than that are wanted.
    """
    check_size(size)
    if stuck_lot(book, most=most) is None:
        raise Refused(book)
    spare = most_places(book) - 1
    fates = []
    for fate in fates_of(book):
        fates.extend([fate] * (book.columns[fate[0]] * spare + 1 + size))
    if len(fates) > MOST_CELLS:
        raise TooGreat(MOST_CELLS)
    return store_of_fates(book, fates, all_patterns(book))


def all_patterns(book):
    """The patterns of all two rows, one old and one new, of all checks, ascending, each once."""
    return sorted({
        pattern_of(book, check, one, other)
        for check in range(len(book.checks))
        for one in book.checks[check][1]
        for other in book.checks[check][1]
    })
