"""Stores made for a book in which checks are laid on all choices of cells that change, or stay, as some rows do.

The fate of a cell is (column, old, new): it changes so, or it stays if old and new are equal. A pattern is (check,
fates by place).
"""

from makefirst.errors import TooGreat
from makefirst.stores import MOST_LAID, Store


def most_places(book):
    """The greatest number of places of a check; 1 if there are no checks."""
    return max([1] + [len(places) for places, _ in book.checks])


def pattern_of(book, check, one, other):
    """The pattern of a check's cells that are as the one row at first, and as the other one at last."""
    places = book.checks[check][0]
    return check, tuple([(column, one[place], other[place]) for place, column in enumerate(places)])


def paper_patterns(book, papers):
    """The patterns of the papers' rows, ascending, each once."""
    return sorted({pattern_of(book, check, one, other) for _, check, one, other, _ in papers})


def told_fates(kinds, many, patterns, spare):
    """By cell its fate: so many cells of each kind, then so many spare ones of each fate of the patterns that stays."""
    staying = sorted({fate for _, fates in patterns for fate in fates if fate[1] == fate[2]})
    changing = [kind for kind in kinds for _ in range(many)]
    return changing + [fate for fate in staying for _ in range(spare)]


def unlike_rows(choices):
    """All rows of unlike cells, one of each choice."""
    rows = [()]
    for cells in choices:
        rows = [row + (cell,) for row in rows for cell in cells if cell not in row]
    return rows


def store_of_fates(book, fates, patterns):
    """(store, old, new) with each pattern's check laid on all unlike cells that have its fates.

    TooGreat(4000) if more checks than that would be laid.
    """
    cells_by = {}
    for cell, fate in enumerate(fates):
        cells_by.setdefault(fate, []).append(cell)
    laid = []
    # Patterns that are unlike lay the check on unlike rows, so nothing is laid twice.
    for check, wanted in patterns:
        laid.extend([(check, row) for row in unlike_rows([cells_by.get(fate, []) for fate in wanted])])
        if len(laid) > MOST_LAID:
            raise TooGreat(MOST_LAID)
    store = Store(book, [column for column, _, _ in fates], sorted(laid))
    return store, tuple([old for _, old, _ in fates]), tuple([new for _, _, new in fates])
