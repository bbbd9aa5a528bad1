"""Checks that are put off to the end, or kinds that are barred, so that the rest of a book has no knot."""

from itertools import combinations
from math import comb

from makefirst.errors import TooGreat
from makefirst.layers import all_bars, bars_within, kinds_in, layer_lots, lot_of, told_lot


def has_knot(bars, told):
    """Whether some of the told kinds, a lot, come in no layer."""
    _, knot = layer_lots(bars, told)
    return knot != 0


def is_part(part, lot):
    """Whether all things of the part are in the lot."""
    for thing in part:
        if thing not in lot:
            return False
    return True


def deferred_lots(book):
    """Ascending, the least lots of checks without which the book is ranked."""
    told = told_lot(book, None)
    checks = list(range(len(book.checks)))
    found = []
    for many in range(len(checks) + 1):
        for lot in combinations(checks, many):
            lesser = [part for part in found if is_part(part, lot)]
            if not lesser and not has_knot(bars_without(book, lot), told):
                found.append(lot)
    return tuple(sorted(found))


def bars_without(book, lot):
    """The bars of all checks of the book but a lot of them."""
    return [bar for check, bars in enumerate(book.bars()) if check not in lot for bar in bars]


def barred_kinds(book, *, most):
    """The least of the lots of fewest kinds without which the other kinds have no knot."""
    _, knot = layer_lots(all_bars(book), told_lot(book, None))
    # The other kinds come in layers, whatever is told, so only bars within the knot can still bar.
    bars = joined_bars(bars_within(all_bars(book), knot))
    kinds = list(kinds_in(book, knot))
    looked_among = 0
    for many in range(len(kinds) + 1):
        looked_among += comb(len(kinds), many)
        if looked_among > most:
            raise TooGreat(most)
        for lot in combinations(kinds, many):
            if not has_knot(bars, knot - lot_of(book, lot)):
                return lot


def joined_bars(bars):
    """The bars, those of one lot joined."""
    found = {}
    for lot, barred in bars:
        found[lot] = found.get(lot, 0) | barred
    return list(found.items())
