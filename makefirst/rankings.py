"""Rankings: orders of all kinds of a book in which each one is let behind those ahead of it.

Lots of kinds are sums of their bits here, as kind_bits tells.
"""

from makefirst.books import are_kinds, kind_bits, kinds_of
from makefirst.errors import Knotted, Refused
from makefirst.layers import all_bars, first_of, is_within, kinds_by_bits, kinds_in, knot_of
from makefirst.plain import is_below
from makefirst.searches import bits_in, count_ways, nth_way, search_lots, way_place


def is_order(book, value):
    """Whether any value is a sequence of all kinds of the book, each once."""
    if not are_kinds(book, value):
        return False
    return sorted([tuple(kind) for kind in value]) == list(kinds_of(book))


def check_order(book, value):
    """The order as a tuple; Refused for any value that is none."""
    if not is_order(book, value):
        raise Refused(value)
    return tuple([tuple(kind) for kind in value])


def is_ranking(book, value):
    """Whether any value is an order in which each kind is let behind those ahead of it."""
    if not is_order(book, value):
        return False
    bits = kind_bits(book)
    bars = all_bars(book)
    free = sum(bits.values())
    for kind in value:
        bit = bits[tuple(kind)]
        if not is_within(bit, first_of(bars, free)):
            return False
        free -= bit
    return True


def check_ranking(book, value):
    """The ranking as a tuple; Refused for any value that is none."""
    if not is_ranking(book, value):
        raise Refused(value)
    return tuple([tuple(kind) for kind in value])


def least_ranking(book):
    """The least ranking; Knotted, with the knot, if there is none."""
    knot = knot_of(book)
    if knot:
        raise Knotted(knot)
    bars = all_bars(book)
    free = sum(kind_bits(book).values())
    ranking = []
    # Whatever is begun so can be gone on with, so the least next kind is never wrong.
    while free:
        kind = kinds_in(book, first_of(bars, free))[0]
        ranking.append(kind)
        free -= kind_bits(book)[kind]
    return tuple(ranking)


def opening_steps(book):
    """The steps from opening to opening, as makefirst.searches tells."""
    bars = all_bars(book)
    whole = sum(kind_bits(book).values())
    return lambda opening: [opening + bit for bit in bits_in(first_of(bars, whole - opening))]


def openings_of(book, *, most):
    """All openings, ascending, each an ascending tuple of kinds."""
    return tuple(sorted([kinds_in(book, opening) for opening in search_lots(opening_steps(book), most)]))


def count_rankings(book, steps, most):
    """By opening in how many ways it can be gone on with to a ranking; TooGreat if there are more openings."""
    return count_ways(search_lots(steps, most), steps, sum(kind_bits(book).values()))


def rankings_many(book, *, most):
    """How many rankings there are."""
    return count_rankings(book, opening_steps(book), most)[0]


def nth_ranking(book, number, *, most):
    """The ranking of a number, all being ascending; Refused for any value that is no such number."""
    steps = opening_steps(book)
    ways = count_rankings(book, steps, most)
    if not is_below(number, ways[0]):
        raise Refused(number)
    return kinds_by_bits(book, nth_way(ways, steps, sum(kind_bits(book).values()), number))


def ranking_place(book, ranking, *, most):
    """The number of a ranking, all being ascending; Refused for any value that is none."""
    order = check_ranking(book, ranking)
    steps = opening_steps(book)
    bits = kind_bits(book)
    return way_place(count_rankings(book, steps, most), steps, [bits[kind] for kind in order])
