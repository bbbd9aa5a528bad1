"""Rankings: orders of all kinds of a book in which each one is let behind those ahead of it.

Lots of kinds are sums of their bits here, as kind_bits tells.
"""

from makefirst.books import are_kinds, kind_bits, kinds_of
from makefirst.errors import Knotted, Refused, TooGreat
from makefirst.layers import all_bars, first_of, is_within, kinds_in, knot_of
from makefirst.plain import is_below


def is_order(book, value):
    """Whether any value is a sequence of all kinds of the book, each once."""
    if not are_kinds(book, value):
        return False
    return sorted([tuple(kind) for kind in value]) == list(kinds_of(book))


def check_order(book, value):
    """The order as a tuple; Refused for any value that is none."""
    if not is_order(book, value):
        raise Refused(value)
    return tuple([tuple(kind) for kind in value])


def is_ranking(book, value):
    """Whether any value is an order in which each kind is let behind those ahead of it."""
    if not is_order(book, value):
        return False
    bits = kind_bits(book)
    bars = all_bars(book)
    free = sum(bits.values())
    for kind in value:
        bit = bits[tuple(kind)]
        if not is_within(bit, first_of(bars, free)):
            return False
        free -= bit
    return True


def check_ranking(book, value):
    """The ranking as a tuple; Refused for any value that is none."""
    if not is_ranking(book, value):
        raise Refused(value)
    return tuple([tuple(kind) for kind in value])


def least_ranking(book):
    """The least ranking; Knotted, with the knot, if there is none."""
    knot = knot_of(book)
    if knot:
        raise Knotted(knot)
    bars = all_bars(book)
    free = sum(kind_bits(book).values())
    ranking = []
    # Whatever is begun so can be gone on with, so the least next kind is never wrong.
    while free:
        kind = kinds_in(book, first_of(bars, free))[0]
        ranking.append(kind)
        free -= kind_bits(book)[kind]
    return tuple(ranking)


def search_openings(book, most):
    """By opening, as a lot, its next ones by kind, both ascending by length; TooGreat if there are more."""
    bits = kind_bits(book)
    bars = all_bars(book)
    whole = sum(bits.values())
    found = {0: {}}
    waiting = [0]
    while waiting:
        further = []
        for opening in waiting:
            for kind in kinds_in(book, first_of(bars, whole - opening)):
                longer = opening + bits[kind]
                found[opening][kind] = longer
                if longer not in found:
                    found[longer] = {}
                    further.append(longer)
            if len(found) > most:
                raise TooGreat(most)
        waiting = further
    return found


def openings_of(book, *, most):
    """All openings, ascending, each an ascending tuple of kinds."""
    return tuple(sorted([kinds_in(book, opening) for opening in search_openings(book, most)]))


def count_rankings(book, openings):
    """By opening in how many ways it can be gone on with to a ranking."""
    whole = sum(kind_bits(book).values())
    ways = {}
    for opening in reversed(list(openings)):
        ways[opening] = 1 if opening == whole else sum([ways[longer] for longer in openings[opening].values()])
    return ways


def rankings_many(book, *, most):
    """How many rankings there are."""
    return count_rankings(book, search_openings(book, most))[0]


def nth_ranking(book, number, *, most):
    """The ranking of a number, all being ascending; Refused for any value that is no such number."""
    openings = search_openings(book, most)
    ways = count_rankings(book, openings)
    if not is_below(number, ways[0]):
        raise Refused(number)
    ranking = []
    opening = 0
    left = number
    while openings[opening]:
        kind, left = kind_at(openings[opening], ways, left)
        ranking.append(kind)
        opening = openings[opening][kind]
    return tuple(ranking)


def kind_at(longer_by, ways, number):
    """The next kind of the ranking of a number below all ways, and its number of those that go on so."""
    left = number
    for kind, longer in longer_by.items():
        if left < ways[longer]:
            break
        left -= ways[longer]
    return kind, left


def ranking_place(book, ranking, *, most):
    """The number of a ranking, all being ascending; Refused for any value that is none."""
    order = check_ranking(book, ranking)
    openings = search_openings(book, most)
    ways = count_rankings(book, openings)
    place = opening = 0
    for chosen in order:
        longer_by = openings[opening]
        place += sum([ways[longer] for kind, longer in longer_by.items() if kind < chosen])
        opening = longer_by[chosen]
    return place
