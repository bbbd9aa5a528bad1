"""What can go first, the layers of kinds that come of it, and the knot of those that never can.

Lots of kinds are sums of their bits here, as kind_bits tells.
"""

from makefirst.books import MOST_PLACES, are_kinds, is_kind, is_row_of, kind_bits, kinds_of, need_kind
from makefirst.books import row_between, spoilt_changes, unlike_places
from makefirst.errors import Knotted, Refused
from makefirst.plain import are_below, is_below, is_sequence


def lot_of(book, kinds):
    """The lot of a sequence of kinds."""
    bits = kind_bits(book)
    lot = 0
    for kind in kinds:
        lot |= bits[tuple(kind)]
    return lot


def kinds_in(book, lot):
    """The kinds of a lot, ascending."""
    return tuple([kind for kind, bit in kind_bits(book).items() if lot & bit])


def kinds_by_bits(book, bits):
    """The kinds of these bits, as they come."""
    kinds = {bit: kind for kind, bit in kind_bits(book).items()}
    return tuple([kinds[bit] for bit in bits])


def told_lot(book, kinds):
    """The lot of the told kinds, of all for None; Refused for any other value that is no sequence of kinds."""
    if kinds is None:
        return lot_of(book, kinds_of(book))
    if not are_kinds(book, kinds):
        raise Refused(kinds)
    return lot_of(book, kinds)


def is_within(lot, other):
    """Whether all kinds of a lot are of the other one."""
    return lot | other == other


def bars_within(bars, free):
    """Those bars that bar something while the free kinds are still to be changed."""
    return [bar for bar in bars if is_within(bar[0], free)]


def all_bars(book):
    """The bars of all checks of the book."""
    return [bar for bars in book.bars() for bar in bars]


def first_of(bars, free):
    """The lot of those of the free kinds that can go first of them."""
    stuck = 0
    for lot, barred in bars:
        if is_within(lot, free):
            stuck |= barred
    return free - stuck


def is_let(book, behind, kind, kinds=None):
    """Whether the kind is let behind the kinds that are behind, the others of the told ones still to come."""
    if not are_kinds(book, behind):
        raise Refused(behind)
    asked = lot_of(book, [need_kind(book, kind)])
    told = told_lot(book, kinds)
    free = told - (told & lot_of(book, behind))
    # A kind that is not to come any more has no place left at which it could break a check.
    return not is_within(asked, free) or is_within(asked, first_of(all_bars(book), free))


def layer_lots(bars, told):
    """(layers, knot): the lots of kinds that go first, one behind another, and of those that never do."""
    layers = []
    free = told
    while free:
        bars = bars_within(bars, free)
        first = first_of(bars, free)
        if not first:
            break
        layers.append(first)
        free -= first
    return layers, free


def layers_of(book, kinds=None):
    """The layers of the told kinds, each an ascending tuple."""
    layers, _ = layer_lots(all_bars(book), told_lot(book, kinds))
    return tuple([kinds_in(book, layer) for layer in layers])


def knot_lot(book, kinds):
    """The lot of the told kinds that come in no layer."""
    _, knot = layer_lots(all_bars(book), told_lot(book, kinds))
    return knot


def knot_of(book, kinds=None):
    """The told kinds that come in no layer, ascending."""
    return kinds_in(book, knot_lot(book, kinds))


def is_ranked(book, kinds=None):
    """Whether all told kinds come in layers."""
    return knot_lot(book, kinds) == 0


def sure_layers(book, kinds=None):
    """The layers of the told kinds; Knotted, with the knot, if some come in none."""
    knot = knot_of(book, kinds)
    if knot:
        raise Knotted(knot)
    return layers_of(book, kinds)


def knot_papers(book, kinds=None):
    """For each kind of the knot, ascending, the least paper that shows why it cannot go first."""
    knot = knot_lot(book, kinds)
    papers = least_papers(book, knot)
    return tuple([papers[kind] for kind in kinds_in(book, knot)])


def least_papers(book, free):
    """By kind that cannot go first of the free ones the least paper (kind, check, one, other, places)."""
    bits = kind_bits(book)
    found = {}
    for check in range(len(book.checks)):
        rows = book.checks[check][1]
        for one in rows:
            for other in rows:
                changes = unlike_places(book.checks[check][0], one, other)
                if is_within(sum([bits[kind] for kind in changes]), free):
                    for kind, places in spoilt_changes(book, check, one, other, changes):
                        found.setdefault(kind, (kind, check, one, other, places))
    return found


def papers_hold(book, value, kinds=None):
    """Whether any value is a sequence of papers that show some told kinds to be in the knot."""
    told = told_lot(book, kinds)
    if not are_things(book, value):
        return False
    own = [tuple(thing[0]) for thing in value]
    lot = lot_of(book, own)
    if len(set(own)) < len(own) or not is_within(lot, told):
        return False
    for kind, check, one, other, places in value:
        if not is_paper(book, lot, kind, check, (one, other), places):
            return False
    return True


def are_things(book, value):
    """Whether any value is a sequence of one or more sequences of five, the first a kind."""
    if not is_sequence(value) or not value:
        return False
    for thing in value:
        if not is_sequence(thing) or len(thing) != 5 or not is_kind(book, thing[0]):
            return False
    return True


def is_paper(book, lot, kind, check, rows, places):
    """Whether any check, two rows and places show that the kind cannot go first of the lot."""
    if not is_below(check, len(book.checks)):
        return False
    for row in rows:
        if not is_row_of(book, check, row) or not book.lets(check, tuple(row)):
            return False
    one, other = rows
    changes = unlike_places(book.checks[check][0], one, other)
    if not is_within(lot_of(book, changes), lot):
        return False
    if not are_some_of(places, changes.get(tuple(kind), [])):
        return False
    return not book.lets(check, row_between(one, other, places))


def are_some_of(value, places):
    """Whether any value is an ascending sequence of one or more of these places."""
    if not are_below(value, MOST_PLACES) or not value:
        return False
    return list(value) == [place for place in places if place in value]
