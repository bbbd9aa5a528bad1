"""Books whose checks look less strictly while a batch is under way.

Lots of kinds are sums of their bits here, as makefirst.books.kind_bits tells.
"""

from makefirst.books import are_kinds, are_rows, kind_bits, lots_of, need_kind, row_between, table_of, unlike_places
from makefirst.choices import most_places, pattern_of, store_of_fates, told_fates
from makefirst.courses import Course, cells_by_bits, group_steps
from makefirst.errors import Refused, TooGreat
from makefirst.layers import kinds_by_bits, lot_of
from makefirst.plain import is_sequence
from makefirst.rankings import is_order
from makefirst.searches import bits_in, count_ways, nth_way, search_lots, steps_to
from makefirst.stores import MOST_CELLS, MOST_LAID, check_batch, check_state, looked_row
from makefirst.straight import by_layers


class LaxBook:
    """A book, and by check the rows that it lets while a batch is under way."""

    def __init__(self, book, ways):
        if not are_ways(book, ways):
            raise Refused(ways)
        self.book = book
        self.ways = tuple([tuple(sorted({tuple(row) for row in rows})) for rows in ways])
        self._rows = [table_of(rows) for rows in self.ways]
        self._bars = []

    def __eq__(self, other):
        return isinstance(other, LaxBook) and self.book == other.book and self.ways == other.ways

    def lets(self, check, row):
        """Whether a row of values, a tuple, is in the check's second table."""
        return row in self._rows[check]

    def bars(self):
        """By check (lot, table), a lot of kinds and by each part of it the lot of kinds that are not let right behind.

        The part has those kinds of the lot that are set; other kinds make no odds.
        """
        # Kept, as large books have thousands of pairs of rows, and each kind that is asked for looks at all.
        if not self._bars:
            self._bars.extend([bars_of_way(self, check) for check in range(len(self.ways))])
        return tuple(self._bars)


def are_ways(book, value):
    """Whether any value tells a second table for each check of the book."""
    if not is_sequence(value) or len(value) != len(book.checks):
        return False
    for rows, (places, own) in zip(value, book.checks):
        if not are_rows([book.columns[column] for column in places], rows):
            return False
        table = table_of([tuple(row) for row in rows])
        for row in own:
            if row not in table:
                return False
    return True


def strays(lax, check, one, other):
    """Whether some row between two rows, at each place as in the one or the other, is not in the second table."""
    unlike = [place for place in range(len(one)) if one[place] != other[place]]
    for lot in lots_of(unlike):
        if not lax.lets(check, row_between(one, other, lot)):
            return True
    return False


def stray_pairs(lax, check):
    """All two rows of a check, one and another, between which some row is not in its second table."""
    rows = lax.book.checks[check][1]
    return [(one, other) for one in rows for other in rows if strays(lax, check, one, other)]


def bars_of_way(lax, check):
    """The bars of a check; one of each lot."""
    bits = kind_bits(lax.book)
    found = {}
    for one, other in stray_pairs(lax, check):
        changes = unlike_places(lax.book.checks[check][0], one, other)
        table = found.setdefault(sum([bits[kind] for kind in changes]), {})
        for lot in [()] + lots_of(sorted(changes)):
            part = sum([bits[kind] for kind in lot])
            table[part] = table.get(part, 0) | barred_by_pair(lax, check, (one, other), changes, lot)
    return tuple(found.items())


def barred_by_pair(lax, check, rows, changes, behind):
    """The lot of kinds that two rows bar if, of their changes, just those of the kinds that are behind are set."""
    one, other = rows
    bits = kind_bits(lax.book)
    done = [place for kind in behind for place in changes[kind]]
    if not lax.lets(check, row_between(one, other, done)):
        return sum(bits.values())
    barred = 0
    for kind, places in changes.items():
        rest = [place for place in done if place not in places]
        for lot in [()] + lots_of(places):
            if not lax.lets(check, row_between(one, other, rest + list(lot))):
                barred |= bits[kind]
    return barred


def barred_behind(lax, lot):
    """The lot of kinds that are not let right behind a lot."""
    barred = 0
    for bars in lax.bars():
        for kinds, table in bars:
            barred |= table[lot & kinds]
    return barred


def lax_let(lax, behind, kind):
    """Whether the kind is let right behind a lot of kinds."""
    if not are_kinds(lax.book, behind):
        raise Refused(behind)
    asked = lot_of(lax.book, [need_kind(lax.book, kind)])
    return not barred_behind(lax, lot_of(lax.book, behind)) & asked


def kind_steps(lax):
    """The steps from lot to lot by kinds that are let, as makefirst.searches tells."""
    whole = sum(kind_bits(lax.book).values())
    return lambda lot: [lot + bit for bit in bits_in(whole - (whole & (lot | barred_behind(lax, lot))))]


def lax_ranking(lax, *, most):
    """The least order of all kinds in which each is let right behind those ahead of it; None if there is none."""
    steps = kind_steps(lax)
    whole = sum(kind_bits(lax.book).values())
    ways = count_ways(search_lots(steps, most), steps, whole)
    return kinds_by_bits(lax.book, nth_way(ways, steps, whole, 0)) if ways[0] else None


def lax_holds(lax, value):
    """Whether any value is an order of all kinds in which each is let right behind those ahead of it."""
    if not is_order(lax.book, value):
        return False
    for at, kind in enumerate(value):
        if not lax_let(lax, value[:at], kind):
            return False
    return True


def check_own(lax, store):
    """Refused for a store of another book."""
    if store.book != lax.book:
        raise Refused(store)


def is_passable(lax, store, state):
    """Whether each laid check looks at a row of its second table."""
    check_own(lax, store)
    values = check_state(store, state)
    for number, (check, _) in enumerate(store.laid):
        if not lax.lets(check, looked_row(store, values, number)):
            return False
    return True


def lax_sorted(lax, store, old, new, ranking):
    """The batch's cells by the places of their kinds in an order that suits, then by number."""
    check_own(lax, store)
    start, goal = check_batch(store, old, new)
    if not lax_holds(lax, ranking):
        raise Refused(ranking)
    return by_layers(store, start, goal, [(tuple(kind),) for kind in ranking])


def lax_way(lax, store, old, new, *, most):
    """Some order of the batch's cells with passable states alone on the way; None if there is none."""
    check_own(lax, store)
    start, goal = check_batch(store, old, new)
    course = Course(lax, store, start, goal)
    ahead = search_lots(group_steps(course, 1), most)
    if course.whole not in ahead:
        return None
    return cells_by_bits(course, steps_to(ahead, course.whole))


def lax_store(lax, *, most):
    """(store, old, new) of which lax_way is None; Refused if some order suits.

    TooGreat(4000) if it would have more laid checks, or more cells than a store can have.
    """
    if lax_ranking(lax, most=most) is not None:
        raise Refused(lax)
    patterns = sorted([
        pattern_of(lax.book, check, one, other)
        for check in range(len(lax.ways))
        for one, other in stray_pairs(lax, check)
    ])
    kinds = sorted({fate for _, fates in patterns for fate in fates if fate[1] != fate[2]})
    spare = most_places(lax.book) - 1
    fates = told_fates(kinds, 2 * spare, patterns, spare)
    if len(fates) > MOST_CELLS:
        raise TooGreat(MOST_LAID)
    return store_of_fates(lax.book, fates, patterns)
