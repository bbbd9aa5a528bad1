"""Books: columns of values, checks that tell which values may stand together, kinds of changes."""

from makefirst.errors import BadBook, NoCheck, NoKind, Refused
from makefirst.plain import are_below, is_below, is_row, is_sequence

MOST_COLUMNS = 4
MOST_VALUES = 4
MOST_CHECKS = 6
MOST_PLACES = 3


class Book:
    """By column how many values it has; and the checks, each (places, rows)."""

    def __init__(self, columns, checks=()):
        if not are_columns(columns) or not is_sequence(checks) or len(checks) > MOST_CHECKS:
            raise BadBook(-1)
        for at, check in enumerate(checks):
            if not is_check(columns, check):
                raise BadBook(at)
        self.columns = tuple(columns)
        self.checks = tuple([tidy_check(places, rows) for places, rows in checks])
        self._rows = [table_of(rows) for places, rows in self.checks]
        self._bars = []

    def __eq__(self, other):
        return isinstance(other, Book) and self.columns == other.columns and self.checks == other.checks

    def lets(self, check, row):
        """Whether a row of values, a tuple, is one of the check's rows."""
        return row in self._rows[check]

    def bars(self):
        """By check its bars: (lot, barred), two lots of kinds, as kind_bits tells.

        Two rows of the check are unlike by the kinds of the lot, and if only these are still to
        be changed, none of the barred ones can go first.
        """
        # Kept, as the largest books have thousands of pairs of rows, and searches ask again and again.
        if not self._bars:
            self._bars.extend([bars_of_check(self, check) for check in range(len(self.checks))])
        return tuple(self._bars)


def are_columns(value):
    """Whether any value tells how many values each column of a book has."""
    return are_below(value, MOST_VALUES + 1) and 1 <= len(value) <= MOST_COLUMNS and 0 not in value


def is_check(columns, value):
    """Whether any value is a check over these columns."""
    if not is_sequence(value) or len(value) != 2:
        return False
    places, rows = value
    return are_places(columns, places) and are_rows([columns[column] for column in places], rows)


def are_places(columns, value):
    """Whether any value is a sequence of columns such as a check looks at."""
    return are_below(value, len(columns)) and 1 <= len(value) <= MOST_PLACES


def are_rows(sizes, value):
    """Whether any value is a sequence of rows, each of a value below the size of each place."""
    if not is_sequence(value):
        return False
    for row in value:
        if not is_row(row, sizes):
            return False
    return True


def tidy_check(places, rows):
    """The check as tuples, its rows ascending, each once."""
    return tuple(places), tuple(sorted({tuple(row) for row in rows}))


def table_of(rows):
    """The rows as keys, as a long row of rows is slow to search."""
    return {row: True for row in rows}


def need_check(book, value):
    """The number of a check of the book, itself; NoCheck for any other value."""
    if not is_below(value, len(book.checks)):
        raise NoCheck(value)
    return value


def kinds_of(book):
    """All kinds of changes (column, old, new) of the book, ascending."""
    return tuple([
        (column, old, new)
        for column, size in enumerate(book.columns)
        for old in range(size)
        for new in range(size)
        if old != new
    ])


def is_kind(book, value):
    """Whether any value is a kind of the book."""
    if not is_sequence(value) or len(value) != 3 or not is_below(value[0], len(book.columns)):
        return False
    size = book.columns[value[0]]
    return is_below(value[1], size) and is_below(value[2], size) and value[1] != value[2]


def need_kind(book, value):
    """The kind as a tuple; NoKind for any value that is none."""
    if not is_kind(book, value):
        raise NoKind(value)
    return tuple(value)


def are_kinds(book, value):
    """Whether any value is a sequence of kinds of the book."""
    if not is_sequence(value):
        return False
    for kind in value:
        if not is_kind(book, kind):
            return False
    return True


def check_kinds(book, value):
    """The kinds as tuples, ascending, each once; Refused for any value that is no sequence of kinds."""
    if not are_kinds(book, value):
        raise Refused(value)
    return tuple(sorted({tuple(kind) for kind in value}))


def is_row_of(book, check, value):
    """Whether any value is a row of values of the check's columns, let or not."""
    return is_row(value, [book.columns[column] for column in book.checks[check][0]])


def unlike_by(book, check, one, other):
    """The kinds of the places at which the one row is unlike the other one, ascending."""
    need_check(book, check)
    for row in (one, other):
        if not is_row_of(book, check, row):
            raise Refused(row)
    return tuple(sorted(unlike_places(book.checks[check][0], one, other)))


def unlike_places(places, one, other):
    """By kind the ascending places at which the one row, of these columns, becomes the other one by this kind."""
    found = {}
    for place, column in enumerate(places):
        if one[place] != other[place]:
            found.setdefault((column, one[place], other[place]), []).append(place)
    return found


def kind_bits(book):
    """By kind its bit: a lot of kinds is the sum of the bits of its kinds."""
    return {kind: 1 << at for at, kind in enumerate(kinds_of(book))}


def bars_of_check(book, check):
    """The bars of a check; one of each lot."""
    bits = kind_bits(book)
    found = {}
    places, rows = book.checks[check]
    for one in rows:
        for other in rows:
            changes = unlike_places(places, one, other)
            barred = sum([bits[kind] for kind, _ in spoilt_changes(book, check, one, other, changes)])
            if barred:
                lot = sum([bits[kind] for kind in changes])
                found[lot] = found.get(lot, 0) | barred
    return tuple(found.items())


def spoilt_changes(book, check, one, other, changes):
    """(kind, places) of the changes that cannot go first on the way between two rows: the least such places."""
    found = []
    for kind, places in changes.items():
        for lot in lots_of(places):
            if not book.lets(check, row_between(one, other, lot)):
                found.append((kind, lot))
                break
    return found


def row_between(one, other, places):
    """The one row with these places set as the other one has them."""
    return tuple([other[place] if place in places else one[place] for place in range(len(one))])


def lots_of(things):
    """All lots of one or more of the things, ascending, as the things are."""
    lots = []
    for thing in reversed(things):
        lots = [(thing,)] + [(thing,) + lot for lot in lots] + lots
    return lots
