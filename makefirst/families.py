"""Families of checks of whose books it is known whether they are ranked."""

from makefirst.books import MOST_CHECKS, MOST_COLUMNS, Book, are_columns, are_places
from makefirst.errors import Refused
from makefirst.plain import are_below, is_below, is_sequence, is_whole

REFERENCE_ROWS = ((0, 0), (0, 1), (1, 1))


def need_columns(value):
    """Refused for any value that does not tell how many values each column has."""
    if not are_columns(value):
        raise Refused(value)


def need_pair(columns, one, other):
    """Refused for columns that are none, then for any two values of which one is no column."""
    need_columns(columns)
    for value in (one, other):
        if not is_below(value, len(columns)):
            raise Refused(value)


def all_rows(columns, places):
    """All rows of values of the columns at these places, ascending."""
    rows = [()]
    for place in places:
        rows = [row + (value,) for row in rows for value in range(columns[place])]
    return rows


def sum_check(columns, places, low, high):
    """The check that lets the rows whose sum is low at least and high at most; None bounds nothing."""
    need_columns(columns)
    if not are_places(columns, places):
        raise Refused(places)
    for bound in (low, high):
        if bound is not None and not is_whole(bound):
            raise Refused(bound)
    return tuple(places), tuple([row for row in all_rows(columns, places) if is_between(sum(row), low, high)])


def is_between(total, low, high):
    """Whether a sum is low at least and high at most; None bounds nothing."""
    return (low is None or low <= total) and (high is None or total <= high)


def order_check(columns, one, other):
    """The check over two columns that lets the rows whose first value is at most the second one."""
    need_pair(columns, one, other)
    return (one, other), tuple([row for row in all_rows(columns, (one, other)) if row[0] <= row[1]])


def unlike_check(columns, one, other):
    """The check over two columns that lets the rows of unlike values."""
    need_pair(columns, one, other)
    return (one, other), tuple([row for row in all_rows(columns, (one, other)) if row[0] != row[1]])


def need_references(tables, references):
    """Refused for a value that is no number of tables, then for one that is no references of these."""
    if not is_below(tables, MOST_COLUMNS + 1) or tables < 1:
        raise Refused(tables)
    if not is_sequence(references) or len(references) > MOST_CHECKS:
        raise Refused(references)
    for pair in references:
        if not are_below(pair, tables) or len(pair) != 2:
            raise Refused(references)


def reference_book(tables, references):
    """The book of tables whose rows are absent or present, each child's row only beside its parent's."""
    need_references(tables, references)
    return Book([2] * tables, [((child, parent), REFERENCE_ROWS) for child, parent in references])


def longest_chain(tables, references):
    """How many tables the longest row has in which each one refers to the next one; None if some come round."""
    need_references(tables, references)
    many = 0
    ends = list(range(tables))
    # A row of more tables than there are has one twice, and so comes round.
    while ends and many <= tables:
        many += 1
        ends = sorted({parent for child, parent in references if child in ends})
    return many if many <= tables else None
