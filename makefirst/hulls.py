"""Checks that suit an order of kinds, and the fewest rows that make any check suit it."""

from math import factorial

from makefirst.books import Book, are_places, are_rows, kinds_of, lots_of, need_check, row_between, unlike_places
from makefirst.errors import Refused, TooGreat
from makefirst.rankings import check_order


def ranks_of(order):
    """By kind its index in the order."""
    return {kind: at for at, kind in enumerate(order)}


def changes_by_rank(places, one, other, ranks):
    """(kind, places) at which one row becomes another one, by the ranks of the kinds, if they have one."""
    changes = unlike_places(places, one, other)
    ranked = sorted([(ranks[kind], kind) for kind in changes if kind in ranks])
    return tuple([(kind, tuple(changes[kind])) for _, kind in ranked])


def steps_between(one, other, changes):
    """(kind, places, row) for all rows on the way from one row to another one, by these changes."""
    found = []
    row = one
    for kind, places in changes:
        found.extend([(kind, lot, row_between(row, other, lot)) for lot in lots_of(places)])
        row = row_between(row, other, places)
    return found


def suits_paper(book, check, ranking):
    """None if the check suits the order, else the first (one, other, kind, places) that lead to no row."""
    need_check(book, check)
    ranks = ranks_of(check_order(book, ranking))
    places, rows = book.checks[check]
    for one in rows:
        for other in rows:
            for kind, lot, row in steps_between(one, other, changes_by_rank(places, one, other, ranks)):
                if not book.lets(check, row):
                    return one, other, kind, lot
    return None


def suits(book, check, ranking):
    """Whether all rows on the way between any two rows of the check are rows of it, too."""
    return suits_paper(book, check, ranking) is None


def hull_of(places, rows, ranks, known):
    """The hull of rows that are tuples, ascending, as far as only the kinds that have a rank are set on the way.

    What is known, by rows and changes, are the rows on the way; more is kept there.
    """
    found = {row: True for row in rows}
    waiting = list(found)
    done = []
    while waiting:
        row = waiting.pop()
        for other in done:
            for one, two in ((row, other), (other, row)):
                for between in rows_between(one, two, changes_by_rank(places, one, two, ranks), known):
                    if between not in found:
                        found[between] = True
                        waiting.append(between)
        done.append(row)
    return tuple(sorted(found))


def rows_between(one, other, changes, known):
    """The rows on the way from one row to another one."""
    key = (one, other, changes)
    if key not in known:
        known[key] = [row for _, _, row in steps_between(one, other, changes)]
    return known[key]


def hull_rows(book, places, rows, ranking):
    """The hull of the rows: with the fewest rows more that let them suit the order, ascending."""
    if not are_places(book.columns, places):
        raise Refused(places)
    if not are_rows([book.columns[column] for column in places], rows):
        raise Refused(rows)
    ranks = ranks_of(check_order(book, ranking))
    return hull_of(tuple(places), [tuple(row) for row in rows], ranks, {})


def hull_book(book, ranking):
    """The book with the hull of each check's rows in the place of its rows."""
    ranks = ranks_of(check_order(book, ranking))
    return Book(book.columns, [(places, hull_of(places, rows, ranks, {})) for places, rows in book.checks])


def fewest_added(book, *, most):
    """The least (how many, ranking) of all orders of kinds: how many rows more the hulls of all checks have."""
    kinds = kinds_of(book)
    if factorial(len(kinds)) > most:
        raise TooGreat(most)
    own = [rows for _, rows in book.checks]
    known = {}
    best = None
    waiting = [((), own)]
    while waiting:
        order, begun = waiting.pop()
        ranks = ranks_of(order)
        tables = [hull_of(check[0], rows, ranks, known) for check, rows in zip(book.checks, begun)]
        added = count_rows(tables) - count_rows(own)
        # Whatever an order is gone on with, its hulls have these rows, too.
        if best is not None and added >= best[0]:
            continue
        if len(order) == len(kinds):
            best = (added, order)
        waiting.extend([(order + (kind,), tables) for kind in reversed(kinds) if kind not in order])
    return best


def count_rows(tables):
    """How many rows some tables have together."""
    return sum([len(rows) for rows in tables])
