"""What the tests share: values of any kind, and the document's words worked out in the plainest way."""

import itertools
import random

from makefirst.books import Book
from makefirst.errors import BadState, NoKind, Refused
from makefirst.stores import Store

MOST = ((0, 0), ((0, 0), (0, 1), (1, 0)))
LEAST = ((0, 0), ((0, 1), (1, 0), (1, 1)))
ALIKE = ((0, 0), ((0, 0), (1, 1)))
REFERS = ((0, 1), ((0, 0), (0, 1), (1, 1)))


def deep(many):
    """A list nested so many times."""
    value = []
    for _ in range(many - 1):
        value = [value]
    return value


def any_values():
    """Values of all kinds that the document calls any value."""
    book = Book([2, 2], [REFERS])
    return [
        None, True, False, 0, 1, 2, 3, 4, 5, 6, 8, -1, -2, 7, 200, 10 ** 30, -10 ** 30,
        "", " ", "0", "1", "01", "0 1", "columns 2", "cells", "-", "abc",
        [], (), [[]], ((),), [0], (0,), (1,), [2], [-1], [True], [False], (None,), ["0"], "00", ["0", "1"],
        [0, 1], (0, 1), (1, 0), [1, 1], (True, False), [0, None], [0, 1, 0], (0, 1, 1), (0, 0, 1), [0, 0, 1],
        (0, 0, True), (False, 0, 1), [[0, 0, 1]], [(0, 0, 1), (0, 1, 0)], [(0, 0, 0)], (0, 0, 1, 1), (0, 0, 2),
        [[0, 1], [1, 0]], ((0, 1), ((0, 0), (1, 1))), ((0, 0, 1), 0, (0, 0), (1, 1), (0,)), deep(40), (deep(39), 0),
        book, Store(book, [0, 1]), [book], (book, book), Refused(3), NoKind((0, 0, 1)), [Refused(None)],
    ]


def bent(value):
    """The value with one thing in it, at any depth, turned into something else, left out, or told twice."""
    for junk in (None, True, False, -1, 0, 1, 2, 3, 4, 9, "", "0", (), [], [0], (True,), (0, 1), Book([2])):
        yield junk
    if isinstance(value, (list, tuple)):
        make = type(value)
        for at, item in enumerate(value):
            yield make(list(value[:at]) + list(value[at + 1:]))
            yield make(list(value[:at + 1]) + list(value[at:]))
            for other in bent(item):
                yield make(list(value[:at]) + [other] + list(value[at + 1:]))
        yield make(list(value) + [None])
        yield make(list(reversed(value)))
        yield list(value)
        yield tuple(value)


def strict(value):
    """A form of a value in which bools are no integers, and lists are no tuples."""
    if isinstance(value, (list, tuple)):
        return type(value).__name__, tuple(strict(item) for item in value)
    return type(value).__name__, value


def frozen(value):
    """A value with tuples for all lists."""
    if isinstance(value, (list, tuple)):
        return tuple(frozen(item) for item in value)
    return value


def thawed(value):
    """A value with lists for all tuples."""
    if isinstance(value, (list, tuple)):
        return [thawed(item) for item in value]
    return value


def is_int(value):
    return type(value) is int


def is_seq(value):
    return type(value) in (list, tuple)


def is_int_row(value, sizes):
    """Whether a value is a sequence of one number below each size."""
    if not is_seq(value) or len(value) != len(sizes):
        return False
    return all(is_int(item) and 0 <= item < size for item, size in zip(value, sizes))


def plain_is_kind(book, value):
    if not is_seq(value) or len(value) != 3 or not all(is_int(item) for item in value):
        return False
    return tuple(value) in plain_kinds(book)


def plain_kinds(book):
    """All kinds of a book, ascending."""
    return sorted(
        (column, old, new)
        for column in range(len(book.columns))
        for old, new in itertools.permutations(range(book.columns[column]), 2)
    )


def plain_unlike(places, one, other):
    """By place the kind by which a row is unlike another one there."""
    return {
        place: (column, one[place], other[place])
        for place, column in enumerate(places)
        if one[place] != other[place]
    }


def lots(items):
    """All lots of the items, each a tuple."""
    items = list(items)
    return [lot for many in range(len(items) + 1) for lot in itertools.combinations(items, many)]


def plain_papers(book, kind, free):
    """All papers (kind, check, one, other, places) by which a kind cannot go first of the free ones."""
    found = []
    for check, (places, rows) in enumerate(book.checks):
        for one, other in itertools.product(rows, repeat=2):
            unlike = plain_unlike(places, one, other)
            if not set(unlike.values()) <= set(free):
                continue
            for lot in lots([place for place in unlike if unlike[place] == kind]):
                row = tuple(other[place] if place in lot else one[place] for place in range(len(places)))
                if lot and row not in rows:
                    found.append((kind, check, one, other, lot))
    return found


def plain_is_let(book, behind, kind, kinds=None):
    told = plain_kinds(book) if kinds is None else kinds
    return not plain_papers(book, kind, set(told) - set(behind))


def plain_layers(book, kinds=None):
    """(layers, knot), as the document tells them."""
    left = sorted(set(plain_kinds(book) if kinds is None else kinds))
    layers, behind = [], []
    while True:
        layer = tuple(kind for kind in left if plain_is_let(book, behind, kind, kinds))
        if not layer:
            return tuple(layers), tuple(left)
        layers.append(layer)
        behind += layer
        left = [kind for kind in left if kind not in layer]


def plain_rankings(book):
    """All rankings, ascending."""
    kinds = plain_kinds(book)
    can_follow = {
        (frozenset(behind), kind): plain_is_let(book, behind, kind)
        for behind in lots(kinds) for kind in kinds if kind not in behind
    }
    return [
        order for order in itertools.permutations(kinds)
        if all(can_follow[frozenset(order[:at]), kind] for at, kind in enumerate(order))
    ]


def plain_broken(store, state):
    """The ascending numbers of the laid checks that are broken."""
    return tuple(
        number for number, (check, cells) in enumerate(store.laid)
        if tuple(state[cell] for cell in cells) not in store.book.checks[check][1]
    )


def states_of(store):
    """All states."""
    return list(itertools.product(*[range(store.book.columns[column]) for column in store.cells]))


def good_states(store):
    return [state for state in states_of(store) if not plain_broken(store, state)]


def plain_fault(store, old, new, order):
    """What first_fault tells, by looking at all laid checks behind each setting."""
    state = list(old)
    for at, cell in enumerate(order):
        state[cell] = new[cell]
        broken = plain_broken(store, state)
        if broken:
            return at, broken[0]
    return None


def laid_everywhere(book, cells):
    """A store with each check laid on all rows of cells of its columns, a cell perhaps at two places."""
    laid = []
    for check, (places, _) in enumerate(book.checks):
        by_place = [[cell for cell, own in enumerate(cells) if own == column] for column in places]
        laid += [(check, row) for row in itertools.product(*by_place)]
    return Store(book, cells, laid)


def batch_lot(old, new):
    """The ascending cells in which two states are unlike."""
    return tuple(cell for cell in range(len(old)) if old[cell] != new[cell])


def with_set(old, new, lot):
    """The old state with a lot of cells set as in the new one."""
    return tuple(new[cell] if cell in lot else old[cell] for cell in range(len(old)))


def groups_of(cells, size):
    """All lots of one to so many of the cells, each an ascending tuple."""
    return [group for many in range(1, min(size, len(cells)) + 1) for group in itertools.combinations(cells, many)]


def plain_reached(old, new, size, lets):
    """All lots of the batch to which groups of at most this size lead by states that are let, the empty one among them."""
    cells, known = batch_lot(old, new), {}
    found, waiting = {()}, [()]
    while waiting:
        lot = waiting.pop()
        for group in groups_of([cell for cell in cells if cell not in lot], size):
            longer = tuple(sorted(lot + group))
            if longer not in known:
                known[longer] = lets(with_set(old, new, longer))
            if known[longer] and longer not in found:
                found.add(longer)
                waiting.append(longer)
    return found


def dealings(cells):
    """All ways to deal the cells to ascending lots, none empty, one behind another."""
    if not cells:
        return [()]
    return [
        (lot,) + behind
        for lot in lots(cells) if lot
        for behind in dealings([cell for cell in cells if cell not in lot])
    ]


def some_laid(book, cells, many, choice):
    """A store with some checks laid at random on its cells, so many of each."""
    laid = []
    for check, (places, _) in enumerate(book.checks):
        by_place = [[cell for cell, own in enumerate(cells) if own == column] for column in places]
        for _ in range(many if all(by_place) else 0):
            laid.append((check, tuple(choice.choice(own) for own in by_place)))
    return Store(book, cells, laid)


def good_stores(many, seed, sizes=(3, 4), **named):
    """So many (store, good states), the same for each seed."""
    choice = random.Random(seed)
    found = []
    for book in some_books(4 * many, seed, **named):
        count = choice.choice(sizes)
        cells = [choice.randrange(len(book.columns)) for _ in range(count)]
        store = some_laid(book, cells, choice.choice((1, 2, 3)), choice)
        good = good_states(store)
        if len(good) > 1 and len(found) < many:
            found.append((store, good))
    return found


def some_pairs(good, many, choice):
    """So many batches of good states."""
    return [(choice.choice(good), choice.choice(good)) for _ in range(many)]


def plain_told_store(book, pairs, kinds, many, spare):
    """(cells, laid, old, new): so many cells of each kind, then so many of each value that stays, ascending.

    Pairs are (check, one, other): the check is laid on all rows of unlike cells that have these values, old and new.
    """
    fates = [kind for kind in kinds for _ in range(many)]
    staying, laid = set(), set()
    for check, one, other in pairs:
        staying |= {(column, one[at]) for at, column in enumerate(book.checks[check][0]) if one[at] == other[at]}
    fates += [(column, value, value) for column, value in sorted(staying) for _ in range(spare)]
    for check, one, other in pairs:
        wanted = list(zip(book.checks[check][0], one, other))
        by_place = [[cell for cell, fate in enumerate(fates) if fate == want] for want in wanted]
        laid |= {(check, row) for row in itertools.product(*by_place) if len(set(row)) == len(row)}
    cells, old, new = zip(*fates)
    return cells, tuple(sorted(laid)), old, new


def bad_ends(store, good, bad):
    """(old, new, error, at) for old and new states that are none, or not good; at is the value itself for Refused."""
    many = len(good)
    wrong = list(good[:-1]) + [9]
    for value, error, at in (
        (None, BadState, -1), (good[:-1], BadState, -1), (wrong, BadState, many - 1),
        (list(good[:-1]) + [True], BadState, many - 1), (list(bad), Refused, None),
    ):
        kept = value if error is Refused else at
        yield value, bad, error, kept
        yield value, None, error, kept
        yield good, value, error, kept


def all_tables(sizes):
    """All tables of rows of values below the sizes."""
    return lots(itertools.product(*[range(size) for size in sizes]))


def some_books(many, seed, columns=((2,), (2, 2), (3,), (3, 2), (1, 2), (2, 1, 2)), most_places=3, most_checks=3):
    """So many books, the same ones for each seed."""
    choice = random.Random(seed)
    books = []
    for _ in range(many):
        sizes = choice.choice(columns)
        checks = []
        for _ in range(choice.randint(0, most_checks)):
            places = [choice.randrange(len(sizes)) for _ in range(choice.randint(1, most_places))]
            rows = list(itertools.product(*[range(sizes[column]) for column in places]))
            share = choice.choice((0.3, 0.6, 0.8, 0.9))
            checks.append((places, [row for row in rows if choice.random() < share]))
        books.append(Book(sizes, checks))
    return books


def small_books():
    """All books of one check of two places in one or two columns of two values; and those told above."""
    books = [Book([2], [((0, 0), rows)]) for rows in all_tables((2, 2))]
    books += [Book([2, 2], [((0, 1), rows)]) for rows in all_tables((2, 2))]
    books += [Book([2], [MOST, LEAST]), Book([2], [MOST, ALIKE]), Book([2]), Book([1]), Book([1, 1], [((0, 1), [])])]
    return books


def some_kinds(book, choice):
    """Some of the kinds of a book."""
    return [kind for kind in plain_kinds(book) if choice.random() < 0.6]


def result_of(call, *args, **named):
    """What a call returns, or the error that it raises."""
    try:
        return call(*args, **named)
    except (ValueError, KeyError) as error:
        return error
