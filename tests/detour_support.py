"""What the tests of detours share: the document's words on displays and steps worked out in the plainest way."""

import itertools
import random

from makefirst.books import Book
from support import ALIKE, is_int, is_seq, small_books, some_books

OTHER = Book([2], [((0, 0), ((0, 1), (1, 0)))])
LOCK = Book([2, 2], [((0, 0, 1), ((0, 0, 1), (0, 1, 0), (0, 1, 1), (1, 0, 0), (1, 0, 1), (1, 1, 1)))])
LOCK_WAY = (((1, 0, 0), 1), ((1, 0, 1), 1), ((0, 0, 1), 1), ((0, 1, 0), 0), ((1, 0, 0), 0), ((1, 1, 0), 0))
# All of these have a knot, and a detour all the same.
THREE = Book([3], [((0, 0), ((0, 1), (0, 2), (1, 0), (1, 1)))])
BOTH = Book([3, 2], [((0, 1, 0), ((0, 1, 1), (0, 1, 2), (1, 0, 0), (1, 1, 0), (1, 1, 1), (2, 0, 1), (2, 1, 1)))])
CUBE = list(itertools.product((0, 1), repeat=3))
EITHER = Book([2, 2, 2], [
    ((1, 0, 1), [row for row in CUBE if row != (0, 1, 0)]), ((1, 2, 1), [row for row in CUBE if row != (1, 1, 1)]),
])


def plain_fates(book):
    found = set()
    for places, rows in book.checks:
        for place, column in enumerate(places):
            found |= {(column, one[place], other[place]) for one in rows for other in rows}
    return tuple(sorted(found))


def ends_of(book):
    """The first and the last display."""
    fates = plain_fates(book)
    return tuple(old for _, old, _ in fates), tuple(new for _, _, new in fates)


def plain_is_let_step(book, shown, fate, value):
    now = dict(zip(plain_fates(book), shown))
    for places, rows in book.checks:
        for one, other in itertools.product(rows, repeat=2):
            fates = list(zip(places, one, other))
            if fate in fates:
                choices = [(now[own], value) if own == fate else (now[own],) for own in fates]
                if any(row not in rows for row in itertools.product(*choices)):
                    return False
    return True


def behind(book, shown, fate, value):
    """The display to which a step leads."""
    return tuple(value if own == fate else now for own, now in zip(plain_fates(book), shown))


def plain_steps(book, shown):
    """All let steps (fate, value), ascending, with the displays to which they lead."""
    return [
        ((fate, value), behind(book, shown, fate, value))
        for fate, now in zip(plain_fates(book), shown) for value in range(book.columns[fate[0]])
        if value != now and plain_is_let_step(book, shown, fate, value)
    ]


def is_parked(book, columns, shown, step):
    """Whether a step may be taken if just these columns are parked."""
    fate, value = step
    now = dict(zip(plain_fates(book), shown))[fate]
    return fate[0] in columns or now == fate[1] and value == fate[2]


def plain_reached(book, limit):
    """By display to which let steps lead from the first one its steps; None if there are more than the limit."""
    first, _ = ends_of(book)
    found, waiting = {first: None}, [first]
    while waiting:
        shown = waiting.pop()
        found[shown] = plain_steps(book, shown)
        for _, other in found[shown]:
            if other not in found:
                found[other] = None
                waiting.append(other)
        if len(found) > limit:
            return None
    return found


def plain_way(book, reached, columns=None):
    """The least of the detours with the fewest steps, all of them being looked at; None if there is none."""
    first, last = ends_of(book)
    best = {first: ()}
    layer = [first]
    while layer and last not in best:
        further = {}
        for shown in layer:
            for step, other in reached[shown]:
                if other not in best and (columns is None or is_parked(book, columns, shown, step)):
                    further.setdefault(other, []).append(best[shown] + (step,))
        layer = list(further)
        best.update({other: min(ways) for other, ways in further.items()})
    return best.get(last)


def plain_walk(book, value):
    """The steps, as tuples, with the displays ahead of them, of any value that is a detour; None for any other one."""
    shown, last = ends_of(book)
    fates = plain_fates(book)
    found = []
    if not is_seq(value):
        return None
    for step in value:
        if not is_seq(step) or len(step) != 2 or not is_seq(step[0]) or not all(map(is_int, [*step[0], step[1]])):
            return None
        fate, goal = tuple(step[0]), step[1]
        if fate not in fates or not 0 <= goal < book.columns[fate[0]] or goal == dict(zip(fates, shown))[fate]:
            return None
        if not plain_is_let_step(book, shown, fate, goal):
            return None
        found.append(((fate, goal), shown))
        shown = behind(book, shown, fate, goal)
    return found if shown == last else None


def round_books(many, seed):
    """So many books of cells of three or four values with checks of two places, many rows of which are alike."""
    choice = random.Random(seed)
    books = []
    for _ in range(many):
        sizes = choice.choice(([3], [3, 2], [2, 2], [4], [3, 1]))
        checks = []
        for _ in range(choice.randint(1, 2)):
            places = [choice.randrange(len(sizes)) for _ in range(choice.choice((2, 2, 3)))]
            table = list(itertools.product(*[range(sizes[column]) for column in places]))
            checks.append((places, choice.sample(table, min(len(table), choice.randint(2, 6)))))
        books.append(Book(sizes, checks))
    return books


def known_books(limit=300, many=260):
    """(book, what plain_reached tells) of books with at most so many displays that steps lead to."""
    books = [OTHER, LOCK, THREE, BOTH, Book([3], [((0, 0), ALIKE[1])]), *small_books()]
    books += [*some_books(many // 2, 441), *round_books(many, 441)]
    books = [book for book in books if len(plain_fates(book)) < 12 or sum(len(rows) for _, rows in book.checks) < 14]
    told = [(book, plain_reached(book, limit)) for book in books]
    return [(book, reached) for book, reached in told if reached is not None]


KNOWN = known_books()
ABLE = [(book, reached) for book, reached in KNOWN if ends_of(book)[1] in reached]
STUCK = [(book, reached) for book, reached in KNOWN if ends_of(book)[1] not in reached]
