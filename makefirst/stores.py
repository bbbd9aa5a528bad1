"""Stores: cells of a book's columns, checks laid on them, states, and batches between good states."""

from makefirst.errors import BadState, BadStore, NoCell, NoCheck, Refused
from makefirst.plain import are_below, is_below, is_sequence

MOST_CELLS = 200
MOST_LAID = 4000


class Store:
    """By cell its column; and the laid checks, each (check, cells by place)."""

    def __init__(self, book, cells, laid=()):
        if not are_cells(book, cells) or not is_sequence(laid) or len(laid) > MOST_LAID:
            raise BadStore(-1)
        for at, item in enumerate(laid):
            if not is_laid(book, cells, item):
                raise BadStore(at)
        self.book = book
        self.cells = tuple(cells)
        self.laid = tuple([(check, tuple(looked_at)) for check, looked_at in laid])
        self._laid_on = laid_by_cell(self.cells, self.laid)

    def __eq__(self, other):
        return (
            isinstance(other, Store)
            and self.book == other.book
            and self.cells == other.cells
            and self.laid == other.laid
        )

    def laid_on(self, cell):
        """The ascending numbers of the laid checks that look at the cell."""
        return self._laid_on[cell]


def are_cells(book, value):
    """Whether any value tells the columns of a store's cells."""
    return are_below(value, len(book.columns)) and 1 <= len(value) <= MOST_CELLS


def is_laid(book, cells, value):
    """Whether any value is a check laid on cells of the columns of its places."""
    if not is_sequence(value) or len(value) != 2:
        return False
    check, looked_at = value
    if not is_below(check, len(book.checks)) or not are_below(looked_at, len(cells)):
        return False
    return [cells[cell] for cell in looked_at] == list(book.checks[check][0])


def laid_by_cell(cells, laid):
    """By cell the ascending numbers of the laid checks that look at it."""
    found = [[] for _ in cells]
    for number, (_, looked_at) in enumerate(laid):
        for cell in sorted(set(looked_at)):
            found[cell].append(number)
    return tuple([tuple(numbers) for numbers in found])


def need_cell(store, value):
    """The cell, itself; NoCell for any value that is none."""
    if not is_below(value, len(store.cells)):
        raise NoCell(value)
    return value


def state_fault(store, value):
    """None for a state; for any other value what BadState tells of it."""
    if not is_sequence(value) or len(value) != len(store.cells):
        return -1
    for cell, item in enumerate(value):
        if not is_below(item, store.book.columns[store.cells[cell]]):
            return cell
    return None


def check_state(store, value):
    """The state as a tuple; BadState for any value that is none."""
    at = state_fault(store, value)
    if at is not None:
        raise BadState(at)
    return tuple(value)


def row_at(store, state, number):
    """The values, by place, on which the laid check of this number looks."""
    values = check_state(store, state)
    if not is_below(number, len(store.laid)):
        raise NoCheck(number)
    return looked_row(store, values, number)


def looked_row(store, values, number):
    """What row_at tells, of a state that is known to be one."""
    return tuple([values[cell] for cell in store.laid[number][1]])


def lets_at(store, values, number):
    """Whether the laid check of this number lets what it looks at."""
    return store.book.lets(store.laid[number][0], looked_row(store, values, number))


def broken(store, state):
    """The ascending numbers of the laid checks that do not let what they look at."""
    values = check_state(store, state)
    return tuple([number for number in range(len(store.laid)) if not lets_at(store, values, number)])


def is_good(store, state):
    """Whether no laid check is broken."""
    return not broken(store, state)


def good_state(store, state):
    """The state as a tuple; BadState for any value that is none, Refused for a state that is not good."""
    values = check_state(store, state)
    if not is_good(store, values):
        raise Refused(state)
    return values


def check_batch(store, old, new):
    """The old and the new state as tuples; BadState and Refused for each that is no good state."""
    start = good_state(store, old)
    return start, good_state(store, new)


def batch_cells(store, old, new):
    """The ascending cells whose values are unlike in the old and the new state."""
    start, goal = check_batch(store, old, new)
    return unlike_cells(start, goal)


def unlike_cells(one, other):
    """The ascending cells whose values are unlike in two states."""
    return tuple([cell for cell in range(len(one)) if one[cell] != other[cell]])


def batch_kind(store, old, new, cell):
    """The kind of the cell's change; None for an idle cell."""
    start, goal = check_batch(store, old, new)
    need_cell(store, cell)
    if start[cell] == goal[cell]:
        return None
    return cell_kind(store, start, goal, cell)


def cell_kind(store, one, other, cell):
    """The kind by which a cell changes from one state to another one."""
    return store.cells[cell], one[cell], other[cell]
