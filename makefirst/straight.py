"""Orders of a batch's cells, set one at a time: whether they are straight, and two that always are."""

from makefirst.errors import Refused
from makefirst.layers import sure_layers
from makefirst.plain import are_below
from makefirst.stores import cell_kind, check_batch, lets_at, unlike_cells


def is_cell_order(start, goal, value):
    """Whether any value is a sequence of all cells in which two states are unlike, each once."""
    return are_below(value, len(start)) and sorted(value) == list(unlike_cells(start, goal))


def looking_at(store, group):
    """The ascending numbers of the laid checks that look at some of these cells."""
    return sorted({number for cell in group for number in store.laid_on(cell)})


def fault_on_way(store, start, goal, groups):
    """None if all states behind groups of cells, each set at one go, are good; else the first that is not.

    It is told as the index of the group and the least number of a laid check that is broken behind it.
    """
    state = list(start)
    for at, group in enumerate(groups):
        for cell in group:
            state[cell] = goal[cell]
        # The state was good, so only checks that look at these cells can be broken now.
        for number in looking_at(store, group):
            if not lets_at(store, state, number):
                return at, number
    return None


def fault_of_order(store, start, goal, order):
    """None for a straight order, else the index in it and the laid check that is broken first."""
    return fault_on_way(store, start, goal, [(cell,) for cell in order])


def is_straight_order(store, start, goal, value):
    """Whether any value is an order of all cells in which two states are unlike, with good states alone on the way."""
    return is_cell_order(start, goal, value) and fault_of_order(store, start, goal, value) is None


def is_straight(store, old, new, value):
    """Whether any value is an order of the batch with good states alone on the way."""
    start, goal = check_batch(store, old, new)
    return is_straight_order(store, start, goal, value)


def first_fault(store, old, new, value):
    """None for a straight order, else the index of the first cell behind which a laid check is broken, and this."""
    start, goal = check_batch(store, old, new)
    if not is_cell_order(start, goal, value):
        raise Refused(value)
    return fault_of_order(store, start, goal, value)


def by_layers(store, start, goal, layers):
    """The cells in which two states are unlike, by the layers of their kinds, ascending within one."""
    order = []
    kinds = {cell: cell_kind(store, start, goal, cell) for cell in unlike_cells(start, goal)}
    for layer in layers:
        order.extend([cell for cell, kind in kinds.items() if kind in layer])
    return tuple(order)


def sorted_cells(store, old, new):
    """The batch's cells by the layers of all kinds of the book; Knotted if the book is not ranked."""
    start, goal = check_batch(store, old, new)
    return by_layers(store, start, goal, sure_layers(store.book))


def own_layers(store, start, goal):
    """The cells in which two states are unlike, by the layers of their own kinds; Knotted if these have a knot."""
    kinds = [cell_kind(store, start, goal, cell) for cell in unlike_cells(start, goal)]
    return tuple([by_layers(store, start, goal, [layer]) for layer in sure_layers(store.book, kinds)])


def told_cells(store, old, new):
    """The batch's cells by the layers of their own kinds alone; Knotted if these have a knot."""
    start, goal = check_batch(store, old, new)
    return tuple([cell for layer in own_layers(store, start, goal) for cell in layer])
