"""The course of a batch: its cells are set lot by lot, and some of these lots make a state that is not let.

A lot of cells is a sum of bits here, as makefirst.searches has it, one for each cell of the batch, ascending.
"""

from makefirst.books import lots_of
from makefirst.plain import are_below, is_sequence
from makefirst.searches import bits_in, steps_to
from makefirst.stores import unlike_cells


class Course:
    """The cells of a batch from one state to another one, both let, and what bars lots of them.

    The rules tell which rows are let (by a method `lets`). A fault is (mask, part): the state is not let if, of the
    cells of the mask, just those of the part are set.
    """

    def __init__(self, rules, store, start, goal):
        self.cells = unlike_cells(start, goal)
        self.bits = {cell: 1 << at for at, cell in enumerate(self.cells)}
        self.whole = sum(self.bits.values())
        self.faults = tuple(find_faults(rules, store, start, goal, self.bits))
        self.by_part = [[] for _ in self.cells]
        self.by_top = [[] for _ in self.cells]
        for mask, part in self.faults:
            self.by_top[mask.bit_length() - 1].append((mask, part))
            for bit in bits_in(part):
                self.by_part[bit.bit_length() - 1].append((mask, part))


def find_faults(rules, store, start, goal, bits):
    """By fault the least number of a laid check that it breaks; cells of one bit are set together."""
    found = {}
    for number, (check, looked_at) in enumerate(store.laid):
        own = sorted({bits[cell] for cell in looked_at if cell in bits})
        for lot in lots_of(own):
            row = tuple([goal[cell] if bits.get(cell) in lot else start[cell] for cell in looked_at])
            if not rules.lets(check, row):
                found.setdefault((sum(own), sum(lot)), number)
    return found


def has_fault(faults, lot):
    """Whether one of the faults bars the lot."""
    for mask, part in faults:
        if lot & mask == part:
            return True
    return False


def cells_in(course, lot):
    """The cells of a lot, ascending."""
    return tuple([cell for cell, bit in course.bits.items() if lot & bit])


def cells_by_bits(course, bits):
    """The cells of these bits, as they come."""
    return tuple([course.cells[bit.bit_length() - 1] for bit in bits])


def lot_from(course, cells):
    """The lot of these cells of the batch."""
    return sum([course.bits[cell] for cell in cells])


def longer_by_one(course, lot):
    """The lots that are let and have one cell more than a lot that is, ascending."""
    found = []
    for at, faults in enumerate(course.by_part):
        longer = lot | 1 << at
        # The lot has no fault, so one of the longer lot has this cell in its part.
        if longer != lot and not has_fault(faults, longer):
            found.append(longer)
    return found


def longer_by_group(course, lot, size):
    """The lots that are let and have at least one cell more than a lot, and at most as many as the size."""
    found = [(lot, size)]
    for at, faults in enumerate(course.by_top):
        bit = 1 << at
        if not lot & bit:
            found = found + [(longer | bit, left - 1) for longer, left in found if left]
        # All cells that these faults look at are decided by now.
        if faults:
            found = [(longer, left) for longer, left in found if not has_fault(faults, longer)]
    return [longer for longer, left in found if longer != lot]


def group_steps(course, size):
    """The steps from lot to lot by groups of at most this size, as makefirst.searches tells."""
    if size == 1:
        return lambda lot: longer_by_one(course, lot)
    return lambda lot: longer_by_group(course, lot, size)


def groups_to_whole(course, ahead):
    """Groups of cells, set one behind another, that do the whole batch; None if the search did not come to it."""
    if course.whole not in ahead:
        return None
    return tuple([cells_in(course, group) for group in steps_to(ahead, course.whole)])


def deals_out(value, start, goal):
    """Whether any value is a sequence of sequences of one cell or more, which have those of the batch, each once."""
    if not is_sequence(value):
        return False
    for part in value:
        if not are_below(part, len(start)) or not part:
            return False
    return sorted([cell for part in value for cell in part]) == list(unlike_cells(start, goal))
