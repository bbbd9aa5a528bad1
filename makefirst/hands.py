"""Several hands: batches that go together, each done at its own pace, and crews that begin them as they come.

A lot of batches is a sum of bits here, one for each batch, as makefirst.courses has them for cells.
"""

from makefirst.books import lots_of
from makefirst.courses import find_faults
from makefirst.errors import Refused, TooGreat
from makefirst.plain import are_ascending, is_below, is_sequence
from makefirst.stores import good_state, lets_at, state_fault
from makefirst.straight import own_layers

MOST_BATCHES = 8
MOST_CLASHING = 3


def is_change(store, values, value):
    """Whether any value is a pair (cell, value) of another value than the cell has in the state."""
    if not is_sequence(value) or len(value) != 2 or not is_below(value[0], len(store.cells)):
        return False
    cell, wanted = value
    return is_below(wanted, store.book.columns[store.cells[cell]]) and wanted != values[cell]


def are_changes(store, values, value):
    """Whether any value is a sequence of one or more changes of unlike cells."""
    if not is_sequence(value) or not value:
        return False
    for pair in value:
        if not is_change(store, values, pair):
            return False
    return len({pair[0] for pair in value}) == len(value)


def tidy_changes(value):
    """Changes as tuples, ascending."""
    return tuple(sorted([tuple(pair) for pair in value]))


def need_changes(store, values, value):
    """The changes of a state that is good, as tuples, ascending; Refused for any value that is none."""
    if not are_changes(store, values, value):
        raise Refused(value)
    return tidy_changes(value)


def check_changes(store, state, value):
    """The changes of a good state, as tuples, ascending; Refused for any value that is none."""
    return need_changes(store, good_state(store, state), value)


def with_done(values, batches):
    """The state in which just these batches are done."""
    state = list(values)
    for changes in batches:
        for cell, wanted in changes:
            state[cell] = wanted
    return tuple(state)


def layers_to_do(store, values, changes):
    """The changed cells by the layers of their kinds alone; Knotted if these have a knot."""
    return own_layers(store, values, with_done(values, [changes]))


def change_layers(store, state, changes):
    """The cells that the changes of a good state set, by the layers of their kinds, told alone."""
    values = good_state(store, state)
    return layers_to_do(store, values, need_changes(store, values, changes))


def need_batches(store, values, value):
    """The batches, each as tidy changes; Refused for any value that is no sequence of at most eight, no cell in two."""
    if not is_sequence(value) or len(value) > MOST_BATCHES:
        raise Refused(value)
    for changes in value:
        if not are_changes(store, values, changes):
            raise Refused(value)
    cells = [cell for changes in value for cell, _ in changes]
    if len(set(cells)) < len(cells):
        raise Refused(value)
    return [tidy_changes(changes) for changes in value]


def values_and_batches(store, state, batches):
    """The good state as a tuple, and the batches, each as tidy changes."""
    values = good_state(store, state)
    return values, need_batches(store, values, batches)


def faults_of(store, values, batches):
    """By fault (mask, part), lots of batches, the least number of a laid check that it breaks.

    It does so if, of the batches of the mask, just those of the part are done.
    """
    bits = {cell: 1 << at for at, changes in enumerate(batches) for cell, _ in changes}
    return find_faults(store.book, store, values, with_done(values, batches), bits)


def least_clash(store, values, batches):
    """None if the batches go together, else the least (numbers, laid)."""
    faults = faults_of(store, values, batches)
    for numbers in lots_of(list(range(len(batches)))):
        # A laid check looks at three cells at most, so what breaks it is done by three batches at most.
        if len(numbers) <= MOST_CLASHING:
            lot = sum([1 << number for number in numbers])
            laid = [number for (mask, part), number in faults.items() if lot & mask == part]
            if laid:
                return numbers, min(laid)
    return None


def go_together(store, state, batches):
    """Whether the state in which just these are done is good for each lot of the batches."""
    return clash_paper(store, state, batches) is None


def clash_paper(store, state, batches):
    """None if the batches go together, else the least (numbers of at most three of them, laid check broken behind)."""
    values, own = values_and_batches(store, state, batches)
    return least_clash(store, values, own)


def clash_holds(store, state, batches, value):
    """Whether any value is a pair of numbers of batches and a laid check that is broken if just these are done."""
    values, own = values_and_batches(store, state, batches)
    if not is_sequence(value) or len(value) != 2:
        return False
    numbers, laid = value
    if not are_ascending(numbers, len(own)) or not is_below(laid, len(store.laid)):
        return False
    return not lets_at(store, with_done(values, [own[number] for number in numbers]), laid)


def is_moment(store, state, batches, value):
    """Whether any value is a state to which hands come that do the batches by their layers, each at its own pace."""
    values, own = values_and_batches(store, state, batches)
    dealt = [layers_to_do(store, values, changes) for changes in own]
    if state_fault(store, value) is not None:
        return False
    goal = with_done(values, own)
    for cell in range(len(values)):
        if value[cell] not in (values[cell], goal[cell]):
            return False
    left = {cell: True for cell in range(len(values)) if value[cell] != goal[cell]}
    for layers in dealt:
        if not is_begun(layers, left):
            return False
    return True


def is_begun(layers, left):
    """Whether no cell of a layer is set while some of a layer ahead of it are left."""
    waits = False
    for layer in layers:
        still = [cell for cell in layer if cell in left]
        if waits and len(still) < len(layer):
            return False
        waits = len(still) > 0
    return True


class Crew:
    """Keeps a good state, and batches under way, each done by a hand of its own."""

    def __init__(self, store, state):
        self.state = good_state(store, state)
        self.store = store
        self._layers = []
        self._left = []

    def begin(self, changes):
        """Begins a batch that goes together with all that is left; its number."""
        own = self._need_new(changes)
        layers = layers_to_do(self.store, self.state, own)
        if self._clash_with(own) is not None:
            raise Refused(changes)
        if len(self._under_way()) >= MOST_BATCHES:
            raise TooGreat(MOST_BATCHES)
        self._layers.append(layers)
        self._left.append({cell: wanted for cell, wanted in own})
        return len(self._left) - 1

    def clash_of(self, changes):
        """None if the changes go together with all that is left, else the numbers of batches with which they do not."""
        return self._clash_with(self._need_new(changes))

    def left_of(self, number):
        """The changes that are left of a batch, ascending."""
        return tuple(self._left_in(number).items())

    def next_cells(self, number):
        """The cells that are left, ascending, of the first of the batch's layers that has any left."""
        left = self._left_in(number)
        for layer in self._layers[number]:
            still = tuple([cell for cell in layer if cell in left])
            if still:
                return still
        return ()

    def move(self, number, cell):
        """Sets one of the next cells of a batch; the value that it has now."""
        ready = self.next_cells(number)
        if not is_below(cell, len(self.state)) or cell not in ready:
            raise Refused(cell)
        wanted = self._left[number].pop(cell)
        self.state = with_done(self.state, [((cell, wanted),)])
        return wanted

    def leave(self, number):
        """Leaves a batch off, so that nothing is left of it; the changes that were left."""
        changes = self.left_of(number)
        self._left[number] = {}
        return changes

    def _left_in(self, number):
        """By cell that is left of a batch, ascending, the value to be set; Refused for any value that is no number."""
        if not is_below(number, len(self._left)):
            raise Refused(number)
        return self._left[number]

    def _under_way(self):
        """The ascending numbers of the batches that have changes left."""
        return [number for number, left in enumerate(self._left) if left]

    def _need_new(self, value):
        """Changes of the present state, of cells that no batch is still to set; Refused for any value that is none."""
        own = need_changes(self.store, self.state, value)
        for left in self._left:
            if [cell for cell, _ in own if cell in left]:
                raise Refused(value)
        return own

    def _clash_with(self, own):
        """None if changes go together with all that is left, else the numbers of the batches of the least clash."""
        numbers = self._under_way()
        batches = [self.left_of(number) for number in numbers] + [own]
        clash = least_clash(self.store, self.state, batches)
        # What is left goes together, so the changes, which are the last of these, are in each clash.
        return None if clash is None else tuple([numbers[at] for at in clash[0][:-1]])
