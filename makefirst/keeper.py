"""Keepers: live stores in which several hands do batches cell by cell, each hand at its own pace."""

from makefirst.errors import Refused
from makefirst.plain import is_below
from makefirst.stores import good_state, is_good, need_cell
from makefirst.straight import own_layers

MOST_HANDS = 8


class Keeper:
    """A store, its present state, and the batch that is under way in it."""

    def __init__(self, store, state, hands):
        self.state = good_state(store, state)
        if not is_below(hands, MOST_HANDS + 1) or hands < 1:
            raise Refused(hands)
        self.taken = ((),) * hands
        self.done = 0
        self._lead(store, self.state)

    def aim(self, new):
        """Leads to a new state from now on."""
        self._lead(self.store, good_state(self.store, new))

    def turn_back(self):
        """Leads back to the state at the last rest from now on."""
        self.aim(self.origin)

    def renew(self, store):
        """Goes on in another store of the same cells."""
        if store.cells != self.store.cells or store.book.columns != self.store.book.columns:
            raise Refused(store)
        goal = self.state if self.goal is None else self.goal
        if not is_good(store, self.state) or not is_good(store, goal):
            raise Refused(store)
        self._lead(store, goal)

    def open_cells(self):
        """The ascending cells of the first layer of those left that no hand has taken."""
        if not self.left:
            return ()
        taken = [cell for cells in self.taken for cell in cells]
        return tuple([cell for cell in self.left[0] if cell not in taken])

    def take(self, hand, cell):
        """The hand takes an open cell."""
        self._need_hand(hand)
        need_cell(self.store, cell)
        if cell not in self.open_cells():
            raise Refused(cell)
        self._give(hand, sorted([*self.taken[hand], cell]))

    def put(self, hand, cell):
        """The hand sets a cell that it has taken; its value."""
        self._need_hand(hand)
        need_cell(self.store, cell)
        if cell not in self.taken[hand]:
            raise Refused(cell)
        value = self.goal[cell]
        self.state = self.state[:cell] + (value,) + self.state[cell + 1:]
        self.done += 1
        self._give(hand, [other for other in self.taken[hand] if other != cell])
        left = [tuple([other for other in layer if other != cell]) for layer in self.left]
        self.left = tuple([layer for layer in left if layer])
        self._rest_if_done()
        return value

    def drop(self, hand):
        """The hand gives back all that it has taken; these cells, ascending."""
        self._need_hand(hand)
        cells = self.taken[hand]
        self._give(hand, [])
        return cells

    def _lead(self, store, goal):
        """Leads to a good state, in this store, no hand having taken anything; Knotted, and nothing, for a knot."""
        self.left = own_layers(store, self.state, goal)
        self.store = store
        self.goal = goal
        self.taken = ((),) * len(self.taken)
        self._rest_if_done()

    def _rest_if_done(self):
        """Comes to rest if no cell is left."""
        if not self.left:
            self.goal = None
            self.origin = self.state

    def _need_hand(self, value):
        """Refused for any value that is no hand."""
        if not is_below(value, len(self.taken)):
            raise Refused(value)

    def _give(self, hand, cells):
        """The hand has taken just these cells from now on."""
        self.taken = tuple([tuple(cells) if other == hand else own for other, own in enumerate(self.taken)])
