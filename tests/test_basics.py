"""Promises [1], [2] and [4], of all functions, and the interface's names and arguments."""

import ast
import importlib
import inspect
import pathlib
import unittest

from detour_support import LOCK
from makefirst.books import Book
from makefirst.desk import Desk
from makefirst.errors import BadBook, BadState, BadStore, BadText, Knotted, NoCell, NoCheck, NoKind, Refused, TooGreat
from makefirst.hands import Crew
from makefirst.keeper import Keeper
from makefirst.lax import LaxBook
from makefirst.stores import Store
from support import MOST, REFERS, any_values, frozen, is_seq, result_of, strict, thawed

PACKAGE = pathlib.Path(__file__).parent.parent / "makefirst"

INTERFACE = {
    "errors": {
        "BatchError": None, "BadBook": "(at)", "BadStore": "(at)", "BadState": "(at)", "BadText": "(at)", "Refused": "(at)",
        "TooGreat": "(most)", "Knotted": "(kinds)", "NoKind": "(kind)", "NoCell": "(cell)", "NoCheck": "(check)",
    },
    "books": {
        "Book": "(columns, checks=())", "kinds_of": "(book)", "need_kind": "(book, value)", "need_check": "(book, value)",
        "check_kinds": "(book, value)", "unlike_by": "(book, check, one, other)",
    },
    "stores": {
        "Store": "(book, cells, laid=())", "need_cell": "(store, value)", "check_state": "(store, value)",
        "row_at": "(store, state, number)", "broken": "(store, state)", "is_good": "(store, state)",
        "check_batch": "(store, old, new)", "batch_cells": "(store, old, new)", "batch_kind": "(store, old, new, cell)",
    },
    "texts": {
        "book_text": "(book)", "read_book": "(text)", "store_text": "(store)", "read_store": "(text)",
        "state_text": "(store, state)", "read_state": "(store, text)",
    },
    "layers": {
        "is_let": "(book, behind, kind, kinds=None)", "layers_of": "(book, kinds=None)", "knot_of": "(book, kinds=None)",
        "is_ranked": "(book, kinds=None)", "knot_papers": "(book, kinds=None)", "papers_hold": "(book, value, kinds=None)",
    },
    "rankings": {
        "check_order": "(book, value)", "is_ranking": "(book, value)", "check_ranking": "(book, value)",
        "least_ranking": "(book)", "openings_of": "(book, *, most)", "rankings_many": "(book, *, most)",
        "nth_ranking": "(book, number, *, most)", "ranking_place": "(book, ranking, *, most)",
    },
    "straight": {
        "is_straight": "(store, old, new, value)", "first_fault": "(store, old, new, value)",
        "sorted_cells": "(store, old, new)", "told_cells": "(store, old, new)",
    },
    "barring": {
        "way_holds": "(store, old, new, value, size=1)", "straight_way": "(store, old, new, size=1, *, most)",
        "barring_store": "(book, size=1)",
    },
    "plans": {
        "plan_holds": "(store, old, new, value)", "round_plan": "(store, old, new)",
        "fewest_rounds": "(store, old, new, *, most)",
    },
    "slow": {"slow_papers": "(book)", "slow_store": "(book)"},
    "hulls": {
        "suits_paper": "(book, check, ranking)", "suits": "(book, check, ranking)",
        "hull_rows": "(book, places, rows, ranking)", "hull_book": "(book, ranking)", "fewest_added": "(book, *, most)",
    },
    "deferring": {"deferred_lots": "(book)", "barred_kinds": "(book, *, most)"},
    "lax": {
        "LaxBook": "(book, ways)", "is_passable": "(lax, store, state)", "lax_let": "(lax, behind, kind)",
        "lax_ranking": "(lax, *, most)", "lax_holds": "(lax, value)", "lax_sorted": "(lax, store, old, new, ranking)",
        "lax_way": "(lax, store, old, new, *, most)", "lax_store": "(lax, *, most)",
    },
    "orders": {
        "orders_many": "(store, old, new, *, most)", "least_order": "(store, old, new, *, most)",
        "nth_order": "(store, old, new, number, *, most)", "order_place": "(store, old, new, value, *, most)",
        "sure_ahead": "(store, old, new, *, most)", "order_paper": "(store, old, new, *, most)",
        "order_holds": "(store, old, new, value)", "least_group": "(store, old, new, *, most)",
        "pair_ahead": "(store, old, new)", "pair_order": "(store, old, new)",
    },
    "hands": {
        "check_changes": "(store, state, value)", "change_layers": "(store, state, changes)",
        "clash_paper": "(store, state, batches)", "go_together": "(store, state, batches)",
        "clash_holds": "(store, state, batches, value)", "is_moment": "(store, state, batches, value)", "Crew": "(store, state)",
    },
    "detours": {
        "fates_of": "(book)", "check_shown": "(book, value)", "is_let_step": "(book, shown, fate, value)",
        "detour_of": "(book, *, most)", "detour_holds": "(book, value)", "stuck_lot": "(book, *, most)",
        "stuck_holds": "(book, value)", "detour_settings": "(store, old, new, value)",
    },
    "wayless": {"wayless_store": "(book, size=1, *, most)"},
    "parking": {
        "parked_way": "(book, columns, *, most)", "parked_holds": "(book, columns, value)", "parked_lots": "(book, *, most)",
    },
    "families": {
        "sum_check": "(columns, places, low, high)", "order_check": "(columns, one, other)", "unlike_check": "(columns, one, other)",
        "reference_book": "(tables, references)", "longest_chain": "(tables, references)",
    },
    "keeper": {"Keeper": "(store, state, hands)"},
    "claims": {"claim_holds": "(book, value)", "claims_of": "(book, *, most)"},
    "desk": {"Desk": "(keeper)"},
}

METHODS = {
    ("hands", "Crew"): {
        "left_of": "(self, number)", "clash_of": "(self, changes)", "begin": "(self, changes)", "next_cells": "(self, number)",
        "move": "(self, number, cell)", "leave": "(self, number)",
    },
    ("keeper", "Keeper"): {
        "aim": "(self, new)", "turn_back": "(self)", "renew": "(self, store)", "open_cells": "(self)", "take": "(self, hand, cell)",
        "put": "(self, hand, cell)", "drop": "(self, hand)",
    },
    ("desk", "Desk"): {"say": "(self, line)"},
}

# What each function may raise, whatever is passed.
ENDS = (BadState, Refused)
TOLD = {
    "Book": (BadBook,), "need_kind": (NoKind,), "need_check": (NoCheck,), "check_kinds": (Refused,), "unlike_by": (NoCheck, Refused),
    "Store": (BadStore,), "need_cell": (NoCell,), "check_state": (BadState,), "row_at": (BadState, NoCheck), "broken": (BadState,),
    "is_good": (BadState,), "check_batch": ENDS, "batch_cells": ENDS, "batch_kind": (*ENDS, NoCell), "read_book": (BadText,),
    "read_store": (BadText,), "state_text": (BadState,), "read_state": (BadText,), "is_let": (Refused, NoKind),
    "layers_of": (Refused,), "knot_of": (Refused,), "is_ranked": (Refused,), "knot_papers": (Refused,), "papers_hold": (Refused,),
    "check_order": (Refused,), "check_ranking": (Refused,), "least_ranking": (Knotted,), "openings_of": (TooGreat,),
    "rankings_many": (TooGreat,), "nth_ranking": (TooGreat, Refused), "ranking_place": (Refused, TooGreat), "is_straight": ENDS,
    "first_fault": ENDS, "sorted_cells": (*ENDS, Knotted), "told_cells": (*ENDS, Knotted), "way_holds": ENDS,
    "straight_way": (*ENDS, TooGreat), "barring_store": (Refused, TooGreat), "plan_holds": ENDS, "round_plan": (*ENDS, Knotted),
    "fewest_rounds": (*ENDS, TooGreat), "slow_papers": (Knotted, Refused), "slow_store": (Knotted, Refused, TooGreat),
    "suits_paper": (NoCheck, Refused), "suits": (NoCheck, Refused), "hull_rows": (Refused,), "hull_book": (Refused,),
    "fewest_added": (TooGreat,), "barred_kinds": (TooGreat,), "LaxBook": (Refused,), "is_passable": (Refused, BadState),
    "lax_let": (Refused, NoKind), "lax_ranking": (TooGreat,), "lax_sorted": ENDS, "lax_way": (*ENDS, TooGreat),
    "lax_store": (TooGreat, Refused), "orders_many": (*ENDS, TooGreat), "least_order": (*ENDS, TooGreat),
    "nth_order": (*ENDS, TooGreat), "order_place": (*ENDS, TooGreat), "sure_ahead": (*ENDS, TooGreat),
    "order_paper": (*ENDS, TooGreat), "order_holds": ENDS, "least_group": (*ENDS, TooGreat), "pair_ahead": ENDS, "pair_order": ENDS,
    "check_changes": ENDS, "change_layers": (*ENDS, Knotted), "clash_paper": ENDS, "go_together": ENDS, "clash_holds": ENDS,
    "is_moment": (*ENDS, Knotted), "Crew": ENDS, "check_shown": (Refused,), "is_let_step": (Refused,), "detour_of": (TooGreat,),
    "stuck_lot": (TooGreat,), "detour_settings": ENDS, "wayless_store": (Refused, TooGreat), "parked_way": (Refused, TooGreat),
    "parked_holds": (Refused,), "parked_lots": (TooGreat,), "sum_check": (Refused,), "order_check": (Refused,),
    "unlike_check": (Refused,), "reference_book": (Refused,), "longest_chain": (Refused,), "Keeper": ENDS, "claims_of": (TooGreat,),
}

BOOK = Book([2, 2], [REFERS])
ALIKE = Book([2], [((0, 0), [(0, 0), (1, 1)])])
STORE = Store(BOOK, [1, 0, 0], [(0, (1, 0)), (0, (2, 0))])
ORDER = [[1, 0, 1], [0, 0, 1], [0, 1, 0], [1, 1, 0]]
LAX = LaxBook(BOOK, [[(0, 0), (0, 1), (1, 0), (1, 1)]])
FIRM = LaxBook(ALIKE, [ALIKE.checks[0][1]])
PAIR = Store(ALIKE, [0, 0], [(0, (0, 1))])
WAY = [[[1, 0, 0], 1], [[1, 0, 1], 1], [[0, 0, 1], 1], [[0, 1, 0], 0], [[1, 0, 0], 0], [[1, 1, 0], 0]]

# (file, name, arguments, most), the arguments as lists.
CALLS = [
    ("books", "Book", [[2, 3], [[[0, 1], [[1, 2], [0, 0], [1, 2]]]]], None),
    ("books", "kinds_of", [BOOK], None),
    ("books", "need_kind", [BOOK, [0, 0, 1]], None),
    ("books", "need_kind", [BOOK, [0, 0, True]], None),
    ("books", "need_check", [BOOK, 0], None),
    ("books", "need_check", [BOOK, False], None),
    ("books", "check_kinds", [BOOK, [[1, 1, 0], [0, 0, 1], [1, 1, 0]]], None),
    ("books", "check_kinds", [BOOK, [[1, 1, 1]]], None),
    ("books", "unlike_by", [BOOK, 0, [0, 1], [1, 0]], None),
    ("books", "unlike_by", [BOOK, 0, [0, 1], [1, 2]], None),
    ("stores", "Store", [BOOK, [1, 0], [[0, [1, 0]]]], None),
    ("stores", "need_cell", [STORE, 2], None),
    ("stores", "need_cell", [STORE, [2]], None),
    ("stores", "check_state", [STORE, [1, 0, 1]], None),
    ("stores", "check_state", [STORE, [1, 0, 2]], None),
    ("stores", "row_at", [STORE, [1, 0, 1], 1], None),
    ("stores", "row_at", [STORE, [1, 0, 1], 2], None),
    ("stores", "broken", [STORE, [0, 1, 1]], None),
    ("stores", "is_good", [STORE, [1, 1, 1]], None),
    ("stores", "check_batch", [STORE, [0, 0, 0], [1, 0, 1]], None),
    ("stores", "check_batch", [STORE, [0, 0, 0], [0, 0, 1]], None),
    ("stores", "batch_cells", [STORE, [0, 0, 0], [1, 0, 1]], None),
    ("stores", "batch_kind", [STORE, [0, 0, 0], [1, 0, 1], 2], None),
    ("stores", "batch_kind", [STORE, [0, 0, 0], [1, 0, 1], 1], None),
    ("texts", "book_text", [BOOK], None),
    ("texts", "read_book", ["columns 2 2\ncheck 0 1: 00 01 11"], None),
    ("texts", "read_book", ["columns 2 2\ncheck 0 1: 00 01 10 "], None),
    ("texts", "store_text", [STORE], None),
    ("texts", "read_store", ["columns 2\ncheck 0: 0\ncells 0 0\nlaid 0: 1"], None),
    ("texts", "state_text", [STORE, [1, 0, 1]], None),
    ("texts", "read_state", [STORE, "1 0 1"], None),
    ("layers", "is_let", [BOOK, [[1, 0, 1]], [0, 0, 1], [[0, 0, 1], [1, 0, 1]]], None),
    ("layers", "is_let", [BOOK, [[1, 0, 1]], [0, 0, 1], [[0, 0, 1], [1, 1, 1]]], None),
    ("layers", "layers_of", [BOOK, [[0, 0, 1], [1, 0, 1], [0, 0, 1]]], None),
    ("layers", "layers_of", [BOOK], None),
    ("layers", "knot_of", [ALIKE, [[0, 0, 1], [0, 1, 0]]], None),
    ("layers", "is_ranked", [ALIKE, [[0, 0, 1]]], None),
    ("layers", "knot_papers", [ALIKE, [[0, 0, 1], [0, 1, 0]]], None),
    ("layers", "papers_hold", [ALIKE, [[[0, 0, 1], 0, [0, 0], [1, 1], [0]]], [[0, 0, 1], [0, 1, 0]]], None),
    ("rankings", "check_order", [BOOK, ORDER], None),
    ("rankings", "is_ranking", [BOOK, ORDER], None),
    ("rankings", "check_ranking", [BOOK, ORDER], None),
    ("rankings", "check_ranking", [BOOK, ORDER[::-1]], None),
    ("rankings", "least_ranking", [BOOK], None),
    ("rankings", "least_ranking", [ALIKE], None),
    ("rankings", "openings_of", [BOOK], 9),
    ("rankings", "openings_of", [BOOK], 8),
    ("rankings", "rankings_many", [BOOK], 9),
    ("rankings", "nth_ranking", [BOOK, 5], 9),
    ("rankings", "nth_ranking", [BOOK, 6], 9),
    ("rankings", "ranking_place", [BOOK, ORDER], 9),
    ("straight", "is_straight", [STORE, [0, 0, 0], [1, 0, 1], [0, 2]], None),
    ("straight", "first_fault", [STORE, [0, 0, 0], [1, 0, 1], [2, 0]], None),
    ("straight", "first_fault", [STORE, [0, 0, 0], [1, 0, 1], [2, 1]], None),
    ("straight", "sorted_cells", [STORE, [0, 0, 0], [1, 0, 1]], None),
    ("straight", "told_cells", [STORE, [1, 0, 1], [0, 0, 0]], None),
    ("barring", "way_holds", [STORE, [0, 0, 0], [1, 0, 1], [[0], [2]], 2], None),
    ("barring", "way_holds", [STORE, [0, 0, 0], [1, 0, 1], [[0, 2]], 0], None),
    ("barring", "straight_way", [STORE, [0, 0, 0], [1, 0, 1], 2], 4),
    ("barring", "straight_way", [STORE, [0, 0, 0], [1, 0, 1]], 1),
    ("barring", "barring_store", [ALIKE, 2], None),
    ("barring", "barring_store", [BOOK, 2], None),
    ("plans", "plan_holds", [STORE, [0, 0, 0], [1, 0, 1], [[0], [2]]], None),
    ("plans", "round_plan", [STORE, [0, 0, 0], [1, 0, 1]], None),
    ("plans", "fewest_rounds", [STORE, [0, 0, 0], [1, 0, 1]], 4),
    ("plans", "fewest_rounds", [STORE, [0, 0, 0], [1, 0, 1]], 3),
    ("slow", "slow_papers", [BOOK], None),
    ("slow", "slow_store", [BOOK], None),
    ("slow", "slow_store", [ALIKE], None),
    ("hulls", "suits_paper", [BOOK, 0, ORDER[::-1]], None),
    ("hulls", "suits", [BOOK, 0, ORDER], None),
    ("hulls", "hull_rows", [BOOK, [0, 1], [[0, 1], [1, 0]], ORDER], None),
    ("hulls", "hull_rows", [BOOK, [0, 1], [[0, 2], [1, 0]], ORDER], None),
    ("hulls", "hull_book", [BOOK, ORDER[::-1]], None),
    ("hulls", "fewest_added", [BOOK], 24),
    ("hulls", "fewest_added", [BOOK], 23),
    ("deferring", "deferred_lots", [ALIKE], None),
    ("deferring", "barred_kinds", [ALIKE], 4),
    ("deferring", "barred_kinds", [ALIKE], 3),
    ("lax", "LaxBook", [BOOK, [[[1, 1], [0, 0], [0, 1], [1, 1]]]], None),
    ("lax", "LaxBook", [BOOK, [[[1, 1], [0, 0]]]], None),
    ("lax", "is_passable", [LAX, STORE, [1, 0, 1]], None),
    ("lax", "lax_let", [LAX, [[0, 0, 1]], [1, 0, 1]], None),
    ("lax", "lax_let", [LAX, [[0, 0, 0]], [1, 0, 1]], None),
    ("lax", "lax_ranking", [LAX], 16),
    ("lax", "lax_ranking", [LAX], 15),
    ("lax", "lax_holds", [LAX, ORDER], None),
    ("lax", "lax_sorted", [LAX, STORE, [0, 0, 0], [1, 0, 1], ORDER], None),
    ("lax", "lax_sorted", [LAX, STORE, [0, 0, 0], [1, 0, 1], ORDER[1:]], None),
    ("lax", "lax_way", [LAX, STORE, [0, 0, 0], [1, 0, 1]], 4),
    ("lax", "lax_store", [FIRM], 1),
    ("lax", "lax_store", [LAX], 16),
    ("orders", "orders_many", [STORE, [0, 0, 0], [1, 0, 1]], 4),
    ("orders", "orders_many", [STORE, [0, 0, 0], [1, 0, 1]], 2),
    ("orders", "least_order", [STORE, [0, 0, 0], [1, 0, 1]], 4),
    ("orders", "nth_order", [STORE, [0, 0, 0], [1, 0, 1], 0], 4),
    ("orders", "nth_order", [STORE, [0, 0, 0], [1, 0, 1], 1], 4),
    ("orders", "order_place", [STORE, [0, 0, 0], [1, 0, 1], [0, 2]], 4),
    ("orders", "sure_ahead", [STORE, [0, 0, 0], [1, 0, 1]], 4),
    ("orders", "order_paper", [STORE, [0, 0, 0], [1, 0, 1]], 4),
    ("orders", "order_holds", [STORE, [0, 0, 0], [1, 0, 1], ["order", [0, 2]]], None),
    ("orders", "order_holds", [STORE, [0, 0, 0], [1, 0, 1], ["stuck", [[], [0]]]], None),
    ("orders", "least_group", [STORE, [0, 0, 0], [1, 0, 1]], 4),
    ("orders", "pair_ahead", [STORE, [0, 0, 0], [1, 0, 1]], None),
    ("orders", "pair_order", [STORE, [0, 0, 0], [1, 0, 1]], None),
    ("hands", "check_changes", [STORE, [0, 0, 0], [[2, 1], [0, 1]]], None),
    ("hands", "check_changes", [STORE, [0, 0, 0], [[2, 0]]], None),
    ("hands", "change_layers", [STORE, [0, 0, 0], [[2, 1], [0, 1]]], None),
    ("hands", "change_layers", [PAIR, [0, 0], [[0, 1]]], None),
    ("hands", "clash_paper", [STORE, [0, 0, 0], [[[2, 1]], [[1, 1], [0, 1]]]], None),
    ("hands", "clash_paper", [STORE, [0, 0, 0], [[[0, 1]], [[0, 1]]]], None),
    ("hands", "go_together", [STORE, [1, 0, 0], [[[2, 1]], [[1, 1]]]], None),
    ("hands", "clash_holds", [STORE, [0, 0, 0], [[[2, 1]], [[1, 1], [0, 1]]], [[0], 1]], None),
    ("hands", "is_moment", [STORE, [1, 0, 0], [[[2, 1]], [[1, 1]]], [1, 1, 0]], None),
    ("hands", "is_moment", [PAIR, [0, 0], [[[0, 1]]], [1, 0]], None),
    ("hands", "Crew", [STORE, [1, 0, 1]], None),
    ("hands", "Crew", [STORE, [0, 0, 1]], None),
    ("detours", "fates_of", [LOCK], None),
    ("detours", "check_shown", [ALIKE, [0, 1, 1, 0]], None),
    ("detours", "check_shown", [ALIKE, [0, 1, 1]], None),
    ("detours", "is_let_step", [LOCK, [0, 0, 1, 1, 0, 0, 1, 1], [1, 0, 0], 1], None),
    ("detours", "is_let_step", [LOCK, [0, 0, 1, 1, 0, 0, 1, 1], [1, 0, 0], 0], None),
    ("detours", "detour_of", [LOCK], 300),
    ("detours", "detour_of", [LOCK], 3),
    ("detours", "detour_holds", [LOCK, WAY], None),
    ("detours", "stuck_lot", [ALIKE], 1),
    ("detours", "stuck_holds", [ALIKE, [[0, 0, 1, 1]]], None),
    ("detours", "detour_settings", [Store(LOCK, [0, 0, 1], [[0, [0, 1, 2]]]), [0, 1, 0], [1, 0, 0], WAY], None),
    ("detours", "detour_settings", [Store(LOCK, [0, 0, 1], [[0, [0, 1, 2]]]), [0, 1, 0], [1, 0, 0], WAY[1:]], None),
    ("wayless", "wayless_store", [ALIKE, 2], 1),
    ("wayless", "wayless_store", [LOCK, 2], 300),
    ("wayless", "wayless_store", [LOCK], 2),
    ("parking", "parked_way", [LOCK, [1]], 300),
    ("parking", "parked_way", [LOCK, [1, 0]], 300),
    ("parking", "parked_holds", [LOCK, [1], WAY], None),
    ("parking", "parked_lots", [LOCK], 300),
    ("parking", "parked_lots", [LOCK], 3),
    ("families", "sum_check", [[2, 3], [0, 1], 2, None], None),
    ("families", "sum_check", [[2, 3], [0, 2], 2, None], None),
    ("families", "order_check", [[2, 3], 0, 1], None),
    ("families", "order_check", [[2, 3], 0, 2], None),
    ("families", "unlike_check", [[2, 3], 1, 1], None),
    ("families", "unlike_check", [[2, 5], 1, 1], None),
    ("families", "reference_book", [3, [[1, 0], [2, 1]]], None),
    ("families", "reference_book", [3, [[1, 0], [2, 3]]], None),
    ("families", "longest_chain", [3, [[1, 0], [2, 1]]], None),
    ("families", "longest_chain", [2, [[1, 0], [0, 1]]], None),
    ("families", "longest_chain", [5, [[1, 0], [0, 1]]], None),
    ("keeper", "Keeper", [STORE, [1, 0, 1], 2], None),
    ("keeper", "Keeper", [STORE, [1, 0, 1], 9], None),
    ("claims", "claim_holds", [LOCK, ["parked", [[1], WAY]]], None),
    ("claims", "claim_holds", [BOOK, ["ranking", ORDER]], None),
    ("claims", "claim_holds", [ALIKE, ["knot", [[[0, 0, 1], 0, [0, 0], [1, 1], [0]]]]], None),
    ("claims", "claims_of", [LOCK], 300),
    ("claims", "claims_of", [ALIKE], 1),
    ("claims", "claims_of", [LOCK], 3),
    ("desk", "Desk", [Keeper(STORE, [1, 0, 1], 2)], None),
]


def shown(value):
    """A form of a result, an error, or an argument that tells all of it."""
    if isinstance(value, Book):
        return "book", strict(value.columns), strict(value.checks)
    if isinstance(value, Store):
        return "store", shown(value.book), strict(value.cells), strict(value.laid)
    if isinstance(value, LaxBook):
        return "lax", shown(value.book), strict(value.ways)
    if isinstance(value, Crew):
        return "crew", shown(value.store), strict(value.state)
    if isinstance(value, Keeper):
        names = ("state", "goal", "origin", "left", "taken", "done")
        return "keeper", shown(value.store), [strict(getattr(value, name)) for name in names]
    if isinstance(value, Desk):
        return "desk", shown(value.keeper)
    if isinstance(value, Exception):
        kept = [getattr(value, name) for name in ("at", "most", "kinds", "kind", "cell", "check") if hasattr(value, name)]
        return type(value).__name__, shown(frozen(kept))
    if isinstance(value, (list, tuple)):
        return type(value).__name__, tuple(shown(item) for item in value)
    return strict(value)


def has_list(value):
    """Whether a value is a list or has one within."""
    return isinstance(value, list) or isinstance(value, tuple) and any(has_list(item) for item in value)


def find(file, name):
    return getattr(importlib.import_module("makefirst." + file), name)


class Basics(unittest.TestCase):

    def each(self):
        for file, name, args, most in CALLS:
            call = find(file, name)
            named = {} if most is None else {"most": most}
            yield call, args, named

    def test_by_position_and_by_names(self):
        for call, args, named in self.each():
            want = shown(result_of(call, *args, **named))
            names = list(inspect.signature(call).parameters)
            by_names = dict(zip(names, args))
            self.assertEqual(shown(result_of(call, **by_names, **named)), want)
            self.assertEqual(shown(result_of(call, **dict(reversed(by_names.items())), **named)), want)
            self.assertEqual(shown(result_of(call, *args[:1], **dict(zip(names[1:], args[1:])), **named)), want)

    def test_lists_and_tuples(self):
        for call, args, named in self.each():
            want = shown(result_of(call, *args, **named))
            self.assertEqual(shown(result_of(call, *[frozen(arg) for arg in args], **named)), want)
            self.assertEqual(shown(result_of(call, *[thawed(arg) for arg in args], **named)), want)

    def test_results_are_tuples(self):
        for call, args, named in self.each():
            result = result_of(call, *args, **named)
            if not isinstance(result, Exception):
                self.assertFalse(has_list(result))

    def test_equal_calls_give_equal_results_whatever_was_called_between(self):
        first = [shown(result_of(call, *args, **named)) for call, args, named in self.each()]
        for call, args, named in list(self.each())[::-1]:
            result_of(call, *args, **named)
        self.assertEqual([shown(result_of(call, *args, **named)) for call, args, named in self.each()], first)

    def test_arguments_do_not_change(self):
        for call, args, named in self.each():
            before = shown(args)
            result_of(call, *args, **named)
            self.assertEqual(shown(args), before)

    def test_later_changes_of_arguments_have_no_effect(self):
        for call, args, named in self.each():
            own = [thawed(arg) for arg in args]
            result = result_of(call, *own, **named)
            if isinstance(result, Exception):
                continue
            before = shown(result)
            for arg in own:
                self.spoil(arg)
            self.assertEqual(shown(result), before)

    def spoil(self, value):
        if isinstance(value, list):
            for item in value:
                self.spoil(item)
            value.append(None)
            value[0] = None

    def with_any_values(self):
        """(name, call, arguments, named): all calls, with any value in the place of each argument that is no object."""
        for value in any_values():
            for file, name, args, most in CALLS:
                for at in range(len(args)):
                    if not isinstance(args[at], (Book, Store, LaxBook, Keeper)):
                        own = args[:at] + [value] + args[at + 1:]
                        yield name, find(file, name), own, {} if most is None else {"most": most}

    def test_a_call_that_raises_changes_nothing(self):
        for _, call, own, named in self.with_any_values():
            before = shown(own)
            result_of(call, *own, **named)
            self.assertEqual(shown(own), before)

    def test_each_error_is_raised_just_where_it_is_told_with_its_argument_kept(self):
        raised = set()
        told = [(name, find(file, name), args, {} if most is None else {"most": most}) for file, name, args, most in CALLS]
        for name, call, own, named in [*told, *self.with_any_values()]:
            got = result_of(call, *own, **named)
            if isinstance(got, Exception):
                raised.add(type(got))
                self.assertIn(type(got), TOLD.get(name, ()), (name, own))
                if isinstance(got, (Refused, NoKind, NoCell, NoCheck)):
                    kept = next(getattr(got, key) for key in ("at", "kind", "cell", "check") if hasattr(got, key))
                    self.assertTrue(any(kept is part for arg in own for part in (arg, *(arg if is_seq(arg) else ()))), (name, own))
                if isinstance(got, TooGreat):
                    self.assertEqual(strict(got.most), strict(named["most"]))
        self.assertEqual(raised, {BadBook, BadState, BadStore, BadText, Knotted, NoCell, NoCheck, NoKind, Refused, TooGreat})

    def test_no_bool_is_taken_for_an_integer(self):
        for call, args in (
            (find("books", "need_kind"), [BOOK, [0, False, True]]), (find("books", "need_check"), [BOOK, False]),
            (find("stores", "need_cell"), [STORE, True]), (find("stores", "check_state"), [STORE, [True, False, False]]),
            (Book, [[True]]), (Store, [BOOK, [False]]), (find("rankings", "check_order"), [Book([2]), [[0, 0, 1], [0, True, 0]]]),
            (find("straight", "first_fault"), [STORE, [0, 0, 0], [1, 0, 0], [False]]),
        ):
            self.assertIsInstance(result_of(call, *args), Exception)


class Interface(unittest.TestCase):

    def test_names_and_arguments(self):
        for file, names in INTERFACE.items():
            for name, signature in names.items():
                if signature is not None:
                    self.assertEqual(str(inspect.signature(find(file, name))), signature, name)

    def test_methods_stand_in_their_classes(self):
        for (file, name), methods in METHODS.items():
            own = vars(find(file, name))
            for method, signature in methods.items():
                self.assertEqual(str(inspect.signature(own[method])), signature, (name, method))

    def test_defined_in_their_files(self):
        for file, names in INTERFACE.items():
            tree = ast.parse((PACKAGE / (file + ".py")).read_text())
            own = {node.name for node in tree.body if isinstance(node, (ast.FunctionDef, ast.ClassDef))}
            self.assertLessEqual(set(names), own)

    def test_each_is_called_here(self):
        called = {(file, name) for file, name, _, _ in CALLS}
        for file, names in INTERFACE.items():
            if file != "errors":
                self.assertEqual({name for own, name in called if own == file}, set(names))

    def test_attributes_are_set(self):
        self.assertEqual((BOOK.columns, len(BOOK.checks)), ((2, 2), 1))
        self.assertEqual((STORE.book, STORE.cells, len(STORE.laid)), (BOOK, (1, 0, 0), 2))
        self.assertEqual(Book([2], [MOST]).checks, (MOST,))
        self.assertEqual((LAX.book, len(LAX.ways)), (BOOK, 1))
        crew = Crew(STORE, [1, 0, 1])
        self.assertEqual((crew.store, crew.state), (STORE, (1, 0, 1)))
        keeper = Keeper(STORE, [1, 0, 1], 2)
        self.assertEqual((keeper.store, keeper.state, keeper.goal, keeper.origin), (STORE, (1, 0, 1), None, (1, 0, 1)))
        self.assertEqual((keeper.left, keeper.taken, keeper.done), ((), ((), ()), 0))
        self.assertIs(Desk(keeper).keeper, keeper)


if __name__ == "__main__":
    unittest.main()
