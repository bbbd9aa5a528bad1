"""All examples of the document, and those of the README."""

import doctest
import pathlib
import unittest

README = pathlib.Path(__file__).parent.parent / "README.md"

OVERVIEW = r'''
    >>> from makefirst.books import Book
    >>> from makefirst.layers import knot_of, layers_of
    >>> most, least = ((0, 0), ((0, 0), (0, 1), (1, 0))), ((0, 0), ((0, 1), (1, 0), (1, 1)))
    >>> layers_of(Book([2], [most])), layers_of(Book([2], [least])), knot_of(Book([2], [most, least]))
    ((((0, 1, 0),), ((0, 0, 1),)), (((0, 0, 1),), ((0, 1, 0),)), ((0, 0, 1), (0, 1, 0)))
'''

BOOKS_AND_STORES = r'''
    >>> from makefirst.books import Book, kinds_of, unlike_by
    >>> from makefirst.stores import Store, batch_cells, batch_kind, broken, is_good, row_at
    >>> from makefirst.texts import book_text, read_state, store_text
    >>> rows = [(0, 0), (1, 0), (1, 1), (1, 1)]
    >>> parents = Book((2, 2), [((0, 1), rows)])
    >>> parents.checks, kinds_of(parents), unlike_by(parents, 0, (0, 0), [1, 1])
    ((((0, 1), ((0, 0), (1, 0), (1, 1))),), ((0, 0, 1), (0, 1, 0), (1, 0, 1), (1, 1, 0)), ((0, 0, 1), (1, 0, 1)))
    >>> store = Store(parents, (0, 1, 1), [(0, (0, 1)), (0, (0, 2))])
    >>> is_good(store, (1, 0, 1)), broken(store, (0, 0, 1)), row_at(store, (0, 0, 1), 1)
    (True, (1,), (0, 1))
    >>> batch_cells(store, (0, 0, 0), (1, 0, 1)), batch_kind(store, (0, 0, 0), (1, 0, 1), 2), batch_kind(store, (0, 0, 0), (1, 0, 1), 1)
    ((0, 2), (1, 0, 1), None)
    >>> book_text(parents).split("\n"), store_text(store).split("\n")[2:], read_state(store, "1 0 1")
    (['columns 2 2', 'check 0 1: 00 10 11'], ['cells 0 1 1', 'laid 0: 0 1', 'laid 0: 0 2'], (1, 0, 1))
'''

LAYERS_AND_RANKINGS = r'''
    >>> from makefirst.books import Book
    >>> from makefirst.layers import is_let, is_ranked, knot_of, knot_papers, layers_of, papers_hold
    >>> from makefirst.rankings import is_ranking, least_ranking, nth_ranking, openings_of, ranking_place, rankings_many
    >>> refers = Book([2, 2], [((0, 1), [(0, 0), (0, 1), (1, 1)])])
    >>> layers_of(refers), is_let(refers, [], (0, 0, 1)), is_let(refers, [(1, 0, 1)], (0, 0, 1))
    ((((0, 1, 0), (1, 0, 1)), ((0, 0, 1), (1, 1, 0))), False, True)
    >>> least_ranking(refers), rankings_many(refers, most=50), nth_ranking(refers, 5, most=50)
    (((0, 1, 0), (1, 0, 1), (0, 0, 1), (1, 1, 0)), 6, ((1, 0, 1), (0, 1, 0), (1, 1, 0), (0, 0, 1)))
    >>> len(openings_of(refers, most=50)), ranking_place(refers, [(1, 0, 1), (0, 0, 1), (0, 1, 0), (1, 1, 0)], most=50)
    (9, 3)
    >>> alike = Book([2], [((0, 0), [(0, 0), (1, 1)])])
    >>> knot_papers(alike), papers_hold(alike, [((0, 0, 1), 0, (0, 0), (1, 1), [1])]), is_ranked(alike, [])
    ((((0, 0, 1), 0, (0, 0), (1, 1), (0,)), ((0, 1, 0), 0, (1, 1), (0, 0), (0,))), True, True)
'''

STRAIGHT_WAYS = r'''
    >>> from makefirst.barring import barring_store, straight_way, way_holds
    >>> from makefirst.books import Book
    >>> from makefirst.stores import Store
    >>> from makefirst.straight import first_fault, is_straight, sorted_cells, told_cells
    >>> most, least = ((0, 0), ((0, 0), (0, 1), (1, 0))), ((0, 0), ((0, 1), (1, 0), (1, 1)))
    >>> one = Store(Book([2], [most]), (0, 0, 0), [(0, (0, 1)), (0, (1, 2)), (0, (0, 2))])
    >>> sorted_cells(one, (1, 0, 0), (0, 0, 1)), first_fault(one, (1, 0, 0), (0, 0, 1), [2, 0]), is_straight(one, (1, 0, 0), (0, 0, 1), [0, 2])
    ((0, 2), (0, 2), True)
    >>> store, old, new = barring_store(Book([2], [most, least]))
    >>> store.cells, old, new, len(store.laid), store.laid[0]
    ((0, 0, 0, 0, 0, 0), (0, 0, 0, 1, 1, 1), (1, 1, 1, 0, 0, 0), 18, (0, (0, 3)))
    >>> straight_way(store, old, new, most=99), way_holds(store, old, new, [(0, 3), (1, 4), (2, 5)], 2)
    (None, False)
    >>> told_cells(store, old, (0, 0, 0, 1, 1, 1)), straight_way(one, (1, 0, 0), (0, 0, 1), 2, most=99) is None
    ((), False)
'''

ROUNDS = r'''
    >>> from makefirst.books import Book
    >>> from makefirst.families import reference_book, sum_check
    >>> from makefirst.plans import fewest_rounds, plan_holds, round_plan
    >>> from makefirst.slow import slow_papers, slow_store
    >>> from makefirst.stores import Store
    >>> shop = reference_book(3, [(1, 0), (2, 1)])
    >>> store = Store(shop, (0, 1, 2), [(0, (1, 0)), (1, (2, 1))])
    >>> round_plan(store, (0, 0, 0), (1, 1, 1)), round_plan(store, (1, 1, 0), (0, 0, 0)), fewest_rounds(store, (0, 0, 0), (1, 1, 1), most=8)
    (((0,), (1,), (2,)), ((1,), (0,)), 3)
    >>> plan_holds(store, (0, 0, 0), (1, 1, 1), [[0], [1], [2]]), plan_holds(store, (0, 0, 0), (1, 1, 1), [[1, 0], [2]])
    (True, False)
    >>> pair = Book((2,), [sum_check((2,), (0, 0), None, 1)])
    >>> slow_papers(pair)
    (((0, 0, 1), 0, (0, 1), (1, 0), (0,)),)
    >>> slow, old, new = slow_store(pair)
    >>> slow.cells, slow.laid, old, new, fewest_rounds(slow, old, new, most=16)
    ((0, 0, 0, 0), ((0, (0, 2)), (0, (0, 3)), (0, (1, 2)), (0, (1, 3))), (0, 0, 1, 1), (1, 1, 0, 0), 2)
'''

HULLS_AND_DEFERRING = r'''
    >>> from makefirst.books import Book
    >>> from makefirst.deferring import barred_kinds, deferred_lots
    >>> from makefirst.hulls import fewest_added, hull_book, hull_rows, suits, suits_paper
    >>> most, least = ((0, 0), ((0, 0), (0, 1), (1, 0))), ((0, 0), ((0, 1), (1, 0), (1, 1)))
    >>> both = Book([2], [most, least])
    >>> make, breaks = ((0, 0, 1), (0, 1, 0)), ((0, 1, 0), (0, 0, 1))
    >>> suits(both, 0, breaks), suits_paper(both, 0, make), suits(both, 1, make)
    (True, ((0, 1), (1, 0), (0, 0, 1), (0,)), True)
    >>> hull_rows(both, (0, 0, 0), [(0, 0, 1), (1, 0, 0)], make), hull_book(both, make).checks[0][1]
    (((0, 0, 1), (1, 0, 0), (1, 0, 1)), ((0, 0), (0, 1), (1, 0), (1, 1)))
    >>> fewest_added(both, most=9), deferred_lots(both), barred_kinds(both, most=9)
    ((1, ((0, 0, 1), (0, 1, 0))), ((0,), (1,)), ((0, 0, 1),))
'''

LAX = r'''
    >>> from makefirst.books import Book
    >>> from makefirst.lax import LaxBook, is_passable, lax_holds, lax_let, lax_ranking, lax_sorted, lax_store, lax_way
    >>> from makefirst.stores import Store
    >>> book = Book((2, 2), [((0, 1), [(0, 0), (1, 1)])])
    >>> lax = LaxBook(book, [[(0, 0), (1, 0), (1, 1)]])
    >>> lax_ranking(lax, most=99), lax_ranking(LaxBook(book, [[(0, 0), (1, 1)]]), most=99)
    (((0, 0, 1), (1, 0, 1), (1, 1, 0), (0, 1, 0)), None)
    >>> lax_let(lax, [], (0, 0, 1)), lax_let(lax, [], (0, 1, 0)), lax_let(lax, [(1, 1, 0)], (0, 1, 0)), lax_holds(lax, [])
    (True, False, True, False)
    >>> store = Store(book, (0, 1, 1), [(0, (0, 1)), (0, (0, 2))])
    >>> lax_sorted(lax, store, (0, 0, 0), (1, 1, 1), lax_ranking(lax, most=99)), is_passable(lax, store, (1, 0, 1))
    ((0, 1, 2), True)
    >>> lax_way(lax, store, (1, 1, 1), (0, 0, 0), most=99) in ((1, 2, 0), (2, 1, 0)), lax_way(LaxBook(book, [book.checks[0][1]]), store, (0,) * 3, (1,) * 3, most=9)
    (True, None)
    >>> some, old, new = lax_store(LaxBook(book, [[(0, 0), (1, 1)]]), most=99)
    >>> len(some.cells), len(some.laid)
    (8, 8)
'''

ORDERS = r'''
    >>> from makefirst.books import Book
    >>> from makefirst.orders import least_group, least_order, nth_order, order_holds, order_paper, order_place, orders_many, pair_ahead
    >>> from makefirst.orders import pair_order, sure_ahead
    >>> from makefirst.stores import Store
    >>> parents = Book((2, 2), [((0, 1), [(0, 0), (1, 0), (1, 1)])])
    >>> store = Store(parents, (1, 0, 1), [(0, (1, 0)), (0, (1, 2))])
    >>> old, new = (0, 0, 0), (1, 1, 1)
    >>> orders_many(store, old, new, most=9), least_order(store, old, new, most=9), nth_order(store, old, new, 1, most=9)
    (2, (1, 0, 2), (1, 2, 0))
    >>> sure_ahead(store, old, new, most=9), pair_ahead(store, old, new), order_place(store, old, new, [1, 2, 0], most=9)
    (((1, 0), (1, 2)), ((1, 0), (1, 2)), 1)
    >>> alike = Store(Book((2,), [((0, 0), [(0, 0), (1, 1)])]), (0, 0, 0), [(0, (0, 1)), (0, (1, 2))])
    >>> order_paper(alike, old, new, most=9), pair_order(alike, old, new)[0], least_group(alike, old, new, most=9)
    (('stuck', ((),)), 'ring', (3, ((0, 1, 2),)))
    >>> order_holds(alike, old, new, ("stuck", [()])), order_holds(store, old, new, ("order", [0, 1, 2]))
    (True, False)
'''

HANDS = r'''
    >>> from makefirst.books import Book
    >>> from makefirst.hands import Crew, change_layers, clash_paper, go_together, is_moment
    >>> from makefirst.layers import is_ranked
    >>> from makefirst.stores import Store
    >>> book = Book([2], [((0, 0), [(0, 0), (0, 1), (1, 0)]), ((0, 0), [(0, 1), (1, 0), (1, 1)])])
    >>> store = Store(book, [0] * 5, [(0, (0, 1)), (0, (2, 3)), (1, (0, 4))])
    >>> state = (1, 0, 1, 0, 0)
    >>> is_ranked(book), change_layers(store, state, [(2, 0)]), is_moment(store, state, [[(2, 0)], [(4, 1)]], [1, 0, 0, 0, 0])
    (False, ((2,),), True)
    >>> go_together(store, state, [[(2, 0)], [(4, 1)]]), clash_paper(store, state, [[(4, 1)], [(0, 0)]])
    (True, ((1,), 2))
    >>> crew = Crew(store, state)
    >>> crew.begin([(4, 1)]), crew.clash_of([(0, 0)]), crew.move(0, 4), crew.clash_of([(0, 0)]), crew.begin([(0, 0)]), crew.next_cells(1)
    (0, (), 1, None, 1, (0,))
'''

DETOURS = r'''
    >>> from makefirst.books import Book
    >>> from makefirst.detours import detour_holds, detour_of, detour_settings, fates_of, is_let_step, stuck_holds, stuck_lot
    >>> from makefirst.parking import parked_holds, parked_lots
    >>> from makefirst.stores import Store
    >>> from makefirst.wayless import wayless_store
    >>> other = Book([2], [((0, 0), ((0, 1), (1, 0)))])
    >>> fates_of(other), is_let_step(other, (0, 0, 1, 1), (0, 0, 1), 1), stuck_lot(other, most=9), stuck_holds(other, [])
    (((0, 0, 0), (0, 0, 1), (0, 1, 0), (0, 1, 1)), False, ((0, 0, 1, 1),), False)
    >>> store, old, new = wayless_store(other, most=9)
    >>> len(store.cells), len(store.laid), old == (0,) * 8 + (1,) * 8
    (16, 64, True)
    >>> lock = Book([2, 2], [((0, 0, 1), ((0, 0, 1), (0, 1, 0), (0, 1, 1), (1, 0, 0), (1, 0, 1), (1, 1, 1)))])
    >>> way = detour_of(lock, most=300)
    >>> way == (((1, 0, 0), 1), ((1, 0, 1), 1), ((0, 0, 1), 1), ((0, 1, 0), 0), ((1, 0, 0), 0), ((1, 1, 0), 0))
    True
    >>> detour_settings(Store(lock, (0, 0, 1), [(0, (0, 1, 2))]), (0, 1, 0), (1, 0, 0), way)
    ((2, 1), (0, 1), (1, 0), (2, 0))
    >>> parked_lots(lock, most=300), parked_holds(lock, [1], way), parked_holds(lock, [0], way), detour_holds(lock, way[1:])
    (((1,),), True, False, False)
'''

FAMILIES = r'''
    >>> from makefirst.books import Book
    >>> from makefirst.families import longest_chain, order_check, reference_book, sum_check, unlike_check
    >>> from makefirst.layers import is_ranked, knot_of, layers_of
    >>> sum_check((2, 3), (0, 1), 2, None), order_check((2, 2), 0, 1), unlike_check((2,), 0, 0)
    (((0, 1), ((0, 2), (1, 1), (1, 2))), ((0, 1), ((0, 0), (0, 1), (1, 1))), ((0, 0), ((0, 1), (1, 0))))
    >>> layers_of(Book((2,), [sum_check((2,), (0, 0), None, 1)])), knot_of(Book((2,), [sum_check((2,), (0, 0), 1, 1)]))
    ((((0, 1, 0),), ((0, 0, 1),)), ((0, 0, 1), (0, 1, 0)))
    >>> longest_chain(3, [(1, 0), (2, 1), (2, 0)]), longest_chain(2, [(0, 0)]), layers_of(reference_book(2, [(1, 0)]))
    (3, None, (((0, 0, 1), (1, 1, 0)), ((0, 1, 0), (1, 0, 1))))
    >>> is_ranked(Book((3, 2), [unlike_check((3, 2), 0, 1)])), is_ranked(Book((3, 1), [unlike_check((3, 1), 0, 1)]))
    (False, True)
'''

KEEPERS = r'''
    >>> from makefirst.books import Book
    >>> from makefirst.keeper import Keeper
    >>> from makefirst.stores import Store
    >>> most = ((0, 0), ((0, 0), (0, 1), (1, 0)))
    >>> store = Store(Book([2], [most]), [0, 0, 0], [(0, (0, 1)), (0, (0, 2)), (0, (1, 2))])
    >>> keeper = Keeper(store, (1, 0, 0), 2)
    >>> keeper.aim((0, 0, 1)), keeper.left, keeper.open_cells()
    (None, ((0,), (2,)), (0,))
    >>> keeper.take(1, 0), keeper.open_cells(), keeper.put(1, 0), keeper.state, keeper.open_cells()
    (None, (), 0, (0, 0, 0), (2,))
    >>> keeper.turn_back(), keeper.left, keeper.take(0, 0), keeper.put(0, 0), keeper.goal, keeper.state, keeper.done
    (None, ((0,),), None, 1, None, (1, 0, 0), 2)
    >>> keeper.aim((0, 1, 0)), keeper.renew(Store(Book([2]), [0, 0, 0])), keeper.left
    (None, None, ((0, 1),))
'''

CLAIMS_AND_DESKS = r'''
    >>> from makefirst.books import Book
    >>> from makefirst.claims import claim_holds, claims_of
    >>> from makefirst.desk import Desk
    >>> from makefirst.keeper import Keeper
    >>> from makefirst.stores import Store
    >>> most = ((0, 0), ((0, 0), (0, 1), (1, 0)))
    >>> store = Store(Book([2], [most]), [0, 0, 0], [(0, (0, 1)), (0, (0, 2)), (0, (1, 2))])
    >>> claims_of(Book([2], [most]), most=500)[0], [word for word, paper in claims_of(Book([2], [((0, 0), [(0, 0), (1, 1)])]), most=500)]
    (('ranking', ((0, 1, 0), (0, 0, 1))), ['knot', 'stuck'])
    >>> claim_holds(Book([2], [most]), ["ranking", [[0, 1, 0], (0, 0, 1)]]), claim_holds(Book([2], [most]), ("knot", ()))
    (True, False)
    >>> desk = Desk(Keeper(store, (1, 0, 0), 2))
    >>> [desk.say(line) for line in ("aim 0 0 1", "open", "take 0 2", "take 0 0", "put 0 0", "back", "state", "goal", "aim 1 1 0", "drop 5", "lift")]
    ['left 2', 'open 0', 'no', 'taken', 'value 0', 'left 1', 'state 0 0 0', 'goal 1 0 0', 'no', 'no', '?']
'''


class Examples(unittest.TestCase):

    def run_all(self, text):
        test = doctest.DocTestParser().get_doctest(text, {}, self.id(), None, 0)
        told = []
        result = doctest.DocTestRunner(verbose=False).run(test, out=told.append)
        self.assertEqual(result.failed, 0, "".join(told))
        self.assertGreater(result.attempted, 3)

    def test_overview(self):
        self.run_all(OVERVIEW)

    def test_books_and_stores(self):
        self.run_all(BOOKS_AND_STORES)

    def test_layers_and_rankings(self):
        self.run_all(LAYERS_AND_RANKINGS)

    def test_straight_ways(self):
        self.run_all(STRAIGHT_WAYS)

    def test_rounds(self):
        self.run_all(ROUNDS)

    def test_hulls_and_deferring(self):
        self.run_all(HULLS_AND_DEFERRING)

    def test_lax(self):
        self.run_all(LAX)

    def test_orders(self):
        self.run_all(ORDERS)

    def test_hands(self):
        self.run_all(HANDS)

    def test_detours(self):
        self.run_all(DETOURS)

    def test_families(self):
        self.run_all(FAMILIES)

    def test_keepers(self):
        self.run_all(KEEPERS)

    def test_claims_and_desks(self):
        self.run_all(CLAIMS_AND_DESKS)

    def test_readme(self):
        self.run_all(README.read_text(encoding="utf-8"))


if __name__ == "__main__":
    unittest.main()
