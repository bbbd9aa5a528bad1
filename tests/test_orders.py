"""Promises [34] to [37]: the straight orders of one batch, and what shows that there is none."""

import itertools
import random
import unittest

from makefirst.books import Book
from makefirst.errors import Refused, TooGreat
from makefirst.orders import least_group, least_order, nth_order, order_holds, order_paper, order_place, orders_many, pair_ahead
from makefirst.orders import pair_order, sure_ahead
from makefirst.stores import Store
from support import ALIKE, LEAST, MOST, REFERS, any_values, bad_ends, batch_lot, bent, frozen, good_stores, is_int, is_seq, lots
from support import plain_broken, plain_fault, plain_reached, result_of, some_pairs, strict, thawed, with_set

PARENTS = Book((2, 2), [((0, 1), [(0, 0), (1, 0), (1, 1)])])
STORE = Store(PARENTS, (1, 0, 1), [(0, (1, 0)), (0, (1, 2))])
STUCK = Store(Book((2,), [ALIKE]), (0, 0, 0), [(0, (0, 1)), (0, (1, 2))])
OLD, NEW = (0, 0, 0), (1, 1, 1)
RING = Store(Book([2], [((0, 0), ((0, 0), (1, 0), (1, 1)))]), [0] * 3, [(0, (0, 1)), (0, (1, 2)), (0, (2, 0))])

SEARCHES = (
    (orders_many, ()), (least_order, ()), (nth_order, (0,)), (order_place, ((1, 0, 2),)), (sure_ahead, ()), (order_paper, ()),
    (least_group, ()),
)


def batches(many, seed, sizes=(3, 4), **named):
    """Some (store, old, new), the same for each seed."""
    choice = random.Random(seed)
    for store, good in good_stores(many, seed, sizes=sizes, **named):
        for old, new in some_pairs(good, 5, choice):
            yield store, old, new


def tight_batches(many, seed, sizes=(4, 5), wide=(2, 3)):
    """Some (store, old, new) in which all cells go from 0 to 1 but one, and few rows are let; the same for each seed."""
    choice = random.Random(seed)
    for _ in range(many):
        checks = []
        for places in (choice.choice(wide), choice.choice(wide)):
            table = list(itertools.product((0, 1), repeat=places))
            checks.append(((0,) * places, [row for row in table if len(set(row)) == 1 or choice.random() < 0.7]))
        cells = choice.choice(sizes)
        laid = []
        for _ in range(choice.randint(1, 5)):
            check = choice.randrange(2)
            laid.append((check, [choice.randrange(1, cells) for _ in checks[check][0]]))
        yield Store(Book([2], checks), [0] * cells, laid), (0,) * cells, (0,) + (1,) * (cells - 1)


def plain_orders(store, old, new):
    """All straight orders, ascending."""
    return [order for order in itertools.permutations(batch_lot(old, new)) if plain_fault(store, old, new, order) is None]


def plain_open(store, old, new, size=1):
    """All open lots, ascending."""
    return tuple(sorted(plain_reached(old, new, size, lambda state: not plain_broken(store, state))))


def plain_order_holds(store, old, new, value):
    if not is_seq(value) or len(value) != 2 or type(value[0]) is not str or value[0] not in ("order", "stuck"):
        return False
    word, paper = value
    if not is_seq(paper):
        return False
    cells = batch_lot(old, new)
    if word == "order":
        return all(is_int(cell) for cell in paper) and sorted(paper) == list(cells) and plain_fault(store, old, new, paper) is None
    for lot in paper:
        if not is_seq(lot) or not all(is_int(cell) and cell in cells for cell in lot) or list(lot) != sorted(set(lot)):
            return False
    told = {tuple(lot) for lot in paper}
    if () not in told or cells in told:
        return False
    for lot in told:
        for cell in cells:
            longer = tuple(sorted({*lot, cell}))
            if longer not in told and not plain_broken(store, with_set(old, new, longer)):
                return False
    return True


class Orders(unittest.TestCase):

    def test_ordinary(self):
        self.assertEqual(strict(orders_many(STORE, OLD, NEW, most=9)), strict(2))
        self.assertEqual(strict(least_order(STORE, list(OLD), list(NEW), most=9)), strict((1, 0, 2)))
        self.assertEqual(strict(nth_order(STORE, OLD, NEW, 1, most=9)), strict((1, 2, 0)))
        self.assertEqual(strict(order_place(STORE, OLD, NEW, [1, 2, 0], most=9)), strict(1))
        self.assertEqual(strict(sure_ahead(STORE, OLD, NEW, most=9)), strict(((1, 0), (1, 2))))

    def test_none(self):
        self.assertEqual(strict(orders_many(STUCK, OLD, NEW, most=9)), strict(0))
        self.assertIsNone(least_order(STUCK, OLD, NEW, most=9))
        self.assertIsNone(sure_ahead(STUCK, OLD, NEW, most=9))
        self.assertIsNone(order_place(STUCK, OLD, NEW, (0, 1, 2), most=9))
        got = result_of(nth_order, STUCK, OLD, NEW, 0, most=9)
        self.assertIs(type(got), Refused)
        self.assertEqual(got.at, 0)

    def test_against_all_orders(self):
        some = none = 0
        for store, old, new in [*batches(80, 341, sizes=(3, 4, 5)), *tight_batches(300, 341)]:
            orders = plain_orders(store, old, new)
            some += len(orders) > 1
            none += not orders
            many = len(plain_open(store, old, new))
            for most in (many, many + 1, 20000):
                self.assertEqual(strict(orders_many(store, old, new, most=most)), strict(len(orders)))
                self.assertEqual(strict(least_order(store, old, new, most=most)), strict(orders[0] if orders else None))
            for number, order in list(enumerate(orders))[::5]:
                self.assertEqual(strict(nth_order(store, old, new, number, most=many)), strict(order))
                self.assertEqual(strict(order_place(store, old, new, thawed(order), most=many)), strict(number))
            for order in list(itertools.permutations(batch_lot(old, new)))[::7]:
                wanted = orders.index(order) if order in orders else None
                self.assertEqual(strict(order_place(store, old, new, order, most=many)), strict(wanted))
            ahead = tuple(
                pair for pair in itertools.permutations(batch_lot(old, new), 2)
                if all(order.index(pair[0]) < order.index(pair[1]) for order in orders)
            )
            self.assertEqual(strict(sure_ahead(store, old, new, most=many)), strict(ahead if orders else None))
        self.assertGreater(min(some, none), 50)

    def test_one_too_many(self):
        tried = 0
        for store, old, new in batches(60, 342):
            many = len(plain_open(store, old, new))
            for call, args in SEARCHES[:6]:
                if many > 1 and (call != order_place or plain_orders(store, old, new)):
                    own = (plain_orders(store, old, new)[0],) if call == order_place else args
                    got = result_of(call, store, old, new, *own, most=many - 1)
                    tried += 1
                    self.assertIs(type(got), TooGreat)
                    self.assertEqual(strict(got.most), strict(many - 1))
        self.assertGreater(tried, 100)

    def test_numbers_that_are_none(self):
        for value in [*any_values(), 2, 3, -1, True, False, "0", (0,), None]:
            got = result_of(nth_order, STORE, OLD, NEW, value, most=9)
            if is_int(value) and value in (0, 1):
                self.assertEqual(got, ((1, 0, 2), (1, 2, 0))[value])
            else:
                self.assertIs(type(got), Refused)
                self.assertIs(got.at, value)
            got = result_of(nth_order, STORE, OLD, NEW, value, most=1)
            self.assertIs(type(got), TooGreat)

    def test_values_that_are_no_straight_order(self):
        for value in [*any_values(), *bent([1, 0, 2]), *bent((1, 2, 0)), (0, 1, 2), (1, 0), (1, 0, 2, 2), (True, 0, 2), [1, [0], 2]]:
            got = order_place(STORE, OLD, NEW, value, most=9)
            wanted = None
            if is_seq(value) and all(is_int(cell) for cell in value) and tuple(value) in ((1, 0, 2), (1, 2, 0)):
                wanted = ((1, 0, 2), (1, 2, 0)).index(tuple(value))
            self.assertEqual(strict(got), strict(wanted))

    def test_batches_without_cells(self):
        for store in (STORE, STUCK):
            self.assertEqual(strict(orders_many(store, NEW, NEW, most=1)), strict(1))
            self.assertEqual(strict(least_order(store, NEW, NEW, most=1)), strict(()))
            self.assertEqual(strict(nth_order(store, NEW, NEW, 0, most=1)), strict(()))
            self.assertIs(type(result_of(nth_order, store, NEW, NEW, 1, most=1)), Refused)
            self.assertEqual(strict(order_place(store, NEW, NEW, [], most=1)), strict(0))
            self.assertIsNone(order_place(store, NEW, NEW, [0], most=1))
            self.assertEqual(strict(sure_ahead(store, NEW, NEW, most=1)), strict(()))
            self.assertEqual(strict(order_paper(store, NEW, NEW, most=1)), strict(("order", ())))
            self.assertEqual(strict(pair_ahead(store, NEW, NEW)), strict(()))
            self.assertEqual(strict(pair_order(store, NEW, NEW)), strict(("order", ())))

    def test_errors_of_the_states_come_first(self):
        calls = [lambda old, new, call=call, args=args: call(STORE, old, new, *args, most=1) for call, args in SEARCHES]
        calls += [lambda old, new, value=value: nth_order(STORE, old, new, value, most=9) for value in (None, 7)]
        calls += [lambda old, new: order_holds(STORE, old, new, None), lambda old, new: order_place(STORE, old, new, None, most=9)]
        self.ends_first(calls, STORE, (0, 0, 1))
        rows = [row for row in itertools.product((0, 1), repeat=3) if row != (1, 1, 0)]
        three = Store(Book([2, 2], [((1, 0, 1), rows)]), (1, 0, 1), [(0, (0, 1, 2))])
        calls = [lambda old, new, call=call: call(three, old, new) for call in (pair_ahead, pair_order)]
        self.ends_first(calls, three, (1, 1, 0))

    def ends_first(self, calls, store, bad):
        """Holds that calls of an old and a new state raise what is told of these first."""
        for call in calls:
            for old, new, error, at in bad_ends(store, OLD, bad):
                got = result_of(call, old, new)
                self.assertIs(type(got), error)
                self.assertEqual(strict(got.at), strict(at if error is not Refused else list(bad)))

    def test_most_only_by_name(self):
        for call, args in SEARCHES:
            with self.assertRaises(TypeError):
                call(STORE, OLD, NEW, *args, 9)
            with self.assertRaises(TypeError):
                call(STORE, OLD, NEW, *args)

    def test_limits(self):
        rows = list(itertools.product((0, 1), repeat=3))
        book = Book([2], [((0, 0, 0), [row for row in rows if row not in ((1, 0, 1), (0, 1, 0))]), ((0, 0), ((0, 0), (1, 0), (1, 1)))])
        old, new = (0,) * 12, (1,) * 12
        choice = random.Random(343)
        laid = [(0, sorted(choice.sample(range(12), 3))) for _ in range(90)] + [(1, (at % 11, at % 11 + 1)) for at in range(10)]
        store = Store(book, [0] * 12, laid)
        many = orders_many(store, old, new, most=4096)
        for number in {0, many // 2, many - 1}:
            order = nth_order(store, old, new, number, most=4096)
            self.assertIsNone(plain_fault(store, old, new, order))
            self.assertEqual(order_place(store, old, new, order, most=4096), number)
        self.assertTrue(sure_ahead(store, old, new, most=4096))
        free = Store(book, [0] * 12)
        self.assertEqual(orders_many(free, old, new, most=4096), 479001600)
        self.assertEqual(nth_order(free, old, new, 479001599, most=4096), tuple(range(12))[::-1])
        self.assertEqual(sure_ahead(free, old, new, most=4096), ())
        self.assertIs(type(result_of(orders_many, free, old, new, most=4095)), TooGreat)
        pairs = Store(book, [0] * 12, [(1, (at % 6, 6 + at % 5)) for at in range(100)])
        self.assertEqual(sure_ahead(pairs, old, new, most=4096), tuple(sorted({(at % 6, 6 + at % 5) for at in range(30)})))


class Papers(unittest.TestCase):

    def test_ordinary(self):
        self.assertEqual(strict(order_paper(STUCK, OLD, NEW, most=9)), strict(("stuck", ((),))))
        self.assertEqual(strict(order_paper(STORE, OLD, NEW, most=9)), strict(("order", (1, 0, 2))))
        self.assertIs(order_holds(STUCK, OLD, NEW, ("stuck", [()])), True)
        self.assertIs(order_holds(STORE, OLD, NEW, ("order", [0, 1, 2])), False)
        self.assertIs(order_holds(STORE, OLD, NEW, ["order", (1, 2, 0)]), True)
        self.assertIs(order_holds(STORE, OLD, NEW, ["stuck", [()]]), False)

    def test_papers_told(self):
        words = {"order": 0, "stuck": 0}
        for store, old, new in [*batches(80, 351), *tight_batches(200, 351)]:
            orders, opened = plain_orders(store, old, new), plain_open(store, old, new)
            wanted = ("order", orders[0]) if orders else ("stuck", opened)
            words[wanted[0]] += 1
            for most in (len(opened), 20000):
                self.assertEqual(strict(order_paper(store, old, new, most=most)), strict(wanted))
            self.assertIs(order_holds(store, old, new, thawed(wanted)), True)
            self.assertIs(order_holds(store, old, new, ("stuck", opened)), not orders)
        self.assertGreater(min(words.values()), 50)

    def test_all_lots_of_lots(self):
        held = 0
        for store, old, new in [*batches(20, 352, sizes=(3,)), *tight_batches(80, 352, sizes=(4,))]:
            for paper in lots(lots(batch_lot(old, new))):
                wanted = plain_order_holds(store, old, new, ("stuck", paper))
                held += wanted
                self.assertIs(order_holds(store, old, new, ("stuck", paper)), wanted)
        self.assertGreater(held, 50)

    def test_lots_in_any_order_and_twice(self):
        opened = plain_open(RING, OLD, NEW)
        self.assertEqual(opened, ((),))
        for paper in ([(), ()], [(0,), ()], [(), (0,), (2,), (1,), (0,)], ((1,), (), [0])):
            self.assertIs(order_holds(RING, OLD, NEW, ("stuck", paper)), True)
        for paper in (
            [(1, 0), ()], [(), (0, 0)], [(), (3,)], [(), (-1,)], [(), (True,)], [(), 0], [[0]], [], (), [(), (0, 1, 2)], None, "()", [None],
        ):
            self.assertIs(order_holds(RING, OLD, NEW, ("stuck", paper)), False)
        idle = Store(RING.book, [0] * 4, RING.laid)
        self.assertIs(order_holds(idle, (0, 0, 0, 1), (1, 1, 1, 1), ("stuck", [(), (0,)])), True)
        self.assertIs(order_holds(idle, (0, 0, 0, 1), (1, 1, 1, 1), ("stuck", [(), (3,)])), False)

    def test_any_values(self):
        for store in (STORE, STUCK, RING):
            papers = [("order", (1, 0, 2)), ["order", [1, 2, 0]], ("stuck", ((),)), ["stuck", [[], [0], (0, 1)]]]
            values = [*any_values(), *[other for paper in papers for other in bent(paper)]]
            values += [("orders", (1, 0, 2)), ("order",), ("order", (1, 0, 2), ()), ("stuck", ((),), ())]
            values += [(True, ((),)), (("stuck",), ((),))]
            for value in values:
                self.assertIs(order_holds(store, OLD, NEW, value), plain_order_holds(store, OLD, NEW, value))

    def test_there_exactly_if_there_is_no_straight_order(self):
        for store, old, new in batches(60, 353):
            paper = order_paper(store, old, new, most=999)
            self.assertIs(paper[0] == "stuck", not plain_orders(store, old, new))
            self.assertIs(order_holds(store, old, new, paper), True)

    def test_no_cells(self):
        self.assertIs(order_holds(STUCK, OLD, OLD, ("stuck", [()])), False)
        self.assertIs(order_holds(STUCK, OLD, OLD, ("stuck", [])), False)
        self.assertIs(order_holds(STUCK, OLD, OLD, ("order", [])), True)

    def test_4096_lots(self):
        rows = [row for row in itertools.product((0, 1), repeat=3) if row not in ((1, 1, 0), (1, 0, 1))]
        book = Book([2], [((0, 0, 0), rows), ALIKE])
        store = Store(book, [0] * 13, [(1, (11, 12))] + [(0, (at % 9, at % 9 + 1, at % 9 + 2)) for at in range(99)])
        opened = plain_open(store, (0,) * 13, (1,) * 13)
        self.assertIs(order_holds(store, (0,) * 13, (1,) * 13, ("stuck", opened)), True)
        self.assertIs(order_holds(store, (0,) * 13, (1,) * 13, ("stuck", opened[:-1])), False)
        free = Store(book, [0] * 12, [(1, (11, at % 11)) for at in range(100)])
        lower = lots(range(11))[:-1]
        self.assertIs(order_holds(free, (0,) * 12, (1,) * 12, ("stuck", lower * 2 + [(11,)])), True)
        self.assertEqual(order_paper(free, (0,) * 12, (1,) * 12, most=1), ("stuck", ((),)))
        self.assertIs(order_holds(free, (0,) * 12, (1,) * 12, ("stuck", lots(range(12))[:-1])), False)
        self.assertIs(order_holds(free, (0,) * 12, (1,) * 12, ("stuck", lots(range(12)))), False)


class Groups(unittest.TestCase):

    def test_ordinary(self):
        self.assertEqual(strict(least_group(STUCK, OLD, NEW, most=9)), strict((3, ((0, 1, 2),))))
        self.assertEqual(strict(least_group(STUCK, OLD, OLD, most=1)), strict((0, ())))
        size, groups = least_group(STORE, OLD, NEW, most=9)
        self.assertEqual((size, len(groups), groups[0]), (1, 3, (1,)))

    def test_against_all_groups(self):
        told = set()
        for store, old, new in [*batches(50, 361, sizes=(3, 4, 5)), *tight_batches(250, 361)]:
            cells = batch_lot(old, new)
            size = 0
            while cells and (size == 0 or cells not in plain_open(store, old, new, size)):
                size += 1
            fewest = self.fewest(store, old, new, size)
            told.add((size, fewest))
            many = len(plain_open(store, old, new, size)) if size else 1
            for most in (many, many + 1, 20000):
                got = least_group(store, old, new, most=most)
                self.assertEqual(strict(got), strict((got[0], tuple(tuple(group) for group in got[1]))))
                self.assertEqual((got[0], len(got[1])), (size, fewest))
                self.assertEqual(sorted(cell for group in got[1] for cell in group), list(cells))
                done = []
                for group in got[1]:
                    self.assertEqual((list(group), 1 <= len(group) <= size), (sorted(group), True))
                    done += group
                    self.assertFalse(plain_broken(store, with_set(old, new, done)))
            if many > 1:
                got = result_of(least_group, store, old, new, most=many - 1)
                self.assertTrue(type(got) is TooGreat and got.most == many - 1 or got[0] == size)
        self.assertLessEqual({(0, 0), (1, 1), (1, 2), (1, 3), (1, 4), (2, 2), (2, 3), (3, 1), (3, 2), (4, 1)}, told)

    def fewest(self, store, old, new, size):
        """How many groups of at most this size do the batch, if these are fewest."""
        reached, many = {()}, 0
        opened = plain_open(store, old, new, max(size, 1))
        while batch_lot(old, new) not in reached:
            many += 1
            reached |= {lot for lot in opened for ahead in list(reached) if set(ahead) < set(lot) and len(lot) - len(ahead) <= size}
        return many

    def test_batches_of_8_cells(self):
        rows = list(itertools.product((0, 1), repeat=3))
        book = Book([2], [ALIKE, ((0, 0, 0), [row for row in rows if sum(row) in (0, 3)])])
        store = Store(book, [0] * 8, [(0, (at, at + 1)) for at in range(7)])
        self.assertEqual(least_group(store, (0,) * 8, (1,) * 8, most=2), (8, (tuple(range(8)),)))
        self.assertIs(type(result_of(least_group, store, (0,) * 8, (1,) * 8, most=1)), TooGreat)
        store = Store(book, [0] * 8, [(1, (0, 1, 2)), (1, (3, 4, 5)), (0, (6, 7))] * 33)
        size, groups = least_group(store, (0,) * 8, (1,) * 8, most=256)
        self.assertEqual((size, sorted(groups)), (3, [(0, 1, 2), (3, 4, 5), (6, 7)]))
        self.assertEqual(len(least_group(Store(book, [0] * 8), (0,) * 8, (1,) * 8, most=256)[1]), 8)


class Pairs(unittest.TestCase):

    def test_ordinary(self):
        self.assertEqual(strict(pair_ahead(STORE, list(OLD), list(NEW))), strict(((1, 0), (1, 2))))
        self.assertEqual(strict(pair_order(STORE, OLD, NEW)), strict(("order", (1, 0, 2))))
        self.assertEqual(strict(pair_ahead(STUCK, OLD, NEW)), strict(((0, 1), (1, 0), (1, 2), (2, 1))))
        self.assertEqual(pair_order(STUCK, OLD, NEW)[0], "ring")
        self.assertEqual(pair_ahead(RING, OLD, NEW), ((0, 1), (1, 2), (2, 0)))
        word, ring = pair_order(RING, OLD, NEW)
        self.assertIn((word, ring), [("ring", (0, 1, 2)), ("ring", (1, 2, 0)), ("ring", (2, 0, 1))])

    def test_refused_exactly_if_a_laid_check_looks_at_three_cells(self):
        rows = list(itertools.product((0, 1), repeat=3))
        book = Book([2], [((0, 0, 0), rows)])
        for laid, wanted in (((0, 1, 2), True), ((0, 1, 3), False), ((0, 1, 1), False), ((0, 0, 0), False), ((3, 4, 0), False)):
            store = Store(book, [0] * 5, [(0, (0, 1, 1)), (0, laid)])
            for call in (pair_ahead, pair_order):
                got = result_of(call, store, (0, 0, 0, 1, 0), (1, 1, 1, 1, 0))
                self.assertIs(type(got) is Refused, wanted)
                if wanted:
                    self.assertIs(got.at, store)

    def test_by_brute_force(self):
        words = {"order": 0, "ring": 0}
        refused = 0
        for store, old, new in [*batches(80, 371, sizes=(3, 4, 5)), *tight_batches(200, 371), *tight_batches(200, 371, wide=(2,))]:
            cells = batch_lot(old, new)
            if any(len(set(looked_at) & set(cells)) > 2 for _, looked_at in store.laid):
                refused += 1
                for call in (pair_ahead, pair_order):
                    got = result_of(call, store, old, new)
                    self.assertIs(type(got), Refused)
                    self.assertIs(got.at, store)
                continue
            pairs = []
            for one, other in itertools.permutations(cells, 2):
                for number, (_, looked_at) in enumerate(store.laid):
                    if set(looked_at) & set(cells) == {one, other} and number in plain_broken(store, with_set(old, new, (other,))):
                        pairs.append((one, other))
            pairs = sorted(set(pairs))
            self.assertEqual(strict(pair_ahead(store, old, new)), strict(tuple(pairs)))
            orders = plain_orders(store, old, new)
            for order in itertools.permutations(cells):
                self.assertIs(order in orders, all(order.index(one) < order.index(other) for one, other in pairs))
            got = pair_order(store, old, new)
            words[got[0]] += 1
            if orders:
                self.assertEqual(strict(got), strict(("order", orders[0])))
            else:
                self.ring(got, pairs)
        self.assertGreater(min(refused, *words.values()), 30)

    def ring(self, got, pairs):
        """Holds that a paper tells a ring of these pairs."""
        word, ring = got
        self.assertEqual((type(got), len(got), word, type(ring)), (tuple, 2, "ring", tuple))
        self.assertGreater(len(ring), 1)
        self.assertEqual(len(set(ring)), len(ring))
        for one, other in zip(ring, ring[1:] + ring[:1]):
            self.assertIn((one, other), pairs)

    def test_rings_behind_a_tail(self):
        refers = Book([2], [((0, 0), ((0, 0), (1, 0), (1, 1)))])
        store = Store(refers, [0] * 6, [(0, pair) for pair in ((5, 0), (0, 1), (1, 2), (2, 3), (3, 1), (3, 4))])
        self.ring(pair_order(store, (0,) * 6, (1,) * 6), pair_ahead(store, (0,) * 6, (1,) * 6))
        self.assertEqual(sorted(pair_order(store, (0,) * 6, (1,) * 6)[1]), [1, 2, 3])

    def test_limits(self):
        refers = Book([2], [((0, 0), ((0, 0), (1, 0), (1, 1))), MOST, LEAST, ((0, 0, 0), [(0, 0, 0), (1, 1, 1)])])
        old, new = (0,) * 200, (1,) * 200
        chain = Store(refers, [0] * 200, [(0, (at + 1, at)) for at in range(199)])
        self.assertEqual(pair_order(chain, old, new), ("order", tuple(range(200))[::-1]))
        self.assertEqual(len(pair_ahead(chain, old, new)), 199)
        round_it = Store(refers, [0] * 200, [(0, (at, (at + 1) % 200)) for at in range(200)])
        self.ring(pair_order(round_it, old, new), pair_ahead(round_it, old, new))
        many = Store(refers, [0] * 200, [(0, (100 + at // 40, at % 100)) for at in range(4000)])
        pairs = pair_ahead(many, old, new)
        self.assertEqual(len(pairs), 4000)
        order = []
        while len(order) < 200:
            barred = {other for one, other in pairs if one not in order}
            order.append(min(cell for cell in range(200) if cell not in order and cell not in barred))
        self.assertEqual(pair_order(many, old, new), ("order", tuple(order)))


class Same(unittest.TestCase):

    def test_papers_and_pairs_agree(self):
        for store, old, new in batches(60, 372, most_places=2):
            got = result_of(pair_order, store, old, new)
            paper = order_paper(store, old, new, most=9999)
            if got[0] == "order":
                self.assertEqual(got, paper)
            else:
                self.assertEqual(paper[0], "stuck")
                self.assertEqual(frozen(paper), paper)

    def test_refers(self):
        store = Store(Book([2, 2], [REFERS]), (0, 1, 0), [(0, (0, 1)), (0, (2, 1))])
        self.assertEqual(orders_many(store, (1, 1, 1), (0, 0, 0), most=9), 2)
        self.assertEqual(least_order(store, (0, 0, 0), (1, 1, 1), most=9), (1, 0, 2))


if __name__ == "__main__":
    unittest.main()
