"""One store and one batch: its straight orders, all of them, or what shows that there is none.

Lots of cells are sums of bits here, as makefirst.courses has them.
"""

from makefirst.courses import Course, cells_by_bits, cells_in, group_steps, groups_to_whole, has_fault, lot_from
from makefirst.errors import Refused
from makefirst.plain import are_ascending, is_below, is_sequence
from makefirst.searches import bits_in, count_ways, nth_way, search_lots, way_place
from makefirst.stores import check_batch
from makefirst.straight import is_straight_order


def course_of(store, old, new):
    """The course of the batch; BadState and Refused for each state that is no good one."""
    start, goal = check_batch(store, old, new)
    return Course(store.book, store, start, goal)


def count_orders(course, most):
    """By open lot in how many ways it can be gone on with to a straight order; TooGreat if there are more lots."""
    steps = group_steps(course, 1)
    return count_ways(search_lots(steps, most), steps, course.whole)


def order_at(course, ways, number):
    """The straight order of a number below how many there are, all being ascending."""
    return cells_by_bits(course, nth_way(ways, group_steps(course, 1), course.whole, number))


def orders_many(store, old, new, *, most):
    """How many straight orders there are."""
    return count_orders(course_of(store, old, new), most)[0]


def least_order(store, old, new, *, most):
    """The least straight order; None if there is none."""
    course = course_of(store, old, new)
    ways = count_orders(course, most)
    return order_at(course, ways, 0) if ways[0] else None


def nth_order(store, old, new, number, *, most):
    """The straight order of a number, all being ascending; Refused for any value that is no such number."""
    course = course_of(store, old, new)
    ways = count_orders(course, most)
    if not is_below(number, ways[0]):
        raise Refused(number)
    return order_at(course, ways, number)


def order_place(store, old, new, value, *, most):
    """The number of a straight order, all being ascending; None for any value that is none."""
    start, goal = check_batch(store, old, new)
    course = Course(store.book, store, start, goal)
    ways = count_orders(course, most)
    if not is_straight_order(store, start, goal, value):
        return None
    return way_place(ways, group_steps(course, 1), [course.bits[cell] for cell in value])


def sure_ahead(store, old, new, *, most):
    """The ascending pairs of cells of which the one is ahead of the other in all straight orders; None if none are."""
    course = course_of(store, old, new)
    ways = count_orders(course, most)
    if not ways[0]:
        return None
    # What is in all lots that have a cell, and lie on a straight order, is set ahead of this cell.
    shared = {bit: course.whole for bit in course.bits.values()}
    for lot, many in ways.items():
        for bit in bits_in(lot if many else 0):
            shared[bit] = shared[bit] & lot
    pairs = [(one, other) for other, bit in course.bits.items() for one in cells_in(course, shared[bit] - bit)]
    return tuple(sorted(pairs))


def order_paper(store, old, new, *, most):
    """("order", the least straight order), or ("stuck", all open lots) if there is none."""
    course = course_of(store, old, new)
    ways = count_orders(course, most)
    if ways[0]:
        return "order", order_at(course, ways, 0)
    return "stuck", tuple(sorted([cells_in(course, lot) for lot in ways]))


def order_holds(store, old, new, value):
    """Whether any value is a paper that shows a straight order, or that there is none."""
    start, goal = check_batch(store, old, new)
    if not is_sequence(value) or len(value) != 2:
        return False
    word, paper = value
    if word == "order":
        return is_straight_order(store, start, goal, paper)
    course = Course(store.book, store, start, goal)
    return word == "stuck" and are_lots(course, len(start), paper) and are_closed(course, paper)


def are_lots(course, many, value):
    """Whether any value is a sequence of ascending lots of cells of the batch, the store having so many cells."""
    if not is_sequence(value):
        return False
    for lot in value:
        if not are_ascending(lot, many) or [cell for cell in lot if cell not in course.bits]:
            return False
    return True


def are_closed(course, lots):
    """Whether lots have the empty one, not the whole batch, and each good one that one cell more leads to from them."""
    told = {lot_from(course, lot): True for lot in lots}
    if 0 not in told or course.whole in told:
        return False
    bad = {}
    for lot in told:
        for bit in course.bits.values():
            longer = lot | bit
            if longer not in told and longer not in bad:
                if not has_fault(course.faults, longer):
                    return False
                bad[longer] = True
    return True


def least_group(store, old, new, *, most):
    """(size, groups): the least size of groups that do the batch, and some fewest groups of this size."""
    course = course_of(store, old, new)
    for size in range(1, len(course.cells) + 1):
        groups = groups_to_whole(course, search_lots(group_steps(course, size), most))
        if groups is not None:
            return size, groups
    return 0, ()


def sure_pairs(store, old, new):
    """(course, pairs): those that pair_ahead tells; Refused if a laid check looks at three cells of the batch."""
    course = course_of(store, old, new)
    for _, looked_at in store.laid:
        if len({cell for cell in looked_at if cell in course.bits}) > 2:
            raise Refused(store)
    # So each fault is of two cells, and its part is the one that is not to be changed alone.
    return course, sorted([cells_by_bits(course, (mask - part, part)) for mask, part in course.faults])


def pair_ahead(store, old, new):
    """The ascending pairs of cells of which some laid check wants the one to be changed ahead of the other."""
    _, pairs = sure_pairs(store, old, new)
    return tuple(pairs)


def pair_order(store, old, new):
    """("order", the least straight order), or some ("ring", cells) if there is none."""
    course, pairs = sure_pairs(store, old, new)
    left = {cell: True for cell in course.cells}
    order = []
    while left:
        ahead = {other: one for one, other in pairs if one in left}
        ready = [cell for cell in left if cell not in ahead]
        if not ready:
            return "ring", ring_of(ahead, list(left)[0])
        order.append(ready[0])
        del left[ready[0]]
    return "order", tuple(order)


def ring_of(ahead, cell):
    """Cells of which each is ahead of the next one, and the last of the first; each has a cell ahead of it."""
    path = [cell]
    while ahead[path[-1]] not in path:
        path.append(ahead[path[-1]])
    ring = path[path.index(ahead[path[-1]]):]
    return tuple(ring[::-1])
