"""Searches by steps, most of them among lots, and the ways that lead through these by one thing more at a time.

A lot is a sum of bits here, one for each of its things. Steps are a function that tells, of a lot, the longer ones to
which it leads; where a step adds one bit, they ascend.
"""

from makefirst.errors import TooGreat


def bits_in(lot):
    """The bits of a lot, ascending."""
    found = []
    left = lot
    while left:
        bit = left & -left
        found.append(bit)
        left -= bit
    return found


def search_from(start, steps, most):
    """By place to which steps lead from the start, by fewest first, a place ahead of it; TooGreat if there are more.

    If of two ways by fewest steps to a place the one takes the earlier step where they part, it is that one.
    """
    ahead = {start: start}
    waiting = [start]
    while waiting:
        further = []
        for place in waiting:
            for behind in steps(place):
                if behind not in ahead:
                    ahead[behind] = place
                    further.append(behind)
            if len(ahead) > most:
                raise TooGreat(most)
        waiting = further
    return ahead


def search_lots(steps, most):
    """By lot to which steps lead from the empty one, by fewest first, a lot ahead of it; TooGreat if there are more."""
    return search_from(0, steps, most)


def way_to(ahead, goal):
    """The places on the way to a place that the search found, from the start on."""
    way = [goal]
    while ahead[way[-1]] != way[-1]:
        way.append(ahead[way[-1]])
    return way[::-1]


def steps_to(ahead, goal):
    """What each step adds on the way to a lot that the search found."""
    found = []
    lot = goal
    while lot:
        found.append(lot - ahead[lot])
        lot = ahead[lot]
    return found[::-1]


def count_ways(ahead, steps, goal):
    """By lot that the search found in how many ways it can be gone on with to the goal, each step a bit."""
    ways = {}
    # Longer lots were found later, so they are counted ahead of those that lead to them.
    for lot in reversed(list(ahead)):
        ways[lot] = 1 if lot == goal else sum([ways[longer] for longer in steps(lot)])
    return ways


def nth_way(ways, steps, goal, number):
    """The bits, one by one, of the way to the goal of a number below all ways, these ascending."""
    found = []
    lot = 0
    left = number
    while lot != goal:
        for longer in steps(lot):
            if left < ways[longer]:
                break
            left -= ways[longer]
        found.append(longer - lot)
        lot = longer
    return found


def way_place(ways, steps, bits):
    """The number of the way that goes by these bits, all being ascending."""
    place = lot = 0
    for bit in bits:
        place += sum([ways[longer] for longer in steps(lot) if longer < lot + bit])
        lot += bit
    return place
