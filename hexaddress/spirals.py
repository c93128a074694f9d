"""Rings round the middle of the floor, and the spiral that goes through them."""

from hexaddress.errors import NoCell
from hexaddress.places import MIDDLE, added, distance, step, turned

SIDES = (3, 4, 5, 6, 1, 2)


def ring(n):
    if n == 0:
        return [MIDDLE]
    places = []
    now = (n, 0)
    # Each side is told from its corner on and leaves out the next corner, which
    # begins the next side; so the last side comes out one step shorter.
    for direction in SIDES:
        for along in range(n):
            places.append(now)
            now = added(now, step(direction))
    return places


# How many places the spiral has ahead of ring n, for n from 1: the middle, and
# 6 * k for each ring k below n.
def ahead_of_ring(n):
    return 1 + 3 * n * (n - 1)


def spiral_number(place):
    n = distance(place, MIDDLE)
    if n == 0:
        return 0
    # The sides are turns of the first one, which goes from (n, 0) to (1, n - 1).
    side = 0
    on_first = place
    while on_first[0] <= 0 or on_first[1] < 0:
        on_first = turned(on_first, -1)
        side += 1
    return ahead_of_ring(n) + side * n + on_first[1]


# The ring that the number lies on, for a number from 1. Halving, as a walk from
# ring to ring would not end for numbers of ninety figures.
def ring_of_number(number):
    beyond = 2
    while ahead_of_ring(beyond) <= number:
        beyond = beyond * 2
    within = beyond // 2
    while beyond - within > 1:
        between = (within + beyond) // 2
        if ahead_of_ring(between) <= number:
            within = between
        else:
            beyond = between
    return within


def spiral_place(number):
    if number < 0:
        # The number stays out of the words: Python refuses to write out a very long one.
        raise NoCell("the numbers of the spiral go from 0 on")
    if number == 0:
        return MIDDLE
    n = ring_of_number(number)
    on_ring = number - ahead_of_ring(n)
    along = on_ring % n
    return turned((n - along, along), on_ring // n)
