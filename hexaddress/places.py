"""Places of the floor: sums, turns, steps, neighbours and distances."""

from hexaddress.errors import NoCell

MIDDLE = (0, 0)
FIRST_STEP = (1, 0)
DIRECTIONS = (1, 2, 3, 4, 5, 6)


def added(one, other):
    return (one[0] + other[0], one[1] + other[1])


def taken(one, other):
    return (one[0] - other[0], one[1] - other[1])


def turned(place, sixths):
    now = (place[0], place[1])
    # Six sixths bring a place back, so only what is left over six is turned.
    for turn in range(sixths % 6):
        now = (-now[1], now[0] + now[1])
    return now


def step(direction):
    if direction not in DIRECTIONS:
        # The number stays out of the words: Python refuses to write out a very long one.
        raise NoCell("a direction is a number 1 to 6")
    return turned(FIRST_STEP, direction - 1)


def neighbours(place):
    return [added(place, step(direction)) for direction in DIRECTIONS]


def distance(one, other):
    between = taken(one, other)
    return max(abs(between[0]), abs(between[1]), abs(between[0] + between[1]))
