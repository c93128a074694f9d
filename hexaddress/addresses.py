"""Great steps, centres and rests of places, and the addresses that they lead to."""

from hexaddress.errors import NoFigure
from hexaddress.places import MIDDLE, added, step, taken

FIGURES = (0, 1, 2, 3, 4, 5, 6)
# The figure of a place's rest, at the remainder of q - 2 * r by seven: that remainder is
# nought for every great step, and another one for each of the seven rests.
FIGURE_BY_REMAINDER = (0, 1, 5, 6, 3, 2, 4)


def great(place):
    return (2 * place[0] - place[1], place[0] + 3 * place[1])


def rest(place):
    return FIGURE_BY_REMAINDER[(place[0] - 2 * place[1]) % 7]


def place_of_rest(figure):
    if figure not in FIGURES:
        # The number stays out of the words: Python refuses to write out a very long one.
        raise NoFigure("a figure is a number 0 to 6")
    if figure == 0:
        return MIDDLE
    return step(figure)


def centre(place):
    great_step = taken(place, place_of_rest(rest(place)))
    # For the great step (x, y) of (q, r), 3 * x + y is 7 * q and 2 * y - x is 7 * r.
    return ((3 * great_step[0] + great_step[1]) // 7, (2 * great_step[1] - great_step[0]) // 7)


def address(place):
    figures = []
    now = place
    while now != MIDDLE:
        figures.append(rest(now))
        now = centre(now)
    # The rests come last figure first.
    figures.reverse()
    return figures


def place_of(figures):
    now = MIDDLE
    for figure in figures:
        now = added(great(now), place_of_rest(figure))
    return now
