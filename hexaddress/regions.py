"""Regions of the floor of a level, told by the beginnings of their places' lines."""

from hexaddress.addresses import FIGURES, address, place_of
from hexaddress.errors import NoCell, NoFigure, NoLevel

LEVELS = (0, 1, 2, 3, 4)


class Region:
    def __init__(self, level, beginnings):
        refuse_no_level(level)
        refuse_no_figures(beginnings)
        refuse_too_long(level, beginnings)
        self.level = level
        self.lines = lines_of_all(level, beginnings)

    def told(self):
        return [list(beginning) for beginning in fewest(self.level, self.lines)]

    def holds(self, place):
        return line_of(self.level, place) in self.lines

    def many(self):
        return len(self.lines)

    def cells(self):
        return [place_of(line) for line in sorted(self.lines)]


def refuse_no_level(level):
    if level not in LEVELS:
        # The number stays out of the words: Python refuses to write out a very long one.
        raise NoLevel("a level is a number 0 to 4")


def refuse_no_figures(beginnings):
    for beginning in beginnings:
        for figure in beginning:
            if figure not in FIGURES:
                raise NoFigure("a beginning holds figures 0 to 6 alone")


def refuse_too_long(level, beginnings):
    for beginning in beginnings:
        if len(beginning) > level:
            raise NoCell("a beginning has no more figures than the level")


# A place beyond the floor of the level comes out with a line longer than the level,
# which no region has.
def line_of(level, place):
    figures = address(place)
    return tuple([0] * (level - len(figures)) + figures)


def one_figure_longer(beginnings):
    longer = []
    for beginning in beginnings:
        for figure in FIGURES:
            longer.append(beginning + (figure,))
    return longer


def lines_of(level, beginning):
    lines = [beginning]
    for missing in range(level - len(beginning)):
        lines = one_figure_longer(lines)
    return lines


# The lines as a dict of True. Beginnings that stand there more than once are
# written out but once, as a short one has many lines.
def lines_of_all(level, beginnings):
    unlike = {}
    for beginning in beginnings:
        unlike[tuple(beginning)] = True
    lines = {}
    for beginning in unlike:
        for line in lines_of(level, beginning):
            lines[line] = True
    return lines


# The head of a beginning is all of it but its last figure.
def by_heads(beginnings):
    heads = {}
    for beginning in beginnings:
        heads.setdefault(beginning[:-1], []).append(beginning)
    return heads


# Two beginnings hold a place in common only where one begins the other, so nothing
# is fewer than putting the head in the place of its seven, from the lines upwards.
def fewest(level, lines):
    final = []
    whole = list(lines)
    for shortened in range(level):
        heads = by_heads(whole)
        whole = [head for head in heads if len(heads[head]) == len(FIGURES)]
        for head in heads:
            if len(heads[head]) < len(FIGURES):
                final.extend(heads[head])
    return sorted(final + whole)


def refuse_unlike_levels(one, other):
    if one.level != other.level:
        raise NoLevel("the two regions are of unlike levels")


def joined(one, other):
    refuse_unlike_levels(one, other)
    return Region(one.level, one.told() + other.told())


def met(one, other):
    refuse_unlike_levels(one, other)
    return Region(one.level, [list(line) for line in one.lines if line in other.lines])


def without(one, other):
    refuse_unlike_levels(one, other)
    return Region(one.level, [list(line) for line in one.lines if line not in other.lines])
