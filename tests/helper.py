"""What several test files need: the words of the document, told apart from the program."""

import functools
import itertools
import signal
import unittest

from hexaddress.errors import Apart, FloorError, NoCell, NoFigure, NoLevel

REFUSALS = (NoCell, NoFigure, NoLevel, Apart)
GREATEST = 10 ** 40 - 1
LONG = 1234567890123456789012345678901234567890
STEPS = {1: (1, 0), 2: (0, 1), 3: (-1, 1), 4: (-1, 0), 5: (0, -1), 6: (1, -1)}
RESTS = {0: (0, 0), **STEPS}
FIGURES = range(7)
# A number of 5000 figures is one that Python itself would not write out.
NO_FIGURES = (-1, 7, -2, 8, -6, -7, 10, 70, LONG, -LONG, 10 ** 5000, -10 ** 5000)


def plus(one, other):
    return (one[0] + other[0], one[1] + other[1])


def minus(one, other):
    return (one[0] - other[0], one[1] - other[1])


def times(one, other):
    (a, b), (c, d) = one, other
    return (a * c - b * d, a * d + b * c + b * d)


def turned_once(place):
    return (-place[1], place[0] + place[1])


def turned_so(place, sixths):
    # Five sixths so are one sixth the other way.
    for turn in range(sixths if sixths >= 0 else -5 * sixths):
        place = turned_once(place)
    return place


def great_step(place):
    q, r = place
    return (2 * q - r, q + 3 * r)


def centres_of(place):
    """Each pair of a centre and a figure that makes the place; the document says there is just one."""
    pairs = []
    for figure in FIGURES:
        x, y = minus(place, RESTS[figure])
        # 3 * x + y would be 7 * q, and 2 * y - x be 7 * r, if this were the great step of (q, r).
        centre = ((3 * x + y) // 7, (2 * y - x) // 7)
        if great_step(centre) == (x, y):
            pairs.append((centre, figure))
    return pairs


def place_by_words(figures):
    place = (0, 0)
    for figure in figures:
        place = plus(great_step(place), RESTS[figure])
    return place


def address_by_words(place):
    figures = []
    while place != (0, 0):
        [(place, figure)] = centres_of(place)
        figures.insert(0, figure)
    return figures


@functools.cache
def floor_by_lines(level):
    """The places of the floor of the level, each at its line, in ascending order."""
    return {line: place_by_words(line) for line in itertools.product(FIGURES, repeat=level)}


def lines_by_words(level, beginnings):
    """The lines that begin with one of the beginnings, in ascending order."""
    heads = {tuple(beginning) for beginning in beginnings}
    return [
        line for line in floor_by_lines(level)
        if any(line[:length] in heads for length in range(level + 1))
    ]


def cells_by_words(level, beginnings):
    return [floor_by_lines(level)[line] for line in lines_by_words(level, beginnings)]


def without_noughts_ahead(figures):
    return list(itertools.dropwhile(lambda figure: figure == 0, figures))


class Mixed:
    """Numbers without rule, the same ones in every run."""

    def __init__(self, seed):
        self.now = seed

    def below(self, bound):
        number = 0
        reach = 1
        while reach < bound * 1000:
            self.now = (self.now * 6364136223846793005 + 1442695040888963407) % 2 ** 64
            number = number * 2 ** 24 + (self.now >> 40)
            reach = reach * 2 ** 24
        return number % bound

    def place(self, greatest):
        return (self.below(2 * greatest + 1) - greatest, self.below(2 * greatest + 1) - greatest)

    def figures(self, length):
        return [self.below(7) for place in range(length)]

    def beginnings(self, level, many):
        return [self.figures(self.below(level + 1)) for beginning in range(many)]


def small_places(reach):
    return [(q, r) for q in range(-reach, reach + 1) for r in range(-reach, reach + 1)]


def long_places():
    numbers = (0, 1, -1, LONG, -LONG, GREATEST, -GREATEST, 10 ** 39, -(10 ** 39))
    mixed = Mixed(40)
    return [(q, r) for q in numbers for r in numbers] + [mixed.place(GREATEST) for place in range(60)]


def refuse_to_wait(number, frame):
    raise AssertionError("not answered soon")


class FloorCase(unittest.TestCase):
    def setUp(self):
        before = signal.signal(signal.SIGALRM, refuse_to_wait)
        self.addCleanup(signal.signal, signal.SIGALRM, before)
        self.addCleanup(signal.alarm, 0)
        signal.alarm(60)

    def assert_kind_of_place(self, answer):
        self.assertIs(type(answer), tuple)
        self.assertEqual([type(number) for number in answer], [int, int])

    def assert_place(self, answer, place):
        self.assertEqual(answer, place)
        self.assert_kind_of_place(answer)

    def assert_figures(self, answer, figures):
        self.assertIs(type(answer), list)
        self.assertEqual({type(figure) for figure in answer} - {int}, set())
        self.assertEqual(answer, figures)

    def assert_refused(self, refusal, call, *handed_in):
        with self.assertRaises(refusal) as caught:
            call(*handed_in)
        self.assertIsInstance(caught.exception, FloorError)
        self.assertIsInstance(caught.exception, ValueError)
        for other in REFUSALS:
            self.assertEqual(isinstance(caught.exception, other), other is refusal)
