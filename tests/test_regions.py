import itertools
import unittest

from helper import (
    FIGURES, GREATEST, LONG, NO_FIGURES, FloorCase, Mixed, cells_by_words, floor_by_lines, lines_by_words,
    long_places, place_by_words, small_places,
)
from hexaddress.errors import NoCell, NoFigure, NoLevel
from hexaddress.regions import Region, joined, met, without

LEVELS = range(5)
NO_LEVELS = (-1, 5, 6, -4, -5, 100, LONG, -LONG, 10 ** 5000, -10 ** 5000)
WHOLE = [[]]


def told_by_words(level, lines, head=()):
    """A beginning of which all lines are there is one; of another one, what its seven longer ones tell."""
    within = [line for line in lines if line[:len(head)] == head]
    if not within:
        return []
    if len(within) == 7 ** (level - len(head)):
        return [list(head)]
    return [told for figure in FIGURES for told in told_by_words(level, within, head + (figure,))]


def some_beginnings(level):
    """Lists of beginnings, ordinary ones and the edges."""
    mixed = Mixed(100 + level)
    lists = [[], WHOLE, [[], []]]
    lists += [mixed.beginnings(level, many) for many in (1, 2, 3, 5, 8, 13, 40)]
    lists += [[mixed.figures(level) for line in range(many)] for many in (1, 7, 60)]
    if level > 0:
        heads = [mixed.figures(level - 1) for head in range(2)]
        lists.append([head + [figure] for head in heads for figure in reversed(FIGURES)])
        lists.append([heads[0] + [figure] for figure in range(6)])
        lists.append([[figure] for figure in range(1, 7)])
        lists.append([[0] * level])
        lists.append([[0], [0] * level, [6] * level, [6]])
    return lists


def regions_of(level):
    return [Region(level, beginnings) for beginnings in some_beginnings(level)]


class RegionCase(FloorCase):
    def assert_told(self, region, beginnings):
        told = region.told()
        self.assertIs(type(told), list)
        self.assertEqual({type(beginning) for beginning in told} - {list}, set())
        self.assertEqual(told, beginnings)

    def assert_places(self, region, level, places):
        """That the region has just these places of the floor of the level, however it is asked."""
        self.assertIs(type(region), Region)
        self.assertEqual(region.level, level)
        self.assertIs(type(region.level), int)
        floor = floor_by_lines(level)
        lines = [line for line in floor if floor[line] in places]
        self.assertEqual(len(lines), len(places))
        self.assert_told(region, told_by_words(level, lines))
        self.assertEqual(region.many(), len(places))
        self.assertEqual(region.cells(), [floor[line] for line in lines])
        for place in floor.values():
            self.assertIs(region.holds(place), place in places)


class Told(RegionCase):
    def test_written_out(self):
        self.assert_told(Region(0, []), [])
        self.assert_told(Region(0, [[]]), [[]])
        self.assert_told(Region(1, [[3]]), [[3]])
        self.assert_told(Region(2, [[3], [1, 2], [0, 0]]), [[0, 0], [1, 2], [3]])
        self.assert_told(Region(2, [[3, 5], [3], [3, 0], [3]]), [[3]])
        self.assert_told(Region(4, [[0], [0, 0, 0, 1]]), [[0]])
        self.assert_told(Region(4, [[1], []]), [[]])
        self.assert_told(Region(4, []), [])

    def test_noughts_ahead_stay(self):
        self.assert_told(Region(3, [[0, 1]]), [[0, 1]])
        self.assert_told(Region(3, [[1]]), [[1]])
        self.assert_told(Region(3, [[0, 0, 1]]), [[0, 0, 1]])
        self.assertEqual(Region(3, [[0, 1]]).many(), 7)
        self.assertEqual(Region(3, [[1]]).many(), 49)
        self.assertEqual(Region(3, [[0, 0, 1]]).cells(), [(1, 0)])

    def test_seven_with_one_head_become_one(self):
        self.assert_told(Region(1, [[figure] for figure in (3, 1, 6, 0, 2, 5, 4)]), [[]])
        self.assert_told(Region(3, [[2, figure] for figure in (3, 1, 6, 0, 2, 5, 4)]), [[2]])
        self.assert_told(Region(3, [[2, figure] for figure in range(6)]), [[2, figure] for figure in range(6)])
        self.assert_told(Region(4, [[0, 0, figure] for figure in FIGURES]), [[0, 0]])

    def test_in_several_steps(self):
        for level in LEVELS:
            lines = [list(line) for line in floor_by_lines(level)]
            self.assert_told(Region(level, lines), [[]])
            self.assert_told(Region(level, lines[::-1] + lines), [[]])
            if level > 0:
                self.assert_told(Region(level, lines[1:]), told_by_words(level, list(floor_by_lines(level))[1:]))
                self.assertEqual(len(Region(level, lines[1:]).told()), 6 * level)
        mixed_lengths = [[figure] for figure in range(6)] + [[6, figure] for figure in range(6)]
        mixed_lengths += [[6, 6, figure] for figure in FIGURES]
        self.assert_told(Region(4, mixed_lengths), [[]])
        self.assert_told(Region(4, mixed_lengths[1:]), [[figure] for figure in range(1, 7)])

    def test_ascending_order(self):
        region = Region(4, [[6], [5, 6, 6, 6], [5, 6, 5], [1, 0], [0, 6], [1, 0, 0, 0], [0, 0, 0, 6], [0, 1]])
        self.assert_told(region, [[0, 0, 0, 6], [0, 1], [0, 6], [1, 0], [5, 6, 5], [5, 6, 6, 6], [6]])

    def test_by_the_words(self):
        for level in LEVELS:
            for beginnings in some_beginnings(level):
                lines = lines_by_words(level, beginnings)
                self.assert_told(Region(level, beginnings), told_by_words(level, lines))

    def test_as_few_as_can_be(self):
        every = [[]] + [[figure] for figure in FIGURES]
        for chosen in itertools.product((False, True), repeat=8):
            region = Region(1, [beginning for beginning, there in zip(every, chosen) if there])
            fewest = next(
                many for many in range(9)
                if any(Region(1, list(some)).cells() == region.cells() for some in itertools.combinations(every, many))
            )
            self.assertEqual(len(region.told()), fewest)

    def test_the_same_for_the_same_places(self):
        for level in LEVELS:
            for beginnings in some_beginnings(level):
                told = Region(level, beginnings).told()
                lines = [list(line) for line in lines_by_words(level, beginnings)]
                for others in (
                    beginnings[::-1], beginnings + beginnings, told, told[::-1], lines, lines[::-1],
                    lines[::2] + told + lines[1::2], beginnings + lines,
                ):
                    self.assert_told(Region(level, others), told)

    def test_the_level(self):
        for level in LEVELS:
            self.assertEqual(Region(level, []).level, level)
            self.assertEqual(Region(level, WHOLE).level, level)


class Places(RegionCase):
    def test_written_out(self):
        self.assertEqual(Region(0, []).cells(), [])
        self.assertEqual(Region(0, WHOLE).cells(), [(0, 0)])
        self.assertEqual(Region(1, WHOLE).cells(), [(0, 0), (1, 0), (0, 1), (-1, 1), (-1, 0), (0, -1), (1, -1)])
        self.assertEqual(Region(1, [[4], [2]]).cells(), [(0, 1), (-1, 0)])
        self.assertEqual(Region(2, [[1, 0], [0, 1], [1, 5]]).cells(), [(1, 0), (2, 1), (2, 0)])

    def test_by_the_words(self):
        for level in LEVELS:
            for beginnings in some_beginnings(level):
                cells = cells_by_words(level, beginnings)
                region = Region(level, beginnings)
                self.assertIs(type(region.cells()), list)
                self.assertEqual(region.cells(), cells)
                for cell in region.cells():
                    self.assert_kind_of_place(cell)
                self.assertEqual(region.many(), len(cells))
                self.assertIs(type(region.many()), int)

    def test_how_many_the_floors_have(self):
        self.assertEqual([Region(level, WHOLE).many() for level in LEVELS], [1, 7, 49, 343, 2401])
        self.assertEqual([Region(level, []).many() for level in LEVELS], [0, 0, 0, 0, 0])
        self.assertEqual(Region(4, [[1], [1, 2], [0, 1], [0, 1]]).many(), 343 + 49)

    def test_holds_places_of_the_floor(self):
        for level in LEVELS:
            for beginnings in some_beginnings(level):
                cells = set(cells_by_words(level, beginnings))
                region = Region(level, beginnings)
                for place in floor_by_lines(level).values():
                    self.assertIs(region.holds(place), place in cells)

    def test_holds_places_beyond_the_floor(self):
        for level in LEVELS:
            cells = set(cells_by_words(level, WHOLE))
            for region in (Region(level, []), Region(level, WHOLE)):
                for place in small_places(40):
                    self.assertIs(region.holds(place), region.many() > 0 and place in cells)

    def test_a_longer_address_that_begins_alike(self):
        self.assertIs(Region(2, [[1]]).holds(place_by_words([1, 0])), True)
        self.assertIs(Region(2, [[1]]).holds(place_by_words([1, 0, 0])), False)
        self.assertIs(Region(2, [[1]]).holds(place_by_words([1])), False)
        self.assertIs(Region(2, [[1, 2]]).holds(place_by_words([1, 2, 0])), False)
        self.assertIs(Region(0, WHOLE).holds((1, 0)), False)

    def test_holds_no_place_of_forty_figures(self):
        for level in LEVELS:
            for place in long_places():
                if max(abs(place[0]), abs(place[1])) > 1:
                    self.assertIs(Region(level, WHOLE).holds(place), False)
                    self.assertIs(Region(level, [[0] * level]).holds(place), False)
        self.assertIs(Region(4, WHOLE).holds((GREATEST, -GREATEST)), False)

    def test_very_many_beginnings_are_answered_soon(self):
        region = Region(4, [[]] * 20000 + [[1], [2, 3]] * 20000)
        self.assert_told(region, [[]])
        self.assertEqual(region.many(), 2401)


class Refusals(RegionCase):
    def test_no_level(self):
        for level in NO_LEVELS:
            self.assert_refused(NoLevel, Region, level, [])
            self.assert_refused(NoLevel, Region, level, WHOLE)
            self.assert_refused(NoLevel, Region, level, [[1], [2]])

    def test_no_figure(self):
        for number in NO_FIGURES:
            self.assert_refused(NoFigure, Region, 1, [[number]])
            self.assert_refused(NoFigure, Region, 4, [[1, 2, 3, number]])
            self.assert_refused(NoFigure, Region, 4, [[], [1], [number, 1], [2]])
            self.assert_refused(NoFigure, Region, 4, [[number], [1]])
            self.assert_refused(NoFigure, Region, 4, [[1], [2, 3], [0, number]])

    def test_too_many_figures(self):
        for level in LEVELS:
            for too_long in ([0] * (level + 1), [6] * (level + 1), [1] * (level + 2), [3] * 200):
                self.assert_refused(NoCell, Region, level, [too_long])
                self.assert_refused(NoCell, Region, level, [too_long, []])
                self.assert_refused(NoCell, Region, level, [[], too_long, [0] * level])
                self.assert_refused(NoCell, Region, level, [[], [0] * level, too_long])
            self.assertEqual(Region(level, [[6] * level]).many(), 1)

    def test_no_level_ahead_of_the_others(self):
        for level in NO_LEVELS:
            self.assert_refused(NoLevel, Region, level, [[7]])
            self.assert_refused(NoLevel, Region, level, [[1] * 6])
            self.assert_refused(NoLevel, Region, level, [[1] * 300])
            self.assert_refused(NoLevel, Region, level, [[-1], [1] * 300])
            self.assert_refused(NoLevel, Region, level, [[1] * 300 + [7]])

    def test_no_figure_ahead_of_too_many(self):
        for level in LEVELS:
            too_long = [1] * (level + 1)
            for number in NO_FIGURES:
                self.assert_refused(NoFigure, Region, level, [too_long, [number]])
                self.assert_refused(NoFigure, Region, level, [[number], too_long])
                self.assert_refused(NoFigure, Region, level, [too_long, [], [0] * level, too_long + [number]])
                self.assert_refused(NoFigure, Region, level, [too_long + [number]])
                self.assert_refused(NoFigure, Region, level, [[number] + too_long])


class Pairs(RegionCase):
    def assert_by_places(self, call, on_places):
        for level in LEVELS:
            some = some_beginnings(level)
            # Every pair on the small floors, and some of them on the great ones.
            apart = 1 if level < 3 else 5
            pairs = list(itertools.product(some, some))[::apart]
            for one, other in pairs:
                told = call(Region(level, one), Region(level, other))
                places = on_places(set(cells_by_words(level, one)), set(cells_by_words(level, other)))
                self.assert_places(told, level, places)

    def assert_with_the_edges(self, call, on_places):
        for level in LEVELS:
            floor = set(cells_by_words(level, WHOLE))
            for beginnings in some_beginnings(level):
                region = Region(level, beginnings)
                cells = set(region.cells())
                for other, others in ((Region(level, []), set()), (Region(level, WHOLE), floor), (region, cells)):
                    self.assertEqual(set(call(region, other).cells()), on_places(cells, others))
                    self.assertEqual(set(call(other, region).cells()), on_places(others, cells))

    def assert_unlike_levels_refused(self, call):
        for one in LEVELS:
            for other in LEVELS:
                if one != other:
                    for beginnings, others in itertools.product(([], WHOLE), ([], WHOLE)):
                        self.assert_refused(NoLevel, call, Region(one, beginnings), Region(other, others))

    def test_joined(self):
        self.assert_told(joined(Region(2, [[1], [2, 3]]), Region(2, [[2], [0, 0]])), [[0, 0], [1], [2]])
        self.assert_by_places(joined, set.union)
        self.assert_with_the_edges(joined, set.union)
        self.assert_unlike_levels_refused(joined)

    def test_met(self):
        self.assert_told(met(Region(2, [[1], [2, 3]]), Region(2, [[2], [1, 0]])), [[1, 0], [2, 3]])
        self.assert_by_places(met, set.intersection)
        self.assert_with_the_edges(met, set.intersection)
        self.assert_unlike_levels_refused(met)

    def test_without(self):
        expected = [[1, figure] for figure in range(1, 7)]
        self.assert_told(without(Region(2, [[1], [2, 3]]), Region(2, [[2], [1, 0]])), expected)
        self.assert_by_places(without, set.difference)
        self.assert_with_the_edges(without, set.difference)
        self.assert_unlike_levels_refused(without)

    def test_parts_that_make_a_whole(self):
        for level in LEVELS:
            for region in regions_of(level):
                other = without(Region(level, WHOLE), region)
                self.assert_told(joined(region, other), [[]])
                self.assert_told(met(region, other), [])
                self.assert_told(without(region, other), region.told())

    def test_both_stay_as_they_were(self):
        for level in LEVELS:
            some = some_beginnings(level)
            for one, other in itertools.product(some, some):
                regions = (Region(level, one), Region(level, other))
                kept = [(region.level, region.told(), region.many()) for region in regions]
                for call in (joined, met, without):
                    told = call(regions[0], regions[1])
                    self.assertIsNot(told, regions[0])
                    self.assertIsNot(told, regions[1])
                self.assertEqual([(region.level, region.told(), region.many()) for region in regions], kept)


class HandedIn(RegionCase):
    def test_stays_as_it_was(self):
        for level in LEVELS:
            for beginnings in some_beginnings(level):
                handed_in = [list(beginning) for beginning in beginnings]
                region = Region(level, handed_in)
                region.told()
                region.cells()
                self.assertEqual(handed_in, beginnings)

    def test_stays_as_it_was_when_refused(self):
        handed_in = [[3, 1], [0], [7], [3, 1]]
        self.assert_refused(NoFigure, Region, 1, handed_in)
        self.assertEqual(handed_in, [[3, 1], [0], [7], [3, 1]])

    def test_may_be_changed_later(self):
        inner = [1, 2]
        handed_in = [inner, [3]]
        region = Region(3, handed_in)
        inner.append(5)
        inner[0] = 6
        handed_in[1].clear()
        handed_in.append([4])
        self.assert_told(region, [[1, 2], [3]])
        self.assertEqual(region.many(), 7 + 49)
        self.assertEqual(region.cells(), cells_by_words(3, [[1, 2], [3]]))
        self.assertIs(region.holds(place_by_words([6, 2, 0])), False)

    def test_what_is_told_may_be_changed(self):
        region = Region(2, [[1], [2, 3]])
        told = region.told()
        told[0].append(6)
        told.append([5])
        cells = region.cells()
        kept = list(cells)
        cells.clear()
        self.assert_told(region, [[1], [2, 3]])
        self.assertEqual(region.cells(), kept)
        self.assertEqual(region.many(), 8)
        self.assertIs(region.holds(place_by_words([5, 0])), False)
        region.told()[1][0] = 4
        self.assert_told(region, [[1], [2, 3]])

    def test_new_regions_hang_on_no_others(self):
        one = Region(2, [[1]])
        other = Region(2, [[2]])
        both = joined(one, other)
        both.told()[0].append(9)
        both.cells().clear()
        self.assert_told(one, [[1]])
        self.assert_told(other, [[2]])
        self.assert_told(both, [[1], [2]])

    def test_places_stay_as_they_were(self):
        place = (3, -2)
        Region(3, WHOLE).holds(place)
        self.assertEqual(place, (3, -2))


if __name__ == "__main__":
    unittest.main()
