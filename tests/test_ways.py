import itertools
import unittest

from helper import GREATEST, LONG, STEPS, FloorCase, Mixed, cells_by_words, place_by_words, plus
from hexaddress.errors import Apart, NoCell
from hexaddress.regions import Region, without
from hexaddress.ways import levels, way

# The whole floor, single cells, neighbouring parts, parts that lie apart, and floors with holes.
SMALL = (
    (0, [[]]), (1, [[]]), (1, [[1], [3], [5]]), (1, [[0], [1], [4]]), (1, [[1], [2], [3], [4], [5], [6]]),
    (2, [[]]), (2, [[1], [4]]), (2, [[1], [0], [4]]), (2, [[0, 1], [0, 2], [2], [3], [5, 5]]), (2, [[0, 0]]),
)
GREAT = ((3, [[]]), (3, [[1], [2, 3], [5], [0, 0]]), (4, [[0]]), (4, [[1], [4]]), (4, [[]]))


def beside(place):
    return [plus(place, STEPS[direction]) for direction in range(1, 7)]


def walked(cells, start):
    """Ring by ring from the start: all cells beside those of the ring ahead that no ring has yet."""
    steps_to = {}
    edge = {start}
    for steps in itertools.count():
        if not edge:
            return steps_to
        steps_to.update(dict.fromkeys(edge, steps))
        edge = {there for here in edge for there in beside(here) if there in cells and there not in steps_to}


def every_way(cells, one, other, steps):
    """Every way of so many steps from the one to the other, those by lower directions first."""
    if steps == 0:
        return [[one]] if one == other else []
    ways = []
    for there in beside(one):
        if there in cells:
            ways += [[one] + further for further in every_way(cells, there, other, steps - 1)]
    return ways


def holed_regions():
    """Floors of level 2 and 3 out of which some cells are taken."""
    mixed = Mixed(15)
    regions = []
    for level, many in ((2, 8), (2, 15), (2, 22), (3, 60), (3, 110), (3, 160)):
        holes = Region(level, [mixed.figures(level) for hole in range(many)])
        regions.append(without(Region(level, [[]]), holes))
    return regions


def small_regions():
    return [Region(level, beginnings) for level, beginnings in SMALL]


class WayCase(FloorCase):
    def assert_a_way(self, told, cells, one, other):
        self.assertIs(type(told), list)
        for place in told:
            self.assert_kind_of_place(place)
            self.assertIn(place, cells)
        self.assertEqual((told[0], told[-1]), (one, other))
        for here, there in zip(told, told[1:]):
            self.assertIn(there, beside(here))

    def assert_first_of_the_shortest(self, told, cells, one, other):
        self.assert_a_way(told, cells, one, other)
        steps_left = walked(cells, other)
        self.assertEqual(len(told), steps_left[one] + 1)
        for here, there in zip(told, told[1:]):
            nearer = [place for place in beside(here) if steps_left.get(place) == steps_left[here] - 1]
            self.assertEqual(there, nearer[0])


class Levels(WayCase):
    def test_written_out(self):
        self.assertEqual(levels(Region(0, [[]]), (0, 0)), {(0, 0): 0})
        self.assertEqual(levels(Region(1, [[1], [0], [4]]), (1, 0)), {(1, 0): 0, (0, 0): 1, (-1, 0): 2})
        self.assertEqual(levels(Region(1, [[1], [2], [4]]), (1, 0)), {(1, 0): 0, (0, 1): 1})
        round_the_hole = Region(1, [[1], [2], [3], [4], [5], [6]])
        self.assertEqual(
            levels(round_the_hole, (1, 0)),
            {(1, 0): 0, (0, 1): 1, (1, -1): 1, (-1, 1): 2, (0, -1): 2, (-1, 0): 3},
        )

    def test_against_a_walk(self):
        for region in small_regions() + holed_regions()[:3]:
            cells = region.cells()
            for place in cells:
                self.assertEqual(levels(region, place), walked(set(cells), place))

    def test_against_a_walk_on_great_floors(self):
        for region in [Region(level, beginnings) for level, beginnings in GREAT] + holed_regions():
            cells = region.cells()
            for place in cells[::len(cells) // 5]:
                self.assertEqual(levels(region, place), walked(set(cells), place))

    def test_kinds(self):
        told = levels(Region(2, [[]]), (1, 0))
        self.assertIs(type(told), dict)
        for place in told:
            self.assert_kind_of_place(place)
            self.assertIs(type(told[place]), int)

    def test_a_part_that_no_way_leads_to_is_left_out(self):
        region = Region(4, [[1], [4]])
        told = levels(region, place_by_words([1, 0, 0, 0]))
        self.assertEqual(len(told), 343)
        self.assertEqual(set(told), set(cells_by_words(4, [[1]])))

    def test_a_dict_that_is_told_anew(self):
        region = Region(2, [[1], [0]])
        told = levels(region, (0, 0))
        kept = dict(told)
        told[(0, 0)] = 99
        told[(77, 77)] = 1
        self.assertEqual(levels(region, (0, 0)), kept)
        told.clear()
        self.assertEqual(levels(region, (0, 0)), kept)
        self.assertEqual(region.cells(), cells_by_words(2, [[0], [1]]))

    def test_a_place_outside_is_refused(self):
        for region in small_regions():
            for place in ((50, 50), (-9, 0), (LONG, -LONG), (GREATEST, GREATEST)):
                self.assert_refused(NoCell, levels, region, place)
        self.assert_refused(NoCell, levels, Region(0, []), (0, 0))
        self.assert_refused(NoCell, levels, Region(4, []), (0, 0))
        self.assert_refused(NoCell, levels, Region(1, [[1], [2]]), (0, 0))
        self.assert_refused(NoCell, levels, Region(1, [[1], [2]]), (-1, 0))


class Ways(WayCase):
    def test_written_out(self):
        floor = Region(2, [[]])
        self.assertEqual(way(floor, (0, 0), (2, 0)), [(0, 0), (1, 0), (2, 0)])
        self.assertEqual(way(floor, (0, 0), (1, 1)), [(0, 0), (1, 0), (1, 1)])
        self.assertEqual(way(floor, (1, 1), (0, 0)), [(1, 1), (0, 1), (0, 0)])
        self.assertEqual(way(floor, (1, 0), (-1, 1)), [(1, 0), (0, 1), (-1, 1)])
        self.assertEqual(way(Region(1, [[0], [1], [4]]), (1, 0), (-1, 0)), [(1, 0), (0, 0), (-1, 0)])
        round_the_hole = Region(1, [[1], [2], [3], [4], [5], [6]])
        self.assertEqual(way(round_the_hole, (1, 0), (-1, 0)), [(1, 0), (0, 1), (-1, 1), (-1, 0)])
        self.assertEqual(way(round_the_hole, (-1, 0), (1, 0)), [(-1, 0), (-1, 1), (0, 1), (1, 0)])

    def test_from_a_place_to_itself(self):
        for region in small_regions() + [Region(3, [[1]])]:
            for place in region.cells():
                self.assertEqual(way(region, place, place), [place])

    def test_the_first_of_every_shortest_way(self):
        for region in small_regions()[:5] + [Region(2, [[1], [0], [4]])]:
            cells = region.cells()
            for one in cells:
                for other, steps in walked(set(cells), one).items():
                    ways = every_way(set(cells), one, other, steps)
                    self.assertEqual(way(region, one, other), ways[0])

    def test_all_pairs_of_small_regions(self):
        for region in small_regions() + holed_regions()[:2]:
            cells = set(region.cells())
            for one in cells:
                for other in walked(cells, one):
                    self.assert_first_of_the_shortest(way(region, one, other), cells, one, other)

    def test_some_pairs_of_great_regions(self):
        for region in [Region(level, beginnings) for level, beginnings in GREAT] + holed_regions():
            cells = region.cells()
            for one in cells[::len(cells) // 3]:
                reached = sorted(walked(set(cells), one))
                for other in reached[::len(reached) // 3 + 1] + reached[-1:]:
                    self.assert_first_of_the_shortest(way(region, one, other), set(cells), one, other)

    def test_places_that_no_way_joins(self):
        for region in small_regions() + holed_regions()[:3]:
            cells = region.cells()
            for one in cells:
                for other in set(cells) - set(walked(set(cells), one)):
                    self.assert_refused(Apart, way, region, one, other)
        self.assert_refused(Apart, way, Region(1, [[1], [4]]), (1, 0), (-1, 0))
        far_parts = Region(4, [[1], [4]])
        self.assert_refused(Apart, way, far_parts, far_parts.cells()[0], far_parts.cells()[-1])

    def test_places_outside_are_refused(self):
        region = Region(1, [[1], [4]])
        for outside in ((0, 0), (0, 1), (50, -50), (LONG, -GREATEST)):
            for inside in ((1, 0), (-1, 0)):
                self.assert_refused(NoCell, way, region, inside, outside)
                # No way leads there either, and this refusal is the first one.
                self.assert_refused(NoCell, way, region, outside, inside)
            self.assert_refused(NoCell, way, region, outside, outside)
            self.assert_refused(NoCell, way, region, outside, (7, 7))
        self.assert_refused(NoCell, way, Region(2, []), (0, 0), (0, 0))

    def test_a_new_list_each_time(self):
        region = Region(2, [[]])
        told = way(region, (0, 0), (2, 0))
        told.reverse()
        told.append((9, 9))
        self.assertEqual(way(region, (0, 0), (2, 0)), [(0, 0), (1, 0), (2, 0)])
        way(region, (0, 0), (0, 0)).clear()
        self.assertEqual(way(region, (0, 0), (0, 0)), [(0, 0)])


class HandedIn(WayCase):
    def test_stays_as_it_was(self):
        for region in small_regions() + holed_regions():
            kept = (region.level, region.told(), region.cells())
            one = kept[2][0]
            other = sorted(walked(set(kept[2]), one))[-1]
            pair = ((one[0], one[1]), (other[0], other[1]))
            levels(region, one).clear()
            way(region, one, other).clear()
            self.assertEqual((region.level, region.told(), region.cells()), kept)
            self.assertEqual((one, other), pair)


if __name__ == "__main__":
    unittest.main()
