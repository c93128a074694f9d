import unittest

from helper import GREATEST, LONG, STEPS, FloorCase, turned_once
from hexaddress.errors import NoCell
from hexaddress.places import added, distance, neighbours, step, taken, turned

PLACES = [
    (0, 0), (1, 0), (0, 1), (-1, 1), (3, 5), (-3, 5), (3, -5), (-3, -5), (5, -5), (7, 0), (0, -7),
    (LONG, -3), (-LONG, LONG), (GREATEST, GREATEST), (-GREATEST, -GREATEST), (GREATEST, -GREATEST),
    (-GREATEST, 1), (0, GREATEST), (-LONG, -GREATEST),
]


class Sums(FloorCase):
    def test_added(self):
        self.assert_place(added((1, 2), (10, 20)), (11, 22))
        self.assert_place(added((1, 2), (-10, -20)), (-9, -18))
        self.assert_place(added((4, -7), (0, 0)), (4, -7))
        self.assert_place(added((0, 0), (0, 0)), (0, 0))

    def test_taken_is_the_first_less_the_second(self):
        self.assert_place(taken((1, 2), (10, 30)), (-9, -28))
        self.assert_place(taken((10, 30), (1, 2)), (9, 28))
        self.assert_place(taken((0, 0), (4, -7)), (-4, 7))
        self.assert_place(taken((4, -7), (4, -7)), (0, 0))

    def test_forty_figures(self):
        self.assert_place(added((GREATEST, -GREATEST), (1, -1)), (10 ** 40, -10 ** 40))
        self.assert_place(taken((-GREATEST, GREATEST), (1, -1)), (-10 ** 40, 10 ** 40))
        self.assert_place(added((LONG, -LONG), (-LONG, 1)), (0, 1 - LONG))
        self.assert_place(taken((LONG, -LONG), (-LONG, 1)), (2 * LONG, -LONG - 1))

    def test_each_number_by_itself(self):
        for one in PLACES:
            for other in PLACES:
                self.assert_place(added(one, other), (one[0] + other[0], one[1] + other[1]))
                self.assert_place(taken(one, other), (one[0] - other[0], one[1] - other[1]))


class Turns(FloorCase):
    def test_written_out(self):
        self.assert_place(turned((2, 1), 0), (2, 1))
        self.assert_place(turned((2, 1), 1), (-1, 3))
        self.assert_place(turned((2, 1), 2), (-3, 2))
        self.assert_place(turned((2, 1), 3), (-2, -1))
        self.assert_place(turned((2, 1), 4), (1, -3))
        self.assert_place(turned((2, 1), 5), (3, -2))
        self.assert_place(turned((2, 1), 6), (2, 1))
        self.assert_place(turned((2, 1), -1), (3, -2))
        self.assert_place(turned((2, 1), -2), (1, -3))

    def test_turned_so_often(self):
        for place in PLACES:
            now = place
            for sixths in range(20):
                self.assert_place(turned(place, sixths), now)
                now = turned_once(now)

    def test_below_nought_the_other_way(self):
        for place in PLACES:
            for sixths in range(20):
                back = turned(place, -sixths)
                self.assert_kind_of_place(back)
                for turn in range(sixths):
                    back = turned_once(back)
                self.assertEqual(back, place)

    def test_so_and_back_again(self):
        for place in PLACES:
            for sixths in (0, 1, 2, 5, 6, 7, 13, -1, -4, -6, -9, LONG, -LONG, GREATEST):
                self.assert_place(turned(turned(place, sixths), -sixths), place)

    def test_six_sixths_bring_it_back(self):
        for place in PLACES:
            for sixths in (6, -6, 12, 600, -600, 6 * LONG, -6 * GREATEST):
                self.assert_place(turned(place, sixths), place)
                self.assert_place(turned(place, sixths + 1), turned_once(place))

    def test_forty_figures(self):
        self.assert_place(turned((GREATEST, GREATEST), 1), (-GREATEST, 2 * GREATEST))
        self.assert_place(turned((GREATEST, -GREATEST), 1), (GREATEST, 0))
        self.assert_place(turned((GREATEST, GREATEST), -1), (2 * GREATEST, -GREATEST))


class Steps(FloorCase):
    def test_each_step(self):
        for direction in STEPS:
            self.assert_place(step(direction), STEPS[direction])

    def test_each_next_one_is_turned_by_a_sixth(self):
        for direction in range(1, 6):
            self.assertEqual(step(direction + 1), turned_once(step(direction)))

    def test_other_numbers_are_refused(self):
        # A number of 5000 figures is one that Python itself would not write out.
        for direction in (0, 7, 8, 12, 13, -1, -2, -6, -7, LONG, -LONG, 10 ** 5000, -10 ** 5000):
            self.assert_refused(NoCell, step, direction)


class Neighbours(FloorCase):
    def test_of_the_middle(self):
        self.assertEqual(neighbours((0, 0)), [STEPS[direction] for direction in range(1, 7)])

    def test_by_rising_directions(self):
        self.assertEqual(neighbours((5, -3)), [(6, -3), (5, -2), (4, -2), (4, -3), (5, -4), (6, -4)])
        for place in PLACES:
            told = neighbours(place)
            self.assertIs(type(told), list)
            self.assertEqual(len(told), 6)
            for direction in STEPS:
                across = STEPS[direction]
                self.assert_place(told[direction - 1], (place[0] + across[0], place[1] + across[1]))

    def test_a_new_list_each_time(self):
        for place in PLACES:
            told = neighbours(place)
            kept = list(told)
            told.reverse()
            told[0] = (99, 99)
            told.append("more")
            self.assertEqual(neighbours(place), kept)
            self.assertIsNot(neighbours(place), neighbours(place))


class Distances(FloorCase):
    def test_written_out(self):
        self.assertEqual(distance((0, 0), (0, 0)), 0)
        self.assertEqual(distance((2, 3), (0, 0)), 5)
        self.assertEqual(distance((-2, -3), (0, 0)), 5)
        self.assertEqual(distance((2, -3), (0, 0)), 3)
        self.assertEqual(distance((-4, 3), (0, 0)), 4)
        self.assertEqual(distance((4, -4), (0, 0)), 4)
        self.assertEqual(distance((7, 1), (5, 4)), 3)
        self.assertEqual(distance((1, 1), (-1, -1)), 4)

    def test_least_number_of_steps(self):
        start = (3, -2)
        steps_to = {start: 0}
        edge = [start]
        for steps in range(1, 9):
            reached = []
            for place in edge:
                for across in STEPS.values():
                    there = (place[0] + across[0], place[1] + across[1])
                    if there not in steps_to:
                        steps_to[there] = steps
                        reached.append(there)
            edge = reached
        for place in steps_to:
            self.assertEqual(distance(start, place), steps_to[place])

    def test_greatest_without_signs(self):
        for place in PLACES:
            q, r = place
            told = distance(place, (0, 0))
            self.assertIs(type(told), int)
            self.assertEqual(told, max(abs(q), abs(r), abs(q + r)))

    def test_forty_figures(self):
        self.assertEqual(distance((GREATEST, GREATEST), (0, 0)), 2 * GREATEST)
        self.assertEqual(distance((GREATEST, -GREATEST), (0, 0)), GREATEST)
        self.assertEqual(distance((GREATEST, GREATEST), (-GREATEST, -GREATEST)), 4 * GREATEST)
        self.assertEqual(distance((GREATEST, -GREATEST), (-GREATEST, GREATEST)), 2 * GREATEST)
        self.assertEqual(distance((LONG + 1, LONG), (LONG, LONG)), 1)

    def test_the_same_both_ways_and_from_anywhere(self):
        for one in PLACES:
            for other in PLACES:
                told = distance(one, other)
                self.assertEqual(told, distance(other, one))
                self.assertEqual(told == 0, one == other)
                between = (one[0] - other[0], one[1] - other[1])
                self.assertEqual(told, distance(between, (0, 0)))


class HandedIn(FloorCase):
    def test_stays_as_it_was(self):
        for place in PLACES:
            kept = (place[0], place[1])
            other = (place[1] + 1, -place[0])
            other_kept = (other[0], other[1])
            added(place, other)
            taken(place, other)
            turned(place, 7)
            neighbours(place).clear()
            distance(place, other)
            self.assertEqual(place, kept)
            self.assertEqual(other, other_kept)


if __name__ == "__main__":
    unittest.main()
