import unittest

from helper import GREATEST, LONG, STEPS, FloorCase
from hexaddress.errors import NoCell
from hexaddress.spirals import ring, spiral_number, spiral_place

SOME_RINGS = (0, 1, 2, 3, 17, 59, 60)


def far(place):
    return max(abs(place[0]), abs(place[1]), abs(place[0] + place[1]))


def directions_of_ring(n):
    return [3] * n + [4] * n + [5] * n + [6] * n + [1] * n + [2] * (n - 1)


def walked_ring(n):
    places = [(n, 0)]
    if n > 0:
        for direction in directions_of_ring(n):
            q, r = places[-1]
            places.append((q + STEPS[direction][0], r + STEPS[direction][1]))
    return places


def walked_spiral(rings):
    places = []
    for n in range(rings):
        places.extend(walked_ring(n))
    return places


class Rings(FloorCase):
    def test_ring_nought(self):
        self.assertEqual(ring(0), [(0, 0)])

    def test_ring_one(self):
        self.assertEqual(ring(1), [(1, 0), (0, 1), (-1, 1), (-1, 0), (0, -1), (1, -1)])

    def test_ring_two(self):
        self.assertEqual(ring(2), [
            (2, 0), (1, 1), (0, 2), (-1, 2), (-2, 2), (-2, 1),
            (-2, 0), (-1, -1), (0, -2), (1, -2), (2, -2), (2, -1),
        ])

    def test_kinds(self):
        for n in SOME_RINGS:
            told = ring(n)
            self.assertIs(type(told), list)
            for place in told:
                self.assert_kind_of_place(place)

    def test_how_many_and_none_twice(self):
        for n in SOME_RINGS:
            self.assertEqual(len(ring(n)), 6 * n if n > 0 else 1)
            self.assertEqual(len(set(ring(n))), len(ring(n)))

    def test_all_at_distance_n(self):
        for n in SOME_RINGS:
            square = [(q, r) for q in range(-n, n + 1) for r in range(-n, n + 1)]
            self.assertEqual(set(ring(n)), {place for place in square if far(place) == n})

    def test_the_first_place(self):
        for n in SOME_RINGS:
            self.assertEqual(ring(n)[0], (n, 0))

    def test_the_order_of_the_sides(self):
        for n in range(1, 61):
            told = ring(n)
            steps = [(there[0] - here[0], there[1] - here[1]) for here, there in zip(told, told[1:])]
            self.assertEqual(steps, [STEPS[direction] for direction in directions_of_ring(n)])

    def test_each_a_neighbour_of_the_one_ahead(self):
        for n in SOME_RINGS:
            told = ring(n)
            for here, there in zip(told, told[1:]):
                self.assertEqual(far((there[0] - here[0], there[1] - here[1])), 1)

    def test_somewhat_beyond_sixty(self):
        self.assertEqual(ring(70), walked_ring(70))

    def test_a_new_list_each_time(self):
        for n in (0, 1, 5):
            told = ring(n)
            kept = list(told)
            told.reverse()
            told.append("more")
            told[0] = (99, 99)
            self.assertEqual(ring(n), kept)
            self.assertIsNot(ring(n), ring(n))


class Spirals(FloorCase):
    def test_written_out(self):
        self.assertEqual(spiral_number((0, 0)), 0)
        self.assertEqual(spiral_number((1, 0)), 1)
        self.assertEqual(spiral_number((1, -1)), 6)
        self.assertEqual(spiral_number((2, 0)), 7)
        self.assertEqual(spiral_number((2, -1)), 18)
        self.assertEqual(spiral_number((3, 0)), 19)
        self.assertEqual(spiral_place(0), (0, 0))
        self.assertEqual(spiral_place(1), (1, 0))
        self.assertEqual(spiral_place(6), (1, -1))
        self.assertEqual(spiral_place(7), (2, 0))
        self.assertEqual(spiral_place(18), (2, -1))
        self.assertEqual(spiral_place(19), (3, 0))

    def test_against_the_walk(self):
        for number, place in enumerate(walked_spiral(25)):
            told = spiral_place(number)
            self.assertEqual(told, place)
            self.assert_kind_of_place(told)
            self.assertEqual(spiral_number(place), number)
            self.assertIs(type(spiral_number(place)), int)

    def test_against_the_rings(self):
        number = 0
        for n in range(20):
            for place in ring(n):
                self.assertEqual(spiral_number(place), number)
                self.assertEqual(spiral_place(number), place)
                number += 1

    def test_numbers_of_forty_figure_places(self):
        for n in (LONG, GREATEST - 1, GREATEST, 10 ** 39):
            ahead = 1 + 3 * n * (n - 1)
            corners = [(n, 0), (0, n), (-n, n), (-n, 0), (0, -n), (n, -n)]
            for side, corner in enumerate(corners):
                direction = STEPS[(side + 2) % 6 + 1]
                for along in (0, 1, n // 3, n - 1):
                    place = (corner[0] + along * direction[0], corner[1] + along * direction[1])
                    self.assertEqual(spiral_number(place), ahead + side * n + along)
                    self.assertEqual(spiral_place(ahead + side * n + along), place)

    def test_forty_figure_places_and_back(self):
        numbers = (0, 1, -1, LONG, -LONG, GREATEST, -GREATEST, 10 ** 39, -(10 ** 39))
        for q in numbers:
            for r in numbers:
                number = spiral_number((q, r))
                self.assertIs(type(number), int)
                self.assertEqual(spiral_place(number), (q, r))

    def test_ninety_figure_numbers_and_back(self):
        for number in (10 ** 90 - 1, 10 ** 90 - 2, 10 ** 89, 7 * 10 ** 89 + LONG, LONG, 10 ** 60 + 1, 10 ** 95):
            place = spiral_place(number)
            self.assert_kind_of_place(place)
            n = far(place)
            self.assertLessEqual(1 + 3 * n * (n - 1), number)
            self.assertLess(number, 1 + 3 * n * (n + 1))
            self.assertEqual(spiral_number(place), number)

    def test_where_a_great_ring_ends(self):
        for n in (LONG, GREATEST, 10 ** 44, 5 * 10 ** 44):
            last = 3 * n * (n + 1)
            self.assertEqual(spiral_place(last), (n, -1))
            self.assertEqual(spiral_place(last + 1), (n + 1, 0))
            self.assertEqual(spiral_number((n, -1)), last)
            self.assertEqual(spiral_number((n + 1, 0)), last + 1)

    def test_below_nought_is_refused(self):
        # A number of 5000 figures is one that Python itself would not write out.
        for number in (-1, -2, -6, -7, -LONG, -(10 ** 90), -(10 ** 5000)):
            self.assert_refused(NoCell, spiral_place, number)

    def test_what_is_handed_in_stays_as_it_was(self):
        for place in ((0, 0), (3, -8), (-LONG, GREATEST)):
            kept = (place[0], place[1])
            spiral_number(place)
            self.assertEqual(place, kept)


if __name__ == "__main__":
    unittest.main()
