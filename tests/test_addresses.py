import unittest

from helper import (
    FIGURES, GREATEST, LONG, NO_FIGURES, RESTS, FloorCase, Mixed, address_by_words, centres_of, floor_by_lines,
    great_step, long_places, minus, place_by_words, plus, small_places, without_noughts_ahead,
)
from hexaddress.addresses import address, centre, great, place_of, rest
from hexaddress.errors import NoFigure


def lists_of_figures():
    mixed = Mixed(7)
    lists = [mixed.figures(length) for length in range(1, 201, 7)]
    lists += [[figure] * length for figure in FIGURES for length in (1, 2, 40, 199, 200)]
    lists += [[0] * noughts + mixed.figures(200 - noughts) for noughts in (1, 2, 100, 199, 200)]
    return lists + [[1] + [0] * 199, [0] * 199 + [6], mixed.figures(210)]


class GreatSteps(FloorCase):
    def test_written_out(self):
        self.assert_place(great((0, 0)), (0, 0))
        self.assert_place(great((1, 0)), (2, 1))
        self.assert_place(great((0, 1)), (-1, 3))
        self.assert_place(great((-1, 1)), (-3, 2))
        self.assert_place(great((5, -3)), (13, -4))
        self.assert_place(great((-10, -100)), (80, -310))

    def test_by_the_words(self):
        for place in small_places(12) + long_places():
            self.assert_place(great(place), great_step(place))


class CentresAndRests(FloorCase):
    def test_written_out(self):
        self.assert_place(centre((0, 0)), (0, 0))
        self.assertEqual(rest((0, 0)), 0)
        for figure in FIGURES:
            self.assert_place(centre(RESTS[figure]), (0, 0))
            self.assertEqual(rest(RESTS[figure]), figure)
            self.assert_place(centre(plus((13, -4), RESTS[figure])), (5, -3))
            self.assertEqual(rest(plus((13, -4), RESTS[figure])), figure)

    def test_together_they_make_the_place(self):
        for place in small_places(20) + long_places():
            self.assert_kind_of_place(centre(place))
            self.assertIs(type(rest(place)), int)
            self.assertIn(rest(place), FIGURES)
            self.assertEqual(plus(great_step(centre(place)), RESTS[rest(place)]), place)

    def test_no_other_figure_leaves_a_great_step(self):
        for place in small_places(20) + long_places():
            self.assertEqual(centres_of(place), [(centre(place), rest(place))])

    def test_no_other_figure_among_all_great_steps_near_by(self):
        great_steps = {great(place) for place in small_places(20)}
        for place in small_places(8):
            figures = [figure for figure in FIGURES if minus(place, RESTS[figure]) in great_steps]
            self.assertEqual(figures, [rest(place)])

    def test_they_undo_great_steps(self):
        for place in small_places(8) + long_places():
            for figure in FIGURES:
                there = plus(great(place), RESTS[figure])
                self.assert_place(centre(there), place)
                self.assertEqual(rest(there), figure)


class Addresses(FloorCase):
    def test_written_out(self):
        self.assert_figures(address((0, 0)), [])
        self.assert_figures(address((1, 0)), [1])
        self.assert_figures(address((1, -1)), [6])
        self.assert_figures(address((2, 1)), [1, 0])
        self.assert_figures(address((3, 1)), [1, 1])
        self.assert_figures(address((2, 0)), [1, 5])
        self.assert_figures(address((3, 5)), [1, 0, 0])
        self.assert_figures(address((5, 3)), [1, 6, 4])
        self.assert_figures(address((-1, 0)), [4])

    def test_by_the_words(self):
        for place in small_places(20) + long_places():
            self.assert_figures(address(place), address_by_words(place))

    def test_the_centres_address_with_the_rest_behind_it(self):
        for place in small_places(20) + long_places():
            if place != (0, 0):
                self.assertEqual(address(place), address(centre(place)) + [rest(place)])

    def test_the_first_figure_is_not_nought(self):
        for place in small_places(20) + long_places():
            self.assertNotEqual(address(place)[:1], [0])
            self.assertEqual([figure for figure in address(place) if figure not in FIGURES], [])

    def test_at_most_a_hundred_figures(self):
        for place in long_places():
            self.assertLessEqual(len(address(place)), 100)
        self.assertGreater(len(address((GREATEST, GREATEST))), 90)

    def test_each_place_has_one_of_its_own(self):
        places = small_places(20)
        self.assertEqual(len({tuple(address(place)) for place in places}), len(places))

    def test_a_new_list_each_time(self):
        for place in ((0, 0), (5, 3), (LONG, -GREATEST)):
            told = address(place)
            kept = list(told)
            told.append(9)
            told.insert(0, 9)
            self.assertEqual(address(place), kept)

    def test_place_of_written_out(self):
        self.assert_place(place_of([]), (0, 0))
        self.assert_place(place_of([0]), (0, 0))
        self.assert_place(place_of([0, 0, 0]), (0, 0))
        self.assert_place(place_of([1, 0]), (2, 1))
        self.assert_place(place_of([0, 0, 1, 2]), (2, 2))
        self.assert_place(place_of([1, 6, 4]), (5, 3))

    def test_place_of_by_the_words(self):
        for figures in lists_of_figures():
            self.assert_place(place_of(figures), place_by_words(figures))

    def test_place_of_undoes_address(self):
        for place in small_places(20) + long_places():
            self.assert_place(place_of(address(place)), place)
            for noughts in (1, 2, 50):
                self.assert_place(place_of([0] * noughts + address(place)), place)

    def test_address_of_place_of(self):
        for figures in lists_of_figures() + [list(line) for line in floor_by_lines(4)]:
            self.assert_figures(address(place_of(figures)), without_noughts_ahead(figures))

    def test_great_numbers_that_come_of_two_hundred_figures(self):
        place = place_of([6] * 200)
        self.assertGreater(max(abs(place[0]), abs(place[1])), 10 ** 80)
        self.assert_figures(address(place), [6] * 200)

    def test_no_figures_are_refused(self):
        for number in NO_FIGURES:
            self.assert_refused(NoFigure, place_of, [number])
            self.assert_refused(NoFigure, place_of, [number, 1, 2])
            self.assert_refused(NoFigure, place_of, [1, number, 2])
            self.assert_refused(NoFigure, place_of, [1, 2, number])
            self.assert_refused(NoFigure, place_of, [0, 0, number])
            self.assert_refused(NoFigure, place_of, [6] * 199 + [number])
            self.assert_refused(NoFigure, place_of, [number] * 200)


class HandedIn(FloorCase):
    def test_stays_as_it_was(self):
        for place in small_places(2) + long_places():
            kept = (place[0], place[1])
            for call in (great, centre, rest, address):
                call(place)
                self.assertEqual(place, kept)
        for figures in lists_of_figures() + [[], [0, 0], [0, 1]]:
            kept = list(figures)
            place_of(figures)
            self.assertEqual(figures, kept)

    def test_stays_as_it_was_when_refused(self):
        figures = [0, 1, 7, 2]
        self.assert_refused(NoFigure, place_of, figures)
        self.assertEqual(figures, [0, 1, 7, 2])


if __name__ == "__main__":
    unittest.main()
