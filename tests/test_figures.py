import unittest

from helper import (
    FIGURES, LONG, NO_FIGURES, RESTS, FloorCase, Mixed, address_by_words, great_step, minus, place_by_words, plus,
    times, turned_so, without_noughts_ahead,
)
from hexaddress.errors import NoFigure
from hexaddress.figures import (
    address_great, address_less, address_product, address_sum, address_turned, figure_sum,
)

SIXTHS = (0, 1, 2, 3, 4, 5, 6, 7, 12, 13, 100, -1, -2, -5, -6, -7, -12, -100)


def some_lists(lengths):
    mixed = Mixed(11)
    lists = [[], [0], [0, 0, 0], [1], [4], [0, 0, 5]]
    for length in lengths:
        lists.append(mixed.figures(length))
        lists.append([mixed.below(7)] * length)
        lists.append([0] * (length // 2) + mixed.figures(length - length // 2))
    return lists


ANY_LISTS = some_lists((2, 3, 17, 40, 99, 200))
LISTS_OF_FORTY = some_lists((2, 3, 5, 17, 31, 39, 40))


class FigureSums(FloorCase):
    def test_written_out(self):
        self.assertEqual(figure_sum(0, 0), (0, 0))
        self.assertEqual(figure_sum(0, 6), (0, 6))
        self.assertEqual(figure_sum(1, 1), (1, 5))
        self.assertEqual(figure_sum(1, 2), (1, 4))
        self.assertEqual(figure_sum(1, 3), (0, 2))
        self.assertEqual(figure_sum(1, 4), (0, 0))
        self.assertEqual(figure_sum(6, 1), (6, 3))

    def test_all_pairs_by_the_words(self):
        for one in FIGURES:
            for other in FIGURES:
                total = plus(RESTS[one], RESTS[other])
                pairs = [
                    (carried, left) for carried in FIGURES for left in FIGURES
                    if plus(great_step(RESTS[carried]), RESTS[left]) == total
                ]
                self.assertEqual(pairs, [figure_sum(one, other)])

    def test_kinds(self):
        for one in FIGURES:
            for other in FIGURES:
                told = figure_sum(one, other)
                self.assertIs(type(told), tuple)
                self.assertEqual([type(figure) for figure in told], [int, int])

    def test_no_figures_are_refused(self):
        for number in NO_FIGURES:
            for figure in FIGURES:
                self.assert_refused(NoFigure, figure_sum, number, figure)
                self.assert_refused(NoFigure, figure_sum, figure, number)
            self.assert_refused(NoFigure, figure_sum, number, number)


class AddressCase(FloorCase):
    def assert_by_places(self, call, on_places, lists):
        places = [place_by_words(figures) for figures in lists]
        for one, place in zip(lists, places):
            for other, other_place in zip(lists, places):
                self.assert_figures(call(one, other), address_by_words(on_places(place, other_place)))

    def assert_no_figures_refused(self, call):
        for number in NO_FIGURES:
            for wrong in ([number], [1, number], [number, 1], [0, number, 0], [3] * 39 + [number]):
                for right in ([], [0], [2, 5]):
                    self.assert_refused(NoFigure, call, wrong, right)
                    self.assert_refused(NoFigure, call, right, wrong)
                self.assert_refused(NoFigure, call, wrong, wrong)


class Sums(AddressCase):
    def test_written_out(self):
        self.assert_figures(address_sum([], []), [])
        self.assert_figures(address_sum([1], [1]), [1, 5])
        self.assert_figures(address_sum([0, 0], [0]), [])
        self.assert_figures(address_sum([1, 6, 4], []), [1, 6, 4])
        self.assert_figures(address_sum([0, 1], [0, 0, 4]), [])
        self.assert_figures(address_sum([2, 0, 0], [5]), [2, 0, 5])

    def test_by_the_places(self):
        self.assert_by_places(address_sum, plus, ANY_LISTS)

    def test_somewhat_longer_than_two_hundred(self):
        self.assert_figures(address_sum([6] * 220, [0] * 30), [6] * 220)

    def test_no_figures_are_refused(self):
        self.assert_no_figures_refused(address_sum)
        self.assert_refused(NoFigure, address_sum, [1] * 199 + [7], [1] * 200)
        self.assert_refused(NoFigure, address_sum, [1] * 200, [-1] + [1] * 199)


class Differences(AddressCase):
    def test_written_out(self):
        self.assert_figures(address_less([], []), [])
        self.assert_figures(address_less([], [1]), [4])
        self.assert_figures(address_less([1], []), [1])
        self.assert_figures(address_less([1, 5], [1]), [1])
        self.assert_figures(address_less([1], [1, 5]), [4])
        self.assert_figures(address_less([0, 0, 1], [0, 1]), [])

    def test_by_the_places(self):
        self.assert_by_places(address_less, minus, ANY_LISTS)

    def test_less_itself_is_the_empty_list(self):
        for figures in ANY_LISTS:
            self.assert_figures(address_less(figures, figures), [])
            self.assert_figures(address_less(figures, [0, 0] + figures), [])

    def test_it_undoes_a_sum(self):
        for one in ANY_LISTS:
            for other in ANY_LISTS:
                self.assertEqual(address_less(address_sum(one, other), other), without_noughts_ahead(one))

    def test_no_figures_are_refused(self):
        self.assert_no_figures_refused(address_less)


class Products(AddressCase):
    def test_written_out(self):
        self.assert_figures(address_product([], []), [])
        self.assert_figures(address_product([], [1, 2, 3]), [])
        self.assert_figures(address_product([1, 2, 3], [0, 0]), [])
        self.assert_figures(address_product([1], [1, 2, 3]), [1, 2, 3])
        self.assert_figures(address_product([2], [2]), [3])
        self.assert_figures(address_product([1, 0], [1, 6, 4]), [1, 6, 4, 0])
        self.assert_figures(address_product([0, 4], [0, 1, 6, 4]), [4, 3, 1])

    def test_by_the_places(self):
        self.assert_by_places(address_product, times, LISTS_OF_FORTY)

    def test_longer_than_forty(self):
        self.assert_by_places(address_product, times, some_lists((45, 60, 200)))
        self.assert_figures(address_product([0] * 198 + [1, 0], [0] * 160 + [5] * 40), [5] * 40 + [0])

    def test_no_figures_are_refused(self):
        self.assert_no_figures_refused(address_product)


class Turns(FloorCase):
    def test_written_out(self):
        self.assert_figures(address_turned([], 1), [])
        self.assert_figures(address_turned([0, 0], 5), [])
        self.assert_figures(address_turned([1], 1), [2])
        self.assert_figures(address_turned([1], -1), [6])
        self.assert_figures(address_turned([0, 1, 0, 6], 2), [3, 0, 2])
        self.assert_figures(address_turned([1, 0, 6], 7), [2, 0, 1])

    def test_by_the_places(self):
        for figures in ANY_LISTS:
            place = place_by_words(figures)
            for sixths in SIXTHS:
                told = address_turned(figures, sixths)
                self.assert_figures(told, address_by_words(turned_so(place, sixths)))

    def test_six_sixths_bring_it_back(self):
        for figures in ANY_LISTS:
            for sixths in (0, 6, -6, 600, 6 * LONG, -6 * LONG):
                self.assert_figures(address_turned(figures, sixths), without_noughts_ahead(figures))

    def test_no_figures_are_refused(self):
        for number in NO_FIGURES:
            for sixths in (0, 1, -1, 6):
                self.assert_refused(NoFigure, address_turned, [number], sixths)
                self.assert_refused(NoFigure, address_turned, [1, 2, number], sixths)
                self.assert_refused(NoFigure, address_turned, [number] + [3] * 199, sixths)


class GreatOnes(FloorCase):
    def test_written_out(self):
        self.assert_figures(address_great([]), [])
        self.assert_figures(address_great([0]), [])
        self.assert_figures(address_great([0, 0, 0]), [])
        self.assert_figures(address_great([1]), [1, 0])
        self.assert_figures(address_great([0, 0, 5, 6]), [5, 6, 0])

    def test_by_the_places(self):
        for figures in ANY_LISTS:
            told = address_great(figures)
            self.assert_figures(told, address_by_words(great_step(place_by_words(figures))))

    def test_no_figures_are_refused(self):
        for number in NO_FIGURES:
            self.assert_refused(NoFigure, address_great, [number])
            self.assert_refused(NoFigure, address_great, [1, 2, number])
            self.assert_refused(NoFigure, address_great, [number] + [3] * 199)


class HandedIn(FloorCase):
    def test_stays_as_it_was(self):
        for one in LISTS_OF_FORTY:
            for other in LISTS_OF_FORTY:
                handed_in = (list(one), list(other))
                for call in (address_sum, address_less, address_product):
                    call(handed_in[0], handed_in[1])
                    self.assertEqual(handed_in, (one, other))
        for figures in ANY_LISTS:
            handed_in = list(figures)
            address_turned(handed_in, 0)
            address_turned(handed_in, 2)
            address_great(handed_in)
            self.assertEqual(handed_in, figures)

    def test_what_is_told_is_another_list(self):
        figures = [1, 6, 4]
        for told in (
            address_sum(figures, []), address_less(figures, []), address_product(figures, [1]),
            address_turned(figures, 0), address_great(figures),
        ):
            told.append(9)
            told[0] = 9
            self.assertEqual(figures, [1, 6, 4])
        self.assertEqual(address_sum(figures, []), [1, 6, 4])
        self.assertEqual(address_turned(figures, 6), [1, 6, 4])


if __name__ == "__main__":
    unittest.main()
