import itertools
import unittest

from figurewheel.errors import NoBase
from figurewheel.figures import code_of, column_of, columns_of, figures_of, number_of, numbers_of

BASES = [2, 3, 4, 5]
SIXTY = 10 ** 60 - 1
NO_BASES = [1, 0, -1, -2, -5, 6, 7, 10, 10 ** 59, SIXTY, -(10 ** 59), -SIXTY]
GREAT = [10 ** 59, SIXTY, SIXTY - 1, 2 ** 199, 3 ** 125, 4 ** 99, 5 ** 85, 5 ** 85 - 1]


def worth(figures, base):
    return sum(figure * base ** power for power, figure in enumerate(reversed(figures)))


class Bases(unittest.TestCase):
    def refused(self, asked, *handed):
        for base in NO_BASES:
            with self.subTest(asked=asked.__name__, handed=handed, base=base):
                with self.assertRaises(NoBase):
                    asked(*handed, base)

    def test_figures_of(self):
        for place in [0, 1, 12, SIXTY]:
            self.refused(figures_of, place)

    def test_number_of(self):
        for figures in [[], [0], [1], [1, 0, 1]]:
            self.refused(number_of, figures)

    def test_columns_of(self):
        for places in [[], [0], [0, 0], [1], [5, 0, 3], [1, 2, 3, SIXTY]]:
            self.refused(columns_of, places)

    def test_numbers_of(self):
        self.refused(numbers_of, [], 0)
        self.refused(numbers_of, [], 3)
        self.refused(numbers_of, [()], 0)
        self.refused(numbers_of, [(1,), (0,)], 1)
        self.refused(numbers_of, [(1, 0), (0, 1)], 2)

    def test_code_of(self):
        for column in [(), (0,), (1,), (1, 0, 1, 1)]:
            self.refused(code_of, column)

    def test_column_of(self):
        self.refused(column_of, 0, 0)
        self.refused(column_of, 0, 2)
        self.refused(column_of, 3, 2)

    def test_each_base_is_taken(self):
        for base in BASES:
            self.assertEqual(figures_of(base, base), [1, 0])
            self.assertEqual(number_of([1, 0], base), base)
            self.assertEqual(columns_of([base, 1], base), [(1, 0), (0, 1)])
            self.assertEqual(numbers_of([(1, 0), (0, 1)], 2, base), [base, 1])
            self.assertEqual(code_of((1, 0), base), base)
            self.assertEqual(column_of(base, 2, base), (1, 0))

    def test_base_left_out_is_2(self):
        self.assertEqual(figures_of(6), [1, 1, 0])
        self.assertEqual(number_of([1, 1, 0]), 6)
        self.assertEqual(columns_of([6, 1]), [(1, 0), (1, 0), (0, 1)])
        self.assertEqual(numbers_of([(1, 0), (1, 0), (0, 1)], 2), [6, 1])
        self.assertEqual(code_of((1, 1, 0)), 6)
        self.assertEqual(column_of(6, 4), (0, 1, 1, 0))


class Figures(unittest.TestCase):
    def test_place_0_has_no_figures(self):
        for base in BASES:
            self.assertEqual(figures_of(0, base), [])
            self.assertEqual(number_of([], base), 0)

    def test_told_places(self):
        self.assertEqual(figures_of(1, 2), [1])
        self.assertEqual(figures_of(10, 2), [1, 0, 1, 0])
        self.assertEqual(figures_of(10, 3), [1, 0, 1])
        self.assertEqual(figures_of(27, 4), [1, 2, 3])
        self.assertEqual(figures_of(194, 5), [1, 2, 3, 4])

    def assert_figures(self, place, base):
        figures = figures_of(place, base)
        self.assertIs(type(figures), list)
        self.assertTrue(all(0 <= figure < base for figure in figures))
        self.assertNotEqual(figures[:1], [0])
        self.assertEqual(worth(figures, base), place)
        self.assertEqual(number_of(figures, base), place)

    def test_small_places(self):
        for base in BASES:
            for place in range(700):
                self.assert_figures(place, base)

    def test_great_places(self):
        for base in BASES:
            for place in GREAT:
                self.assert_figures(place, base)

    def test_edges_of_powers(self):
        for base in BASES:
            for power in [1, 2, 5, 60, 84]:
                self.assertEqual(figures_of(base ** power, base), [1] + [0] * power)
                self.assertEqual(figures_of(base ** power - 1, base), [base - 1] * power)

    def test_0s_ahead_change_no_number(self):
        for base in BASES:
            for place in [0, 1, 2, 34] + GREAT:
                for many in [1, 2, 50]:
                    self.assertEqual(number_of([0] * many + figures_of(place, base), base), place)

    def test_three_hundred_figures(self):
        for base in BASES:
            figures = [base - 1] * 300
            self.assertEqual(number_of(figures, base), base ** 300 - 1)
            self.assertEqual(figures_of(number_of(figures, base), base), figures)
            self.assertEqual(number_of([0] * 300, base), 0)

    def test_what_is_handed_in_stays(self):
        figures = [0, 1, 0, 1]
        number_of(figures)
        self.assertEqual(figures, [0, 1, 0, 1])

    def test_what_is_told_is_the_asker_s_own(self):
        for place in [0, 5]:
            told = figures_of(place)
            kept = list(told)
            told.append(1)
            told[0] = 7
            self.assertEqual(figures_of(place), kept)


class Columns(unittest.TestCase):
    def test_no_columns(self):
        for base in BASES:
            for many in range(5):
                self.assertEqual(columns_of([0] * many, base), [])

    def test_numbers_of_no_columns(self):
        for base in BASES:
            for many in range(5):
                self.assertEqual(numbers_of([], many, base), [0] * many)

    def test_told_columns(self):
        self.assertEqual(columns_of([5], 2), [(1,), (0,), (1,)])
        self.assertEqual(columns_of([5, 1], 2), [(1, 0), (0, 0), (1, 1)])
        self.assertEqual(columns_of([1, 5], 2), [(0, 1), (0, 0), (1, 1)])
        self.assertEqual(columns_of([0, 11, 2], 3), [(0, 1, 0), (0, 0, 0), (0, 2, 2)])
        self.assertEqual(columns_of([3, 0, 6, 17], 4), [(0, 0, 0, 1), (0, 0, 1, 0), (3, 0, 2, 1)])
        self.assertEqual(columns_of([24, 5], 5), [(4, 1), (4, 0)])

    def assert_columns(self, places, base):
        columns = columns_of(places, base)
        self.assertIs(type(columns), list)
        self.assertTrue(all(type(column) is tuple and len(column) == len(places) for column in columns))
        self.assertEqual(len(columns), max(len(figures_of(place, base)) for place in places))
        for index, place in enumerate(places):
            self.assertEqual(worth([column[index] for column in columns], base), place)
        self.assertEqual(numbers_of(columns, len(places), base), places)

    def test_one_to_four_small_places(self):
        for base in BASES:
            for many, below in [(1, 130), (2, 27), (3, 7), (4, 6)]:
                for places in itertools.product(range(below), repeat=many):
                    self.assert_columns(list(places), base)

    def test_great_places(self):
        for base in BASES:
            for places in [[SIXTY], [0, SIXTY], [SIXTY, 1], [SIXTY, 10 ** 59, 0], [1, 10 ** 30, SIXTY, 5]]:
                self.assert_columns(places, base)

    def test_columns_of_0s_ahead(self):
        for base in BASES:
            for places in [[0], [3], [4, 9], [0, 7, 1], [SIXTY, 0, 1, 12]]:
                for many in [1, 3]:
                    ahead = [(0,) * len(places)] * many
                    self.assertEqual(numbers_of(ahead + columns_of(places, base), len(places), base), places)

    def test_columns_without_figures(self):
        for base in BASES:
            self.assertEqual(numbers_of([()] * 3, 0, base), [])

    def test_three_hundred_columns(self):
        for base in BASES:
            columns = [(base - 1, 0, 1)] * 300
            all_ones = (base ** 300 - 1) // (base - 1)
            told = numbers_of(columns, 3, base)
            self.assertEqual(told, [base ** 300 - 1, 0, all_ones])
            self.assertEqual(columns_of(told, base), columns)

    def test_what_is_handed_in_stays(self):
        places = [5, 0, 9]
        columns_of(places)
        self.assertEqual(places, [5, 0, 9])
        columns = [(0, 0), (1, 0), (1, 1)]
        numbers_of(columns, 2)
        self.assertEqual(columns, [(0, 0), (1, 0), (1, 1)])

    def test_what_is_told_is_the_asker_s_own(self):
        for places in [[], [0, 0], [6, 1]]:
            columns = columns_of(places)
            kept = list(columns)
            columns.append((1, 1))
            self.assertEqual(columns_of(places), kept)
        for many in [0, 2]:
            numbers = numbers_of([], many)
            numbers.append(4)
            self.assertEqual(numbers_of([], many), [0] * many)


class Codes(unittest.TestCase):
    def test_the_column_without_figures(self):
        for base in BASES:
            self.assertEqual(code_of((), base), 0)
            self.assertEqual(column_of(0, 0, base), ())

    def test_told_codes(self):
        self.assertEqual(code_of((1, 0), 2), 2)
        self.assertEqual(code_of((0, 1), 2), 1)
        self.assertEqual(code_of((0, 2, 1), 3), 7)
        self.assertEqual(code_of((3, 0, 2), 4), 50)
        self.assertEqual(code_of((1, 2, 3, 4), 5), 194)
        self.assertEqual(column_of(7, 3, 3), (0, 2, 1))
        self.assertEqual(column_of(50, 3, 4), (3, 0, 2))
        self.assertEqual(column_of(194, 4, 5), (1, 2, 3, 4))

    def test_all_codes(self):
        for base in BASES:
            for many in range(5):
                # product tells the columns in the order of their codes.
                columns = list(itertools.product(range(base), repeat=many))
                self.assertEqual([code_of(column, base) for column in columns], list(range(base ** many)))
                self.assertEqual([column_of(code, many, base) for code in range(base ** many)], columns)

    def test_a_column_is_a_tuple(self):
        for many in range(5):
            self.assertIs(type(column_of(0, many)), tuple)
            self.assertEqual(column_of(0, many), (0,) * many)


if __name__ == "__main__":
    unittest.main()
