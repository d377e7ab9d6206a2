import itertools
import unittest

from figurewheel.errors import NoName
from figurewheel.relations import takes, takes_by
from tests.making import GREAT, SIXTY

NEVER = (2, (), (((0,),), (0,)))
ALWAYS = (2, (), (((0,),), (1,)))

# x is even.
EVEN = (2, ("x",), (((0, 1), (0, 1)), (1, 0)))
# x = y, by each base; by base 5 of 25 letters.
EQUAL = {
    base: (base, ("x", "y"), (
        (tuple(0 if code // base == code % base else 1 for code in range(base ** 2)), (1,) * base ** 2), (1, 0)))
    for base in [2, 3, 4, 5]
}


def less(base, many, first, second):
    """Of many places the one numbered first is less than the one numbered second."""
    names = tuple("abcd"[:many])
    columns = list(itertools.product(range(base), repeat=many))
    row = tuple(0 if column[first] == column[second] else 1 if column[first] < column[second] else 2 for column in columns)
    return (base, names, ((row, (1,) * len(columns), (2,) * len(columns)), (0, 1, 0)))


class Takes(unittest.TestCase):
    def assert_takes(self, relation, places, told):
        kept = list(places)
        self.assertIs(takes(relation, places), told)
        self.assertEqual(places, kept)
        known = dict(zip(relation[1], places))
        self.assertIs(takes_by(relation, known), told)
        self.assertIs(takes_by(relation, {"zz": 3, **known, "aa": 4}), told)
        self.assertEqual(known, dict(zip(relation[1], kept)))

    def test_no_names(self):
        for base in [2, 3, 4, 5]:
            self.assert_takes((base,) + NEVER[1:], [], False)
            self.assert_takes((base,) + ALWAYS[1:], [], True)

    def test_one_name(self):
        for place in list(range(50)) + GREAT:
            self.assert_takes(EVEN, [place], place % 2 == 0)

    def test_two_names(self):
        places = [0, 1, 2, 3, 4, 7, 8, 9, 27, 63, 125, 126, 10 ** 30, SIXTY - 1, SIXTY]
        for base in [2, 3, 4, 5]:
            for one, other in itertools.product(places, repeat=2):
                self.assert_takes(EQUAL[base], [one, other], one == other)
                self.assert_takes(less(base, 2, 0, 1), [one, other], one < other)
                self.assert_takes(less(base, 2, 1, 0), [one, other], other < one)

    def test_three_and_four_names(self):
        places = [0, 1, 5, 64, SIXTY]
        for base, many in [(2, 3), (3, 3), (4, 3), (2, 4)]:
            for told in itertools.product(places, repeat=many):
                for first, second in itertools.permutations(range(many), 2):
                    self.assertIs(takes(less(base, many, first, second), list(told)), told[first] < told[second])
            self.assert_takes(less(base, many, 0, many - 1), [1, 0, 5, 2][:many - 1] + [SIXTY], True)

    def test_unlike_numbers_of_figures(self):
        self.assert_takes(less(2, 2, 0, 1), [1, 2 ** 190], True)
        self.assert_takes(less(2, 2, 0, 1), [2 ** 190, 1], False)
        self.assert_takes(EQUAL[2], [1, 2 ** 190 + 1], False)
        self.assert_takes(EQUAL[3], [0, 3 ** 120], False)


class TakesBy(unittest.TestCase):
    def lacking(self, relation, known, name):
        kept = dict(known)
        with self.assertRaises(NoName) as caught:
            takes_by(relation, known)
        self.assertEqual(caught.exception.name, name)
        self.assertEqual(known, kept)

    def test_the_names_order_and_not_the_dict_s(self):
        self.assertTrue(takes_by(less(2, 2, 0, 1), {"b": 5, "a": 3}))
        self.assertFalse(takes_by(less(2, 2, 0, 1), {"b": 3, "a": 5}))
        self.assertTrue(takes_by(less(2, 4, 3, 1), {"d": 1, "c": 0, "b": 2, "a": 0}))

    def test_other_names_beside(self):
        self.assertTrue(takes_by(ALWAYS, {"x": 3}))
        self.assertFalse(takes_by(NEVER, {"x": 3}))
        self.assertTrue(takes_by(EVEN, {"a": 1, "x": 6, "y": 7, "xx": 5}))

    def test_names_lacking(self):
        self.lacking(EVEN, {}, "x")
        self.lacking(EVEN, {"y": 0, "xx": 2}, "x")
        self.lacking(less(2, 2, 0, 1), {"a": 1}, "b")
        self.lacking(less(2, 2, 0, 1), {"b": 1}, "a")
        self.lacking(less(2, 2, 0, 1), {"c": 1}, "a")
        self.lacking(less(2, 4, 0, 1), {"a": 1, "c": 2}, "b")
        self.lacking(less(2, 4, 0, 1), {"a": 1, "b": 2}, "c")
        self.lacking(less(2, 4, 0, 1), {"c": 1, "b": 2, "a": 0}, "d")

    def test_the_place_0_is_not_lacking(self):
        self.assertTrue(takes_by(EVEN, {"x": 0}))
        self.assertTrue(takes_by(EQUAL[5], {"x": 0, "y": 0}))


if __name__ == "__main__":
    unittest.main()
