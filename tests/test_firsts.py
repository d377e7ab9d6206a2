import itertools
import unittest

from figurewheel.figures import column_of, numbers_of
from figurewheel.firsts import first_of
from figurewheel.joining import both, either, no
from figurewheel.leaves import place_is, sign_is, sums
from figurewheel.machines import machine_of, sign_of
from figurewheel.relations import takes
from tests.making import drawing, drawn_relation, short_lists

WIDTHS = [(2, ""), (2, "x"), (2, "xy"), (2, "xyz"), (2, "wxyz"), (3, "x"), (3, "xy"), (4, "x"), (4, "xy"), (5, "x"), (5, "xy")]


class FirstOf(unittest.TestCase):
    def test_no_names(self):
        for base in [2, 3, 4, 5]:
            self.assertEqual(first_of((base, (), (((0,),), (1,)))), [])
            self.assertIsNone(first_of((base, (), (((0,),), (0,)))))

    def test_none(self):
        for base in [2, 3, 4, 5]:
            self.assertIsNone(first_of(sums(base, ["x"], ["x"], "<")))
            self.assertIsNone(first_of(both(sums(base, ["x"], ["y"], "<"), sums(base, ["y"], ["x"], "<"))))

    def test_0s(self):
        for base in [2, 3, 4, 5]:
            self.assertEqual(first_of(sums(base, ["x"], ["y"], "=")), [0, 0])
            self.assertEqual(first_of(place_is(base, "x", 0)), [0])
            self.assertEqual(first_of(sums(base, ["x"], ["x"], "=")), [0])

    def test_one_name_has_the_least_place(self):
        draw = drawing(111)
        row = machine_of([[0, 1], [1, 0]], [0, 1])
        self.assertEqual(first_of(sign_is(row, "n", 1)), [1])
        for base, place in itertools.product([2, 3, 4, 5], [1, 2, 3, 17, 100]):
            self.assertEqual(first_of(place_is(base, "x", place)), [place])
            self.assertEqual(first_of(either(place_is(base, "x", place), place_is(base, "x", place + 40))), [place])
            great = base ** 97 + draw.randrange(base ** 97)
            self.assertEqual(first_of(place_is(base, "x", great)), [great])
        for index in range(40):
            relation = drawn_relation(draw, 3, "x", 6)
            places = [place for place in range(3 ** 6) if takes(relation, [place])]
            self.assertEqual(first_of(relation), places[:1] or None)

    def test_in_the_names_order(self):
        relation = both(place_is(3, "b", 7), place_is(3, "a", 2))
        self.assertEqual(first_of(relation), [2, 7])

    def test_a_shorter_list_beside_a_longer_one(self):
        # (0, 4) has three figures, (3, 3) two, though its first place is greater.
        one = both(place_is(2, "x", 0), place_is(2, "y", 4))
        other = both(place_is(2, "x", 3), place_is(2, "y", 3))
        self.assertEqual(first_of(either(one, other)), [3, 3])

    def test_two_lists_as_long(self):
        # The first unlike column tells: x's figure in it, then y's; not the greater place, nor x alone.
        one = both(place_is(2, "x", 4), place_is(2, "y", 0))
        other = both(place_is(2, "x", 3), place_is(2, "y", 7))
        self.assertEqual(first_of(either(one, other)), [3, 7])
        one = both(place_is(2, "x", 5), place_is(2, "y", 4))
        other = both(place_is(2, "x", 4), place_is(2, "y", 7))
        self.assertEqual(first_of(either(one, other)), [5, 4])
        one = both(place_is(2, "x", 4), place_is(2, "y", 6))
        other = both(place_is(2, "x", 6), place_is(2, "y", 5))
        self.assertEqual(first_of(either(one, other)), [4, 6])

    def test_drawn_relations(self):
        draw = drawing(112)
        taken = 0
        for base, names in WIDTHS:
            letters = base ** len(names)
            for index in range(25):
                relation = drawn_relation(draw, base, names, draw.randrange(1, 5 if letters > 4 else 7))
                if draw.random() < 0.5:
                    relation = both(relation, no(drawn_relation(draw, base, names, 2)))
                longest = {1: 1, 2: 9, 3: 6, 4: 5, 5: 5}.get(letters, 3)
                lists = (told for told in short_lists(letters, longest) if sign_of(relation[2], told) == 1)
                first = next(lists, None)
                told = first_of(relation)
                if first is not None:
                    taken += 1
                    columns = [column_of(code, len(names), base) for code in first]
                    self.assertEqual((told, type(told)), (numbers_of(columns, len(names), base), list))
                    self.assertTrue(takes(relation, told))
                elif told is not None:
                    self.assertTrue(takes(relation, told))
                    self.assertTrue(max(told) >= base ** longest)
                else:
                    self.assertEqual(set(relation[2][1]), {0})
        self.assertGreater(taken, 150)

    def test_what_is_told_is_the_asker_s_own(self):
        for relation, told in [(place_is(2, "x", 9), [9]), ((2, (), (((0,),), (1,))), [])]:
            first_of(relation).append(5)
            self.assertEqual(first_of(relation), told)


if __name__ == "__main__":
    unittest.main()
