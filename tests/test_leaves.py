import itertools
import unittest

from figurewheel.errors import NoBase, NotLike, TooGreat, TooWide
from figurewheel.leaves import place_is, sign_is, signs_like, sums
from figurewheel.least import least
from figurewheel.machines import machine_of, sign_at
from figurewheel.relations import takes, takes_by
from tests.making import (
    GREAT, SIXTY, adding, copied, drawing, drawn_machine, drawn_places, is_relation, only_at, pairs_met, refusal_of,
    rest_by,
)

TURNS = machine_of([[0, 1], [1, 0]], [0, 1])
NO_BASES = [1, 0, -1, 6, 7, SIXTY]


class SignIs(unittest.TestCase):
    def test_told_relation(self):
        self.assertEqual(sign_is(TURNS, "n", 1), (2, ("n",), (((0, 1), (1, 0)), (0, 1))))
        self.assertEqual(sign_is(TURNS, "n", 0), (2, ("n",), (((0, 1), (1, 0)), (1, 0))))

    def test_beside_the_row(self):
        draw = drawing(71)
        for base, rooms in itertools.product([2, 3, 4, 5], [1, 3, 20, 100]):
            row = drawn_machine(draw, rooms, base)
            for sign in range(10):
                relation = sign_is(row, "place", sign)
                self.assertTrue(is_relation(relation))
                self.assertEqual(relation[:2], (base, ("place",)))
                for place in list(range(80)) + GREAT + drawn_places(draw, 5):
                    self.assertIs(takes(relation, [place]), sign_at(row, place) == sign)

    def test_a_sign_that_never_comes(self):
        self.assertEqual(sign_is(TURNS, "n", 7), (2, ("n",), (((0, 0),), (0,))))

    def test_a_hundred_rooms(self):
        row = only_at(2 ** 97 + 1, 2)
        self.assertEqual(sign_is(row, "x", 1)[2], least(row))

    def test_no_base(self):
        for letters in [1, 6, 64]:
            self.assertRaises(NoBase, sign_is, adding(4, letters), "n", 0)


class SignsLike(unittest.TestCase):
    def assert_like(self, row, name, other, second, draw):
        relation = signs_like(row, name, other, second)
        self.assertTrue(is_relation(relation))
        self.assertEqual(relation[:2], (len(row[0][0]), tuple(sorted({name, second}))))
        small = list(itertools.product(range(12), repeat=2))
        great = [(place, draw.choice(GREAT + [0, 5])) for place in GREAT + drawn_places(draw, 5)]
        for one, two in small + great + [(two, one) for one, two in great]:
            known = {second: two, name: one}
            told = sign_at(row, known[name]) == sign_at(other, known[second])
            self.assertIs(takes_by(relation, known), told)
        return relation

    def test_two_names_in_both_orders(self):
        draw = drawing(72)
        for base, index in itertools.product([2, 3, 4, 5], range(6)):
            row = drawn_machine(draw, draw.randrange(1, 11), base, 3)
            other = drawn_machine(draw, draw.randrange(1, 11), base, 3)
            self.assert_like(row, "a", other, "b", draw)
            self.assert_like(row, "b", other, "a", draw)
            self.assert_like(row, "n", row, "m", draw)

    def test_one_name(self):
        draw = drawing(73)
        for base, index in itertools.product([2, 3, 4, 5], range(6)):
            row = drawn_machine(draw, draw.randrange(1, 11), base, 3)
            other = drawn_machine(draw, draw.randrange(1, 11), base, 3)
            self.assert_like(row, "n", other, "n", draw)
            self.assertEqual(signs_like(row, "n", row, "n"), (base, ("n",), (((0,) * base,), (1,))))

    def test_one_name_has_fewer_pairs(self):
        # As many pairs as rooms where both are read at the same place.
        row = only_at(3 ** 97 + 1, 3)
        self.assertEqual(signs_like(row, "n", row, "n"), (3, ("n",), (((0, 0, 0),), (1,))))
        self.assertRaises(TooGreat, signs_like, row, "n", row, "m")

    def test_not_like(self):
        for one, other in itertools.permutations([2, 3, 4, 5], 2):
            for second in ["n", "m"]:
                self.assertRaises(NotLike, signs_like, adding(2, one), "n", adding(2, other), second)
                self.assertRaises(NotLike, signs_like, only_at(one ** 97, one), "n", only_at(other ** 97, other), second)

    def test_no_base_ahead_of_not_like(self):
        for letters in [1, 6, 64]:
            machine = adding(3, letters)
            for one, other in [(machine, TURNS), (TURNS, machine), (machine, machine)]:
                self.assertRaises(NoBase, signs_like, one, "n", other, "m")

    def test_just_100_pairs_of_two_names(self):
        draw = drawing(74)
        for base in [2, 3, 4, 5]:
            row = only_at(base ** 7 + 1, base)
            self.assertEqual(len(least(row)[0]), 10)
            self.assert_like(row, "x", row, "y", draw)
            self.assert_like(rest_by(4, 3, [0, 1, 2, 3]), "x", rest_by(25, 3), "y", draw)
            # 10 rooms with 11, 4 with 26.
            self.assertRaises(TooGreat, signs_like, row, "x", only_at(base ** 8 + 1, base), "y")
            self.assertRaises(TooGreat, signs_like, rest_by(4, 3), "x", rest_by(26, 3), "y")

    def test_just_100_pairs_of_one_name_and_one_more(self):
        draw = drawing(75)
        columns = [(0, 0), (1, 1)]
        one, other, longer = only_at(2 ** 96 + 6, 2), only_at(2 ** 96 + 7, 2), only_at(2 ** 97 + 7, 2)
        self.assertEqual(pairs_met(one, other, columns), 100)
        self.assert_like(one, "n", other, "n", draw)
        self.assertEqual(pairs_met(only_at(2 ** 97 + 6, 2), longer, columns), 101)
        self.assertRaises(TooGreat, signs_like, only_at(2 ** 97 + 6, 2), "n", longer, "n")

    def test_pairs_of_the_least_forms_count(self):
        draw = drawing(76)
        row, other = drawn_machine(draw, 9, 2, 4), drawn_machine(draw, 11, 2, 4)
        told = signs_like(row, "x", other, "y")
        self.assertEqual(signs_like(copied(draw, row, 11), "x", copied(draw, other, 9), "y"), told)

    def test_pairs_count_though_the_relation_is_small(self):
        # The rows have no sign in common, so no places are taken; yet with 11 rooms each there are 121 pairs.
        row, other = only_at(2 ** 8 + 1, 2), rest_by(11, 2, [5] * 10 + [6])
        self.assertEqual(len(signs_like(row, "x", machine_of([[0, 0]], [5]), "y")[2][0]), 1)
        self.assertRaises(TooGreat, signs_like, row, "x", other, "y")


class Sums(unittest.TestCase):
    def assert_sums(self, base, left, right, word, draw):
        kept = (list(left), list(right))
        relation = sums(base, left, right, word)
        self.assertEqual((left, right), kept)
        self.assertTrue(is_relation(relation))
        names = tuple(sorted(set(left + right)))
        self.assertEqual(relation[:2], (base, names))
        below = {1: 40, 2: 14, 3: 6, 4: 4}[len(names)]
        places = list(itertools.product(range(below), repeat=len(names)))
        places += [tuple(drawn_places(draw, len(names))) for index in range(5)]
        for told in places:
            known = dict(zip(names, told))
            one, other = sum(known[name] for name in left), sum(known[name] for name in right)
            self.assertIs(takes(relation, list(told)), one == other if word == "=" else one < other)
        return relation

    def test_told_relations(self):
        draw = drawing(77)
        relation = self.assert_sums(2, ["n", "n"], ["m"], "=", draw)
        self.assertTrue(takes_by(relation, {"n": 10 ** 50, "m": 2 * 10 ** 50}))
        self.assertFalse(takes_by(relation, {"n": 10 ** 50, "m": 2 * 10 ** 50 + 1}))
        relation = self.assert_sums(2, ["x", "y"], ["z"], "<", draw)
        self.assertTrue(takes_by(relation, {"x": SIXTY, "y": SIXTY, "z": 2 * SIXTY + 1}))
        self.assertFalse(takes_by(relation, {"x": SIXTY, "y": SIXTY, "z": 2 * SIXTY}))

    def test_all_lists_by_base_2(self):
        draw = drawing(78)
        sides = [list(side) for many in [1, 2, 3] for side in itertools.combinations_with_replacement("abcd", many)]
        for left, right in itertools.product(sides, repeat=2):
            if draw.random() < 0.12:
                self.assert_sums(2, draw.sample(left, len(left)), draw.sample(right, len(right)), draw.choice("=<"), draw)

    def test_other_bases(self):
        draw = drawing(79)
        for base, names in [(3, "abc"), (4, "abc"), (5, "ab")]:
            sides = [list(side) for many in [1, 2, 3] for side in itertools.combinations_with_replacement(names, many)]
            for left, right in itertools.product(sides, repeat=2):
                if draw.random() < 0.2:
                    self.assert_sums(base, left, right, draw.choice("=<"), draw)

    def test_near_places_of_great_sums(self):
        draw = drawing(80)
        for base, word, more in itertools.product([2, 3, 4, 5], "=<", [-2, -1, 0, 1, 2]):
            relation = sums(base, ["a", "a", "a"], ["b"], word)
            for place in drawn_places(draw, 4):
                if 3 * place + more >= 0:
                    self.assertIs(takes(relation, [place, 3 * place + more]), more == 0 if word == "=" else more > 0)

    def test_one_name_on_both_sides(self):
        for base in [2, 3, 4, 5]:
            every = ((0,) * base,)
            self.assertEqual(sums(base, ["x"], ["x"], "="), (base, ("x",), (every, (1,))))
            self.assertEqual(sums(base, ["x"], ["x"], "<"), (base, ("x",), (every, (0,))))
            self.assertEqual(sums(base, ["x", "x", "x"], ["x", "x", "x"], "="), (base, ("x",), (every, (1,))))
            # x + x = x at the place 0 alone; x < x + x at all others.
            self.assertEqual(sums(base, ["x", "x"], ["x"], "="), place_is(base, "x", 0))
            self.assertEqual([takes(sums(base, ["x"], ["x", "x"], "<"), [n]) for n in [0, 1, SIXTY]], [False, True, True])

    def test_equal_relations(self):
        self.assertEqual(sums(2, ["x", "y"], ["z"], "="), sums(2, ["z"], ["y", "x"], "="))
        self.assertEqual(sums(3, ["x", "y"], ["y", "z"], "<"), (3, ("x", "y", "z"), sums(3, ["y", "x"], ["z", "y"], "<")[2]))

    def test_names_not_in_rising_order(self):
        draw = drawing(81)
        for names in itertools.permutations(["b", "ab", "zz"]):
            self.assert_sums(2, [names[0]], [names[1], names[2]], "=", draw)
            self.assert_sums(3, [names[0], names[1]], [names[2]], "<", draw)

    def test_no_base_ahead_of_too_wide(self):
        for base in NO_BASES:
            for word in "=<":
                self.assertRaises(NoBase, sums, base, ["a"], ["b"], word)
                self.assertRaises(NoBase, sums, base, list("abc"), list("def"), word)

    def test_too_wide(self):
        for base, most in [(2, 4), (3, 3), (4, 3), (5, 2)]:
            for many in range(2, 7):
                names = list("abcdef"[:many])
                left, right = names[:many // 2], names[many // 2:]
                for word in "=<":
                    error = refusal_of(sums, base, left, right, word)
                    if many <= most:
                        self.assertIsNone(error)
                    else:
                        self.assertIsInstance(error, TooWide)
                        self.assertEqual(error.many, many)

    def test_too_wide_counts_unlike_names(self):
        self.assertEqual(refusal_of(sums, 5, ["a", "b", "a"], ["c", "b", "c"], "=").many, 3)
        self.assertEqual(refusal_of(sums, 2, ["a", "b", "c"], ["e", "d", "d"], "<").many, 5)
        self.assertIsNone(refusal_of(sums, 5, ["a", "b", "a"], ["b", "b", "a"], "="))

    def test_lists_somewhat_longer(self):
        draw = drawing(82)
        for base in [2, 3, 4, 5]:
            self.assert_sums(base, ["a"] * 5, ["b"], "=", draw)
            self.assert_sums(base, ["a"] * 4 + ["b"], ["b"] * 5, "<", draw)


class PlaceIs(unittest.TestCase):
    def test_told_relations(self):
        self.assertEqual(place_is(2, "n", 0), (2, ("n",), (((0, 1), (1, 1)), (1, 0))))
        self.assertEqual(place_is(2, "n", 2), (2, ("n",), (((0, 1), (2, 3), (3, 3), (3, 3)), (0, 0, 1, 0))))

    def test_small_places(self):
        for base in [2, 3, 4, 5]:
            for place in range(40):
                relation = place_is(base, "name", place)
                self.assertTrue(is_relation(relation))
                self.assertEqual(relation[:2], (base, ("name",)))
                self.assertEqual([takes(relation, [other]) for other in range(150)], [other == place for other in range(150)])

    def test_98_figures_and_99(self):
        draw = drawing(83)
        for base in [2, 3, 4, 5]:
            for place in [base ** 97, base ** 98 - 1, base ** 97 + draw.randrange(base ** 97)]:
                relation = place_is(base, "x", place)
                self.assertTrue(is_relation(relation))
                self.assertEqual(len(relation[2][0]), 100)
                near = [0, 1, place - 1, place, place + 1, place + base ** 98, place // base, place * base]
                self.assertEqual([takes(relation, [other]) for other in near], [other == place for other in near])
            for place in [base ** 98, base ** 99 - 1, base ** 120]:
                self.assertRaises(TooGreat, place_is, base, "x", place)
        self.assertRaises(TooGreat, place_is, 2, "x", SIXTY)
        self.assertTrue(takes(place_is(5, "x", SIXTY), [SIXTY]))

    def test_no_base(self):
        for base in NO_BASES:
            for place in [0, 5, SIXTY]:
                self.assertRaises(NoBase, place_is, base, "x", place)


if __name__ == "__main__":
    unittest.main()
