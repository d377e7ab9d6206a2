import itertools
import unittest

from figurewheel.errors import NotLike, TooGreat, TooWide
from figurewheel.joining import both, either, no
from figurewheel.leaves import place_is, sign_is, sums
from figurewheel.relations import takes_by
from tests.making import (
    GREAT, drawing, drawn_places, drawn_relation, is_relation, pairs_met, refusal_of, rest_by,
)

NEVER = (((0,),), (0,))
ALWAYS = (((0,),), (1,))


class Joining(unittest.TestCase):
    def assert_joined(self, one, other, draw):
        names = tuple(sorted(set(one[1]) | set(other[1])))
        taken, joined = both(one, other), either(one, other)
        for relation in [taken, joined]:
            self.assertTrue(is_relation(relation))
            self.assertEqual(relation[:2], (one[0], names))
        below = {0: 1, 1: 40, 2: 8, 3: 4, 4: 3}[len(names)]
        places = list(itertools.product(range(below), repeat=len(names)))
        places += [tuple(draw.choice([drawn_places(draw, 1)[0], draw.choice(GREAT), 0, 1]) for name in names)
                   for index in range(12)]
        for told in places:
            known = dict(zip(names, told))
            first, second = takes_by(one, known), takes_by(other, known)
            self.assertIs(takes_by(taken, known), first and second)
            self.assertIs(takes_by(joined, known), first or second)
        self.assertEqual(both(other, one), taken)
        self.assertEqual(either(other, one), joined)
        self.assertEqual(no(both(no(one), no(other))), joined)

    def test_drawn_relations(self):
        draw = drawing(91)
        sides = {
            2: ["", "x", "y", "xy", "wz", "bd", "ac", "abc", "bcd", "abcd"], 3: ["", "x", "xy", "ac", "b", "abc"],
            4: ["", "x", "xy", "ac", "b", "abc"], 5: ["", "x", "y", "xy"],
        }
        for base in [2, 3, 4, 5]:
            for one, other in itertools.product(sides[base], repeat=2):
                many = len(set(one + other))
                if many <= {2: 4, 3: 3, 4: 3, 5: 2}[base]:
                    self.assert_joined(drawn_relation(draw, base, one, draw.randrange(1, 9)),
                                       drawn_relation(draw, base, other, draw.randrange(1, 9)), draw)

    def test_relations_without_names(self):
        for base in [2, 3, 4, 5]:
            never, always = (base, (), NEVER), (base, (), ALWAYS)
            for one, other in itertools.product([never, always], repeat=2):
                self.assertEqual(both(one, other), always if one == other == always else never)
                self.assertEqual(either(one, other), never if one == other == never else always)
            self.assertEqual((no(never), no(always)), (always, never))
            less = sums(base, ["x"], ["y"], "<")
            self.assertEqual((both(less, always), either(never, less)), (less, less))
            self.assertEqual(both(less, never)[1:], (("x", "y"), (((0,) * base ** 2,), (0,))))
            self.assertEqual(either(always, less)[1:], (("x", "y"), (((0,) * base ** 2,), (1,))))

    def test_told_relations(self):
        less, more, same = sums(2, ["x"], ["y"], "<"), sums(2, ["y"], ["x"], "<"), sums(2, ["x"], ["y"], "=")
        self.assertEqual(no(either(less, more)), same)
        self.assertEqual(both(no(less), no(more)), same)
        self.assertEqual(both(less, less), less)
        self.assertEqual(either(same, same), same)
        self.assertEqual(both(less, more), (2, ("x", "y"), (((0,) * 4,), (0,))))

    def test_not_like(self):
        for one, other in itertools.permutations([2, 3, 4, 5], 2):
            for join in [both, either]:
                self.assertRaises(NotLike, join, place_is(one, "x", 4), place_is(other, "x", 4))
                self.assertRaises(NotLike, join, (one, (), NEVER), (other, (), NEVER))
                # Ahead of TooWide and of TooGreat.
                self.assertRaises(NotLike, join, sums(one, ["a"], ["b"], "="), sums(other, ["c"], ["d"], "="))
                self.assertRaises(NotLike, join, place_is(one, "x", one ** 97), place_is(other, "x", other ** 97))
        self.assertRaises(NotLike, both, sums(2, list("abc"), list("d"), "="), sums(3, list("ab"), list("e"), "="))

    def test_too_wide(self):
        for base, most in [(2, 4), (3, 3), (4, 3), (5, 2)]:
            for one, other in [("a", "b"), ("ab", "c"), ("ab", "cd"), ("ab", "bc"), ("ab", "ab"), ("b", "ad"), ("bc", "ac"),
                               ("ac", "bd")]:
                first = sums(base, list(one), list(one), "=") if len(one) > 1 else place_is(base, one, 3)
                second = sums(base, list(other), list(other), "<") if len(other) > 1 else place_is(base, other, 3)
                many = len(set(one + other))
                for join in [both, either]:
                    error = refusal_of(join, first, second)
                    if many <= most:
                        self.assertIsNone(error)
                    else:
                        self.assertIsInstance(error, TooWide)
                        self.assertEqual(error.many, many)

    def test_too_wide_by_base_2(self):
        one, other = sums(2, list("abc"), ["d"], "="), sums(2, list("efg"), ["d"], "=")
        for join in [both, either]:
            self.assertEqual(refusal_of(join, one, place_is(2, "e", 1)).many, 5)
            self.assertEqual(refusal_of(join, one, other).many, 7)
            self.assertEqual(refusal_of(join, one, sums(2, list("efg"), ["h"], "=")).many, 8)

    def test_too_wide_ahead_of_too_great(self):
        one, other = place_is(5, "x", 5 ** 90), both(place_is(5, "y", 5 ** 40), sums(5, ["z"], ["z"], "="))
        for join in [both, either]:
            self.assertEqual(refusal_of(join, one, other).many, 3)
            self.assertIsInstance(refusal_of(join, one, place_is(5, "y", 5 ** 40)), TooGreat)

    def test_just_100_pairs_and_more(self):
        draw = drawing(92)
        # Of two names all pairs of rooms come.
        for base in [2, 3, 4, 5]:
            one = place_is(base, "x", base ** 7 + 1)
            self.assert_joined(one, place_is(base, "y", base ** 8 - 1), draw)
            for join in [both, either]:
                self.assertRaises(TooGreat, join, one, place_is(base, "y", base ** 8))
                self.assertRaises(TooGreat, join, place_is(base, "y", base ** 8), one)
        # Of one name those alone that one place has.
        one, other = place_is(2, "x", 2 ** 96 + 6), place_is(2, "x", 2 ** 96 + 7)
        self.assertEqual(pairs_met(one[2], other[2], [(0, 0), (1, 1)]), 100)
        self.assert_joined(one, other, draw)
        one, other = place_is(2, "x", 2 ** 97 + 6), place_is(2, "x", 2 ** 97 + 7)
        self.assertEqual(pairs_met(one[2], other[2], [(0, 0), (1, 1)]), 101)
        for join in [both, either]:
            self.assertRaises(TooGreat, join, one, other)

    def test_pairs_count_though_the_relation_is_small(self):
        # No place has both rests, but the pairs of rooms come all the same.
        one, other = sign_is(rest_by(51, 2), "x", 0), sign_is(rest_by(51, 2), "x", 1)
        self.assertEqual(both(one, other)[2], (((0, 0),), (0,)))
        other = sign_is(rest_by(5, 2), "x", 1)
        self.assertRaises(TooGreat, both, one, other)
        self.assertRaises(TooGreat, either, one, other)

    def test_a_hundred_rooms_beside_one(self):
        draw = drawing(93)
        one = place_is(3, "n", 3 ** 97 + 4)
        self.assert_joined(one, (3, (), ALWAYS), draw)
        self.assert_joined(one, one, draw)
        self.assert_joined(one, no(one), draw)


class Not(unittest.TestCase):
    def test_drawn_relations(self):
        draw = drawing(94)
        for base, names in itertools.product([2, 3, 4, 5], ["", "x", "xy", "xyz", "wxyz"]):
            if len(names) <= {2: 4, 3: 3, 4: 3, 5: 2}[base]:
                one = drawn_relation(draw, base, names, 8)
                kept = one
                told = no(one)
                self.assertTrue(is_relation(told))
                self.assertEqual(told[:2], one[:2])
                self.assertEqual(no(told), kept)
                for index in range(100):
                    known = {name: draw.choice([draw.randrange(9), draw.choice(GREAT)]) for name in names}
                    self.assertIs(takes_by(told, known), not takes_by(one, known))


if __name__ == "__main__":
    unittest.main()
