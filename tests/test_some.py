import itertools
import unittest

from figurewheel.errors import TooGreat
from figurewheel.joining import both, either, no
from figurewheel.leaves import place_is, sign_is, signs_like, sums
from figurewheel.least import least
from figurewheel.machines import machine_of
from figurewheel.relations import takes, takes_by
from figurewheel.some import every, some
from figurewheel.writing import read_machine
from tests.making import drawing, drawn_places, drawn_relation, is_relation, only_at, refusal_of

TURNS = machine_of([[0, 1], [1, 0]], [0, 1])

# Relations whose sets of rooms, without a name, are just so many (point 29).
SETS_100 = [
    (2, "xy", "y", "0:0,1,2,3 1:2,4,5,0 0:2,2,2,2 1:2,6,7,8 1:2,7,7,3 0:2,7,1,1 0:2,9,5,5 1:7,2,8,2 0:2,3,2,10 "
     "1:2,1,11,7 0:2,5,2,1 0:7,10,2,1"),
    (3, "xy", "x", "1:0,1,2,3,3,0,3,3,3 1:3,3,3,3,3,4,5,5,6 1:6,3,3,2,3,3,3,0,5 0:3,3,3,3,3,3,3,3,3 "
     "0:5,3,3,3,7,3,3,2,0 1:5,3,0,7,5,7,3,3,3 1:3,3,3,3,6,3,3,8,3 1:3,8,3,3,3,3,5,3,9 1:3,4,3,3,6,5,1,3,3 "
     "1:3,1,5,10,4,7,2,1,11 1:11,3,7,3,7,3,3,1,3 0:3,3,9,3,3,3,3,3,3"),
    (2, "xyz", "y", "1:0,1,2,2,3,4,1,5 0:2,1,2,0,6,7,2,7 0:8,4,1,2,0,9,8,9 1:7,2,9,1,1,6,2,8 1:1,10,11,7,0,2,12,10 "
     "0:5,7,3,4,3,9,8,6 0:6,3,1,12,3,0,12,5 1:5,10,3,11,2,11,11,5 0:2,1,1,6,2,8,2,1 1:0,9,4,7,9,1,7,6 1:2,6,12,0,7,4,4,3 "
     "1:12,10,2,4,2,10,11,2 0:9,11,9,7,1,9,8,9"),
]
SETS_101 = [
    (2, "xy", "y", "1:0,1,2,1 0:1,1,1,1 1:0,3,1,4 1:1,5,6,5 1:1,0,7,3 1:1,1,8,3 1:1,6,8,9 1:7,4,1,6 0:2,1,0,1 "
     "1:9,7,3,0"),
    (3, "xy", "x", "1:0,1,0,2,3,3,2,2,4 1:0,2,2,0,4,1,2,2,2 0:2,2,2,2,2,2,2,2,2 1:2,2,5,2,2,6,2,2,2 0:2,2,2,2,2,7,2,2,2 "
     "1:2,8,5,4,2,0,4,2,2 1:2,2,9,6,2,1,6,7,2 0:10,9,2,2,2,11,2,8,4 1:9,9,2,7,6,2,2,2,2 1:2,2,3,2,2,0,0,2,2 "
     "0:2,2,2,2,2,2,3,2,7 1:3,2,2,2,4,0,11,2,2"),
    (2, "xyz", "y", "1:0,1,2,3,4,5,6,7 1:4,4,8,1,8,5,8,9 0:7,9,7,6,10,9,9,5 1:0,3,11,11,5,9,3,6 1:2,8,11,4,6,0,7,0 "
     "1:6,4,5,0,6,5,3,1 0:0,11,10,11,0,6,7,5 1:9,9,10,5,4,0,10,6 0:2,6,1,2,2,0,3,1 1:6,11,10,11,6,7,11,0 "
     "0:5,9,9,11,1,9,0,3 0:3,4,7,5,7,4,3,3"),
]


def read_relation(base, names, text):
    return (base, tuple(names), read_machine(text))


def only_with_0(base, place):
    """x is that place, and y is 0."""
    rows, signs = only_at(place, base)
    wide = [[led if figure == 0 else len(rows) - 1 for led in row for figure in range(base)] for row in rows]
    return (base, ("x", "y"), least(machine_of(wide, signs)))


def sets_met(relation, name):
    """How many sets of rooms point 29 has, or more than 300."""
    base, names, machine = relation
    spot = names.index(name)

    def led(rooms, column):
        told = set()
        for room in rooms:
            for figure in range(base):
                code = 0
                for one in column[:spot] + (figure,) + column[spot:]:
                    code = code * base + one
                told.add(machine[0][room][code])
        return frozenset(told)

    columns = list(itertools.product(range(base), repeat=len(names) - 1))
    first = frozenset([0])
    while led(first, columns[0]) | first != first:
        first = led(first, columns[0]) | first
    met = [first]
    known = {first}
    for rooms in met:
        for column in columns:
            if led(rooms, column) not in known:
                known.add(led(rooms, column))
                met.append(led(rooms, column))
        if len(met) > 300:
            break
    return len(met)


class Quantified(unittest.TestCase):
    def assert_by_trying(self, relation, name, below):
        base, names, machine = relation
        rest = tuple(other for other in names if other != name)
        there, always = some(relation, name), every(relation, name)
        for told in [there, always]:
            self.assertTrue(is_relation(told))
            self.assertEqual(told[:2], (base, rest))
        for places in itertools.product(range(below), repeat=len(rest)):
            known = dict(zip(rest, places))
            # As many figures more than the others as there are rooms lead to every room that can be led to.
            figures = 0
            while any(place >= base ** figures for place in places):
                figures += 1
            tried = [takes_by(relation, {**known, name: place}) for place in range(base ** (figures + len(machine[0]) - 1))]
            self.assertIs(takes_by(there, known), any(tried))
            self.assertIs(takes_by(always, known), all(tried))
        self.assertEqual(always, no(some(no(relation), name)))

    def test_drawn_relations(self):
        draw = drawing(101)
        for base, names, rooms, below in [(2, "x", 7, 1), (2, "xy", 5, 8), (2, "xyz", 4, 4), (2, "wxyz", 3, 2), (3, "x", 6, 1),
                                          (3, "xy", 4, 4), (3, "xyz", 3, 3), (4, "xy", 3, 5), (4, "xyz", 3, 2),
                                          (5, "x", 4, 1), (5, "xy", 3, 5)]:
            for name in names:
                for index in range(4):
                    self.assert_by_trying(drawn_relation(draw, base, names, draw.randrange(1, rooms + 1)), name, below)

    def test_the_place_may_have_more_figures(self):
        for base in [2, 3, 4, 5]:
            less = sums(base, ["x"], ["y"], "<")
            self.assertEqual(some(less, "y"), (base, ("x",), (((0,) * base,), (1,))))
            self.assertEqual(some(less, "x"), no(place_is(base, "y", 0)))
            self.assertEqual(every(less, "y"), (base, ("x",), (((0,) * base,), (0,))))
            self.assertEqual(every(no(less), "x"), place_is(base, "y", 0))
            great = both(no(sums(base, ["y"], ["x"], "<")), place_is(base, "y", base ** 30 + 1))
            self.assertTrue(takes(some(great, "y"), [0]))
            self.assertTrue(takes(some(great, "y"), [base ** 30 + 1]))
            self.assertFalse(takes(some(great, "y"), [base ** 30 + 2]))

    def test_told_relations(self):
        double = sums(2, ["y", "y"], ["x"], "=")
        self.assertEqual(some(double, "y"), (2, ("x",), (((0, 1), (0, 1)), (1, 0))))
        third = some(sums(3, ["y", "y"], ["x"], "="), "y")
        self.assertEqual([takes(third, [place]) for place in range(6)], [True, False] * 3)
        draw = drawing(102)
        for place in drawn_places(draw, 20):
            self.assertIs(takes(third, [place]), place % 2 == 0)

    def test_one_name(self):
        for base in [2, 3, 4, 5]:
            so, never = (base, (), (((0,),), (1,))), (base, (), (((0,),), (0,)))
            self.assertEqual(some(place_is(base, "x", base ** 97), "x"), so)
            self.assertEqual(every(place_is(base, "x", 0), "x"), never)
            self.assertEqual(every(sums(base, ["x"], ["x"], "="), "x"), so)
            self.assertEqual(some(sums(base, ["x"], ["x"], "<"), "x"), never)

    def test_a_name_that_is_none_of_the_relation_s(self):
        draw = drawing(103)
        for base, names in [(2, ""), (2, "x"), (2, "wxyz"), (5, "xy")]:
            relation = drawn_relation(draw, base, names, 9)
            for name in ["a", "xx", "q"]:
                self.assertEqual(some(relation, name), relation)
                self.assertEqual(every(relation, name), relation)

    def test_a_name_that_is_none_of_them_is_never_too_great(self):
        for base, names, name, text in SETS_101:
            relation = read_relation(base, names, text)
            self.assertEqual(some(relation, "zz"), relation)
            self.assertEqual(every(relation, "zz"), relation)

    def test_one_name_of_four(self):
        draw = drawing(104)
        relation = both(sums(2, ["a", "b"], ["c"], "="), sums(2, ["c"], ["d"], "<"))
        told = some(relation, "c")
        self.assertEqual(told[1], ("a", "b", "d"))
        self.assertEqual(told, sums(2, ["a", "b"], ["d"], "<"))
        self.assertEqual(every(either(no(sums(2, ["a", "b"], ["c"], "=")), sums(2, ["c"], ["d"], "<")), "c"), told)
        for index in range(30):
            places = [draw.randrange(10 ** draw.randrange(1, 40)) for name in "abd"]
            self.assertIs(takes(told, places), places[0] + places[1] < places[2])

    def test_just_100_sets(self):
        for base, names, name, text in SETS_100:
            relation = read_relation(base, names, text)
            self.assertTrue(is_relation(relation))
            self.assertEqual(sets_met(relation, name), 100)
            for told in [some(relation, name), every(relation, name)]:
                self.assertTrue(is_relation(told))
            self.assertEqual(every(relation, name), no(some(no(relation), name)))
        for base in [2, 3, 4, 5]:
            relation = only_with_0(base, base ** 97 + 1)
            self.assertTrue(is_relation(relation))
            self.assertEqual(sets_met(relation, "y"), 100)
            self.assertEqual(some(relation, "y"), place_is(base, "x", base ** 97 + 1))

    def test_just_more(self):
        for base, names, name, text in SETS_101:
            relation = read_relation(base, names, text)
            self.assertTrue(is_relation(relation))
            self.assertEqual(sets_met(relation, name), 101)
            for asked in [some, every]:
                self.assertRaises(TooGreat, asked, relation, name)
                self.assertRaises(TooGreat, asked, no(relation), name)

    def test_without_other_names_there_is_one_set(self):
        relation = place_is(2, "x", 2 ** 97 + 2 ** 50)
        self.assertEqual(some(relation, "x"), (2, (), (((0,),), (1,))))
        self.assertEqual(every(relation, "x"), (2, (), (((0,),), (0,))))

    def test_drawn_relations_refused_just_where_the_sets_are_more(self):
        draw = drawing(105)
        counts = []
        for index in range(60):
            relation = drawn_relation(draw, 2, "xyz", draw.randrange(8, 16))
            many = sets_met(relation, "y")
            counts.append(many)
            for asked in [some, every]:
                error = refusal_of(asked, relation, "y")
                self.assertEqual(isinstance(error, TooGreat), many > 100)
        self.assertTrue(min(counts) < 100 < max(counts))

    def test_a_row_s_places(self):
        # Each sign of the row comes behind every place.
        for sign in [0, 1]:
            relation = both(sign_is(TURNS, "v", sign), sums(2, ["n"], ["v"], "<"))
            self.assertEqual(every(some(relation, "v"), "n"), (2, (), (((0,),), (1,))))
        self.assertEqual(some(signs_like(TURNS, "n", TURNS, "m"), "m"), (2, ("n",), (((0, 0),), (1,))))


if __name__ == "__main__":
    unittest.main()
