import itertools
import unittest

from figurewheel.errors import NoBase, NoName, NotLike, TooGreat, TooWide
from figurewheel.joining import both, either, no
from figurewheel.leaves import place_is, sign_is, signs_like, sums
from figurewheel.machines import machine_of, teller
from figurewheel.relations import takes_by
from figurewheel.some import every, some
from figurewheel.statements import (
    Both, Either, Every, No, PlaceIs, SignIs, SignsLike, Some, Statement, Sums,
)
from tests.grammar import drawn_tree, is_so, tree_of
from tests.making import GREAT, adding, drawing, drawn_machine, is_relation, only_at, refusal_of, rest_by

TURNS = machine_of([[0, 1], [1, 0]], [0, 1])
HALVES = machine_of([[0, 1], [0, 1]], [3, 4])
ROWS = {"A": TURNS, "B": HALVES}
NO_BASES = [1, 0, -1, 6, 10 ** 59]


def wide():
    return Sums(["a", "b", "c"], ["d", "e"], "=")


def each_kind():
    leaf = PlaceIs("n", 4)
    return [
        (SignIs, ("A", "n", 1)), (SignsLike, ("A", "n", "B", "m")), (Sums, (["x", "y"], ["z"], "<")), (PlaceIs, ("n", 4)),
        (No, (leaf,)), (Both, (leaf, Sums(["n"], ["m"], "="))), (Either, (leaf, Sums(["n"], ["m"], "="))),
        (Some, ("n", leaf)), (Every, ("n", leaf)),
    ]


FIELDS = {
    SignIs: ["row", "name", "sign"], SignsLike: ["row", "name", "other", "second"], Sums: ["left", "right", "word"],
    PlaceIs: ["name", "place"], No: ["one"], Both: ["one", "other"], Either: ["one", "other"], Some: ["name", "one"],
    Every: ["name", "one"],
}


class Kinds(unittest.TestCase):
    def test_fields(self):
        for kind, handed in each_kind():
            statement = kind(*handed)
            self.assertIsInstance(statement, Statement)
            self.assertEqual([getattr(statement, field) for field in FIELDS[kind]], list(handed))

    def test_the_base(self):
        statement = Statement()
        self.assertFalse(any(hasattr(statement, name) for name in ["free", "text", "relation"]))
        for kind in FIELDS:
            self.assertEqual(kind.__bases__, (Statement,))

    def test_left_and_right_are_copies(self):
        left, right = ["x"], ["y", "z"]
        statement = Sums(left, right, "=")
        left.append("q")
        right[0] = "q"
        self.assertEqual((statement.left, statement.right), (["x"], ["y", "z"]))
        self.assertEqual((type(statement.left), type(statement.right)), (list, list))
        self.assertEqual(statement.text(), "x = y + z")

    def test_parts_are_kept(self):
        one, other = PlaceIs("n", 1), PlaceIs("m", 2)
        self.assertIs(Both(one, other).one, one)
        self.assertIs(Either(one, other).other, other)
        self.assertIs(Some("n", one).one, one)


class Free(unittest.TestCase):
    def test_leaves(self):
        self.assertEqual(SignIs("A", "n", 1).free(), ["n"])
        self.assertEqual(SignsLike("A", "n", "B", "m").free(), ["m", "n"])
        self.assertEqual(SignsLike("A", "n", "B", "n").free(), ["n"])
        self.assertEqual(Sums(["z", "x", "z"], ["y", "x"], "=").free(), ["x", "y", "z"])
        self.assertEqual(PlaceIs("abc", 3).free(), ["abc"])

    def test_parts(self):
        one, other = SignsLike("A", "z", "A", "b"), Sums(["c"], ["b", "a"], "<")
        self.assertEqual(No(one).free(), ["b", "z"])
        self.assertEqual(Both(one, other).free(), ["a", "b", "c", "z"])
        self.assertEqual(Either(other, one).free(), ["a", "b", "c", "z"])
        self.assertEqual(Some("b", one).free(), ["z"])
        self.assertEqual(Every("b", Both(one, other)).free(), ["a", "c", "z"])
        self.assertEqual(Some("q", one).free(), ["b", "z"])

    def test_a_name_bound_in_one_part_alone(self):
        one = Some("n", PlaceIs("n", 3))
        self.assertEqual(one.free(), [])
        self.assertEqual(Both(one, PlaceIs("n", 4)).free(), ["n"])
        self.assertEqual(Every("n", Both(one, PlaceIs("n", 4))).free(), [])

    def test_more_names_than_a_relation_may_have(self):
        self.assertEqual(wide().free(), ["a", "b", "c", "d", "e"])
        self.assertEqual(Both(wide(), Sums(["f"], ["g"], "=")).free(), list("abcdefg"))

    def test_the_list_is_the_asker_s_own(self):
        for kind, handed in each_kind():
            statement = kind(*handed)
            kept = statement.free()
            statement.free().append("zz")
            statement.free().clear()
            self.assertEqual(statement.free(), kept)
            self.assertIs(type(kept), list)


class Texts(unittest.TestCase):
    def test_each_kind(self):
        texts = [
            "A n is 1", "A n like B m", "x + y < z", "n = 4", "not n = 4", "( n = 4 and n = m )", "( n = 4 or n = m )",
            "some n n = 4", "all n n = 4",
        ]
        self.assertEqual([kind(*handed).text() for kind, handed in each_kind()], texts)

    def test_sides(self):
        self.assertEqual(Sums(["a"], ["b"], "=").text(), "a = b")
        self.assertEqual(Sums(["a", "b", "c"], ["d", "e", "f"], "<").text(), "a + b + c < d + e + f")
        self.assertEqual(PlaceIs("a", 0).text(), "a = 0")
        self.assertEqual(PlaceIs("a", 999999999).text(), "a = 999999999")

    def test_parts_within_parts(self):
        statement = Every("n", Either(SignIs("A", "n", 0), Some("m", Sums(["n", "n"], ["m"], "="))))
        self.assertEqual(statement.text(), "all n ( A n is 0 or some m n + n = m )")
        self.assertEqual(No(No(Both(No(PlaceIs("a", 1)), Either(PlaceIs("b", 2), PlaceIs("c", 3))))).text(),
                         "not not ( not a = 1 and ( b = 2 or c = 3 ) )")


class Relations(unittest.TestCase):
    def test_made_as_told(self):
        self.assertEqual(SignIs("A", "n", 1).relation(2, ROWS), sign_is(TURNS, "n", 1))
        self.assertEqual(SignsLike("A", "n", "B", "m").relation(2, ROWS), signs_like(TURNS, "n", HALVES, "m"))
        self.assertEqual(SignsLike("B", "n", "A", "n").relation(2, ROWS), signs_like(HALVES, "n", TURNS, "n"))
        for base in [2, 3, 4, 5]:
            less, same = Sums(["x"], ["y"], "<"), Sums(["x"], ["y"], "=")
            one, other = sums(base, ["x"], ["y"], "<"), sums(base, ["x"], ["y"], "=")
            self.assertEqual(less.relation(base, {}), one)
            self.assertEqual(PlaceIs("y", 7).relation(base, {}), place_is(base, "y", 7))
            self.assertEqual(No(less).relation(base, {}), no(one))
            self.assertEqual(Both(less, same).relation(base, {}), both(one, other))
            self.assertEqual(Either(less, same).relation(base, {}), either(one, other))
            self.assertEqual(Some("x", less).relation(base, {}), some(one, "x"))
            self.assertEqual(Every("y", less).relation(base, {}), every(one, "y"))

    def test_a_name_that_is_not_free_in_it(self):
        less = Sums(["x"], ["y"], "<")
        self.assertEqual(Some("z", less).relation(2, {}), less.relation(2, {}))
        self.assertEqual(Every("z", less).relation(2, {}), less.relation(2, {}))

    def test_names_bound_twice_within_one_another(self):
        # The inner one binds; the outer one's name is then none of the relation's.
        inner = Some("n", Both(PlaceIs("n", 3), Sums(["m"], ["n"], "=")))
        self.assertEqual(Every("n", inner).relation(2, {}), place_is(2, "m", 3))
        self.assertEqual(Every("n", inner).free(), ["m"])
        outer = Some("n", Both(PlaceIs("n", 5), Some("n", PlaceIs("n", 3))))
        self.assertEqual(outer.relation(3, {}), (3, (), (((0,),), (1,))))
        outer = Every("n", Either(PlaceIs("n", 5), Every("n", PlaceIs("n", 3))))
        self.assertEqual(outer.relation(3, {}), (3, (), (((0,),), (0,))))

    def test_beside_what_is_said(self):
        draw = drawing(121)
        done = 0
        for base, names, index in itertools.product([2, 3, 4, 5], [1, 2, 3], range(25)):
            rows = {"A": drawn_machine(draw, 3, base, 3), "B": drawn_machine(draw, 2, base, 3)}
            signs = {name: teller(row) for name, row in rows.items()}
            statement = drawn_tree(draw, ["x", "y", "z"][:names], ["A", "B"], 4)
            if refusal_of(statement.relation, base, rows) is not None:
                continue
            done += 1
            relation = statement.relation(base, rows)
            self.assertTrue(is_relation(relation))
            self.assertEqual(relation[:2], (base, tuple(statement.free())))
            for places in list(itertools.product([0, 1, 2, 3, 5, 8, 13], repeat=len(relation[1])))[:60]:
                known = dict(zip(relation[1], places))
                self.assertIs(takes_by(relation, known), is_so(statement, known, signs, 0))
            for trial in range(10):
                known = {name: draw.choice(GREAT + [draw.randrange(50)]) for name in relation[1]}
                self.assertIs(takes_by(relation, known), is_so(statement, known, signs, 0))
        self.assertGreater(done, 200)

    def test_bounded_some_and_every_beside_trying(self):
        # What is said of n is sought among the places below x + x + 3 alone, so trying these places tells it.
        draw = drawing(122)
        done = 0
        for base, index in itertools.product([2, 3, 4], range(30)):
            rows = {"A": drawn_machine(draw, 2, base, 2)}
            signs = {"A": teller(rows["A"])}
            part = drawn_tree(draw, ["x", "n"], ["A"], 3)
            there = Some("n", Both(Sums(["n"], ["x", "x"], "<"), part))
            always = Every("n", Either(No(Sums(["n"], ["x", "x"], "<")), part))
            for statement in [there, always, Either(No(there), always)]:
                if refusal_of(statement.relation, base, rows) is None:
                    done += 1
                    relation = statement.relation(base, rows)
                    for place in range(12):
                        told = is_so(statement, {"x": place}, signs, 25)
                        self.assertIs(takes_by(relation, {"x": place}), told)
        self.assertGreater(done, 150)

    def test_twenty_statements_within_one_another(self):
        statement = PlaceIs("n", 3)
        for index in range(19):
            statement = [No(statement), Both(statement, statement), Some("m", statement)][index % 3]
        self.assertEqual(statement.free(), ["n"])
        self.assertEqual(statement.relation(3, {}), no(place_is(3, "n", 3)))
        self.assertEqual(statement.text().count("n = 3"), 64)


class Refusals(unittest.TestCase):
    def no_name(self, statement, base, rows, name):
        kept = dict(rows)
        error = refusal_of(statement.relation, base, rows)
        self.assertIsInstance(error, NoName)
        self.assertEqual(error.name, name)
        self.assertEqual(rows, kept)

    def refused(self, statement, base, rows, kind):
        self.assertIsInstance(refusal_of(statement.relation, base, rows), kind)

    def test_no_base_ahead_of_all(self):
        for base in NO_BASES:
            for kind, handed in each_kind():
                self.refused(kind(*handed), base, {}, NoBase)
                self.refused(kind(*handed), base, ROWS, NoBase)
            self.refused(wide(), base, {}, NoBase)
            self.refused(PlaceIs("n", 10 ** 59), base, {}, NoBase)
            self.refused(Both(SignIs("Q", "n", 1), wide()), base, {}, NoBase)

    def test_the_first_row_s_name_lacking(self):
        self.no_name(SignIs("A", "n", 1), 2, {}, "A")
        self.no_name(SignIs("C", "n", 1), 2, ROWS, "C")
        self.no_name(SignsLike("A", "n", "B", "m"), 2, {}, "A")
        self.no_name(SignsLike("C", "n", "D", "m"), 2, ROWS, "C")
        self.no_name(SignsLike("D", "n", "C", "m"), 2, ROWS, "D")
        self.no_name(SignsLike("A", "n", "C", "m"), 2, ROWS, "C")
        self.no_name(SignsLike("C", "n", "A", "m"), 2, ROWS, "C")

    def test_no_name_ahead_of_not_like(self):
        rows = {"A": rest_by(3, 3), "B": TURNS}
        self.no_name(SignsLike("A", "n", "C", "m"), 2, rows, "C")
        self.no_name(SignsLike("C", "n", "A", "m"), 2, rows, "C")
        self.refused(SignsLike("A", "n", "B", "m"), 2, rows, NotLike)
        self.refused(SignsLike("B", "n", "A", "m"), 2, rows, NotLike)

    def test_not_like(self):
        for base, other in itertools.permutations([2, 3, 4, 5], 2):
            rows = {"A": adding(3, other), "B": adding(3, base)}
            self.refused(SignIs("A", "n", 1), base, rows, NotLike)
            self.refused(SignsLike("A", "n", "A", "m"), base, rows, NotLike)
            self.refused(SignsLike("A", "n", "B", "n"), base, rows, NotLike)
            self.refused(SignsLike("B", "n", "A", "n"), base, rows, NotLike)

    def test_not_like_ahead_of_too_great(self):
        rows = {"A": only_at(3 ** 97, 3), "B": only_at(2 ** 97, 2)}
        self.refused(SignsLike("A", "n", "A", "m"), 2, rows, NotLike)
        self.refused(SignsLike("A", "n", "A", "m"), 3, rows, TooGreat)
        self.refused(SignsLike("B", "n", "B", "m"), 2, rows, TooGreat)

    def test_rows_that_are_not_asked_for(self):
        rows = {"A": TURNS, "C": rest_by(3, 3), "D": only_at(5 ** 97, 5)}
        kept = dict(rows)
        self.assertEqual(SignIs("A", "n", 1).relation(2, rows), sign_is(TURNS, "n", 1))
        self.assertEqual(PlaceIs("n", 1).relation(2, rows), place_is(2, "n", 1))
        self.assertEqual(rows, kept)

    def test_what_a_making_is_refused_with(self):
        self.assertEqual(refusal_of(wide().relation, 2, {}).many, 5)
        self.assertEqual(refusal_of(Sums(["a"], ["b", "c"], "<").relation, 5, {}).many, 3)
        self.refused(PlaceIs("n", 2 ** 98), 2, {}, TooGreat)
        self.assertEqual(refusal_of(Both(Sums(["a"], ["b"], "="), PlaceIs("c", 1)).relation, 5, {}).many, 3)
        self.refused(Either(PlaceIs("a", 2 ** 20), PlaceIs("b", 2 ** 20)), 2, {}, TooGreat)

    def test_the_first_refusal_met(self):
        faults = {
            "name": (SignIs("Q", "n", 1), NoName), "like": (SignIs("C", "n", 1), NotLike), "wide": (wide(), TooWide),
            "great": (PlaceIs("n", 2 ** 99), TooGreat),
        }
        rows = {"A": TURNS, "C": rest_by(3, 3)}
        for (one, kind), (other, unused) in itertools.permutations(faults.values(), 2):
            for join in [Both, Either]:
                self.refused(join(one, other), 2, rows, kind)
                self.refused(join(No(one), Some("n", other)), 2, rows, kind)
                self.refused(Every("m", join(Some("n", one), other)), 2, rows, kind)
                self.refused(join(join(PlaceIs("n", 1), one), other), 2, rows, kind)

    def test_parts_ahead_of_the_whole(self):
        # The parts together would be too wide, but the second part is refused ahead of that.
        one, other = Sums(["a", "b"], ["c", "d"], "="), Both(PlaceIs("e", 1), PlaceIs("f", 2 ** 98))
        self.refused(Both(one, other), 2, {}, TooGreat)
        self.assertEqual(refusal_of(Both(one, PlaceIs("e", 1)).relation, 2, {}).many, 5)


class Trees(unittest.TestCase):
    def test_what_is_asked_changes_nothing(self):
        draw = drawing(123)
        for index in range(50):
            statement = drawn_tree(draw, ["x", "y"], ["A", "B"], 4, ["x", "n"])
            kept = tree_of(statement)
            statement.free()
            statement.text()
            refusal_of(statement.relation, 2, ROWS)
            self.assertEqual(tree_of(statement), kept)


if __name__ == "__main__":
    unittest.main()
