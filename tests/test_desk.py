import itertools
import unittest

from figurewheel.desk import Desk
from figurewheel.errors import (
    NoBase, NoLine, NoMachine, NoName, NoStep, NoText, NotLike, TooGreat, TooWide, WheelError,
)
from figurewheel.least import least
from figurewheel.machines import first_signs, machine_of, sign_at
from figurewheel.spacing import spaced
from figurewheel.writing import machine_text, read_machine
from tests.making import chain, drawing, drawn_machine, only_at, refusal_of, rest_by

TURNS = "0:0,1 1:1,0"
HALVES = "3:0,1 4:0,1"
WIDE = "0:0,1 1:2,3 1:1,0 0:3,2"


def answers(*lines):
    desk = Desk()
    return [desk.told(line) for line in lines]


def desk_with(*lines):
    desk = Desk()
    for line in lines:
        desk.told(line)
    return desk


class Answers(unittest.TestCase):
    def test_base(self):
        for base in "2345":
            self.assertEqual(answers(f"base {base}"), [f"base {base}"])

    def test_the_base_is_2_at_first(self):
        self.assertEqual(answers(f"row A {TURNS}"), ["rooms 2"])
        self.assertIsInstance(refusal_of(Desk().told, "row A 0:0,0,0"), NotLike)
        self.assertEqual(answers("say n = 5"), ["n 5"])

    def test_row(self):
        self.assertEqual(answers(f"row A {TURNS}", "row Z 5:0,0", f"row B {HALVES}"), ["rooms 2", "rooms 1", "rooms 2"])
        # The rooms of the least form are told.
        self.assertEqual(answers("row A 4:0,1 4:1,2 4:2,0", f"row A {WIDE}"), ["rooms 1", "rooms 2"])

    def test_rows_of_each_base(self):
        for base in [2, 3, 4, 5]:
            desk = desk_with(f"base {base}")
            for rooms in [1, 7, 40]:
                row = rest_by(rooms, base)
                self.assertEqual(desk.told("row Q " + machine_text(row)), f"rooms {len(least(row)[0])}")

    def test_a_hundred_rooms(self):
        row = chain(100, 2)
        self.assertEqual(answers("row A " + machine_text(row), "at A " + "9" * 30),
                         ["rooms 100", str(sign_at(row, 10 ** 30 - 1))])

    def test_a_row_told_anew(self):
        self.assertEqual(answers(f"row A {TURNS}", "show A 4", f"row A {HALVES}", "show A 4"),
                         ["rooms 2", "0110", "rooms 2", "3434"])

    def test_show(self):
        desk = desk_with(f"row A {TURNS}")
        self.assertEqual(desk.told("show A 0"), "")
        self.assertEqual(desk.told("show A 1"), "0")
        self.assertEqual(desk.told("show A 8"), "01101001")
        self.assertEqual(desk.told("show A 100"), "".join(str(bin(place).count("1") % 2) for place in range(100)))

    def test_at(self):
        desk = desk_with(f"row A {TURNS}", f"row B {HALVES}")
        for place in [0, 1, 2, 7, 100, 10 ** 29, 10 ** 30 - 1]:
            self.assertEqual(desk.told(f"at A {place}"), str(bin(place).count("1") % 2))
            self.assertEqual(desk.told(f"at B {place}"), str(3 + place % 2))

    def test_space(self):
        desk = desk_with(f"row A {TURNS}")
        self.assertEqual(desk.told("space B A 3 1"), f"rooms {len(spaced(read_machine(TURNS), 3, 1)[0])}")
        self.assertEqual(desk.told("show B 20"), "".join(str(bin(3 * place + 1).count("1") % 2) for place in range(20)))
        self.assertEqual(desk.told("show A 4"), "0110")

    def test_space_of_itself(self):
        desk = desk_with(f"row A {TURNS}")
        self.assertEqual(desk.told("space A A 2 1"), "rooms 2")
        self.assertEqual(desk.told("show A 8"), "10010110")

    def test_space_of_a_letter_that_is_kept_already(self):
        desk = desk_with(f"row A {TURNS}", f"row B {HALVES}")
        self.assertEqual(desk.told("space B A 1 0"), "rooms 2")
        self.assertEqual(desk.told("compare A B"), "alike")

    def test_space_at_its_bounds(self):
        desk = desk_with(f"row A {HALVES}")
        for step, first in [(1, 0), (12, 24), (12, 0), (1, 24)]:
            row = spaced(read_machine(HALVES), step, first)
            self.assertEqual(desk.told(f"space B A {step} {first}"), f"rooms {len(row[0])}")
            self.assertEqual(desk.told("show B 100"), "".join(str(sign) for sign in first_signs(row, 100)))

    def test_compare(self):
        desk = desk_with(f"row A {TURNS}", "row B 0:0,1 1:2,3 1:1,0 0:3,2", "row C 0:0,1 1:1,1", "row D 1:0,1 1:1,1")
        self.assertEqual(desk.told("compare A A"), "alike")
        self.assertEqual(desk.told("compare A B"), "alike")
        self.assertEqual(desk.told("compare A C"), "unlike 3")
        self.assertEqual(desk.told("compare C A"), "unlike 3")
        self.assertEqual(desk.told("compare D A"), "unlike 0")

    def test_compare_at_a_great_place(self):
        for base in [2, 5]:
            lines = [f"base {base}", "row A " + machine_text(chain(100, base)), "row B " + machine_text(chain(100, base, 0))]
            self.assertEqual(desk_with(*lines).told("compare A B"), f"unlike {(base ** 99 - 1) // (base - 1)}")

    def test_say_without_free_names(self):
        desk = desk_with(f"row A {TURNS}")
        self.assertEqual(desk.told("say some n A n is 1"), "so")
        self.assertEqual(desk.told("say some n A n is 2"), "not so")
        self.assertEqual(desk.told("say all n ( A n is 0 or A n is 1 )"), "so")
        self.assertEqual(desk.told("say all n ( A n is 0 or some m n + n = m )"), "so")
        self.assertEqual(desk.told("say all n some m ( n < m and A m is 1 )"), "so")
        self.assertEqual(desk.told("say not all n all m A n like A m"), "so")

    def test_say_with_free_names(self):
        desk = desk_with(f"row A {TURNS}")
        self.assertEqual(desk.told("say A n is 1"), "n 1")
        self.assertEqual(desk.told("say A n is 0"), "n 0")
        self.assertEqual(desk.told("say ( A n is 1 and A m is 1 )"), "m 1 n 1")
        self.assertEqual(desk.told("say ( y = 12 and x = 345 )"), "x 345 y 12")
        self.assertEqual(desk.told("say ( ( a = 1 and d = 2 ) and ( c = 0 and b = 5 ) )"), "a 1 b 5 c 0 d 2")
        self.assertEqual(desk.told("say abcdef = 999999999"), "abcdef 999999999")
        self.assertEqual(desk.told("say ( A n is 1 and not A n is 1 )"), "never")
        self.assertEqual(desk.told("say n < n"), "never")
        self.assertEqual(desk.told("say n + n + n = m + m"), "m 0 n 0")

    def test_say_by_each_base(self):
        for base in [2, 3, 4, 5]:
            desk = desk_with(f"base {base}", "row A " + machine_text(rest_by(4, base)))
            self.assertEqual(desk.told("say A n is 3"), "n 3")
            self.assertEqual(desk.told("say ( A n is 3 and n + n = m )"), "m 6 n 3")

    def test_round_and_twice(self):
        desk = desk_with(f"row A {TURNS}", f"row B {HALVES}", "row C 0:0,3 1:3,1 2:2,3 1:1,2 1:4,4", "row D 2:0,1 0:2,1 1:2,1")
        self.assertEqual(desk.told("round A"), "never")
        self.assertEqual(desk.told("round B"), "round 0 2")
        self.assertEqual(desk.told("round C"), "round 1 3")
        self.assertEqual(desk.told("twice B"), "twice 0 2")
        self.assertEqual(desk.told("twice D"), "twice 1 2")

    def test_answers_are_texts(self):
        desk = Desk()
        for line in ["base 2", f"row A {TURNS}", "space B A 1 0", "show A 3", "at A 4", "compare A B", "say n = 1", "round A"]:
            self.assertIs(type(desk.told(line)), str)

    def test_desks_are_apart(self):
        one, other = Desk(), Desk()
        one.told(f"row A {TURNS}")
        self.assertIsInstance(refusal_of(other.told, "show A 1"), NoName)
        other.told("base 3")
        self.assertEqual(one.told("show A 2"), "01")


class Bases(unittest.TestCase):
    def test_a_base_told_anew_forgets_the_rows(self):
        for base in "2345":
            desk = desk_with(f"row A {TURNS}", f"row B {HALVES}", f"base {base}")
            for letter in "AB":
                error = refusal_of(desk.told, f"show {letter} 1")
                self.assertIsInstance(error, NoName)
                self.assertEqual(error.name, letter)
            self.assertIsInstance(refusal_of(desk.told, "say A n is 1"), NoName)

    def test_the_base_holds_from_then_on(self):
        desk = desk_with("base 3")
        self.assertIsInstance(refusal_of(desk.told, f"row A {TURNS}"), NotLike)
        self.assertEqual(desk.told("row A 0:0,1,0 1:1,0,1"), "rooms 2")
        self.assertEqual(desk.told("show A 6"), "010101")
        desk.told("base 5")
        self.assertEqual(desk.told("row A 0:0,1,2,3,4 1:0,1,2,3,4 2:0,1,2,3,4 3:0,1,2,3,4 4:0,1,2,3,4"), "rooms 5")
        self.assertEqual(desk.told("show A 7"), "0123401")
        self.assertEqual(refusal_of(desk.told, "say a + b = c").many, 3)


class NoLines(unittest.TestCase):
    def setUp(self):
        self.desk = desk_with(f"row A {TURNS}", f"row B {HALVES}")

    def no_line(self, *lines):
        for line in lines:
            with self.subTest(line=line):
                self.assertIsInstance(refusal_of(self.desk.told, line), NoLine)
                self.assertIsInstance(refusal_of(Desk().told, line), NoLine)

    def test_first_words(self):
        self.no_line("", " ", "  ", "A", "rows", "Row A 0:0,0", "SAY n = 1", "tell A 3", "?", "bases 2", "says n = 1", " base 2",
                     " say n = 1", " row A 0:0,0", "rowA 0:0,0", "show\tA 3", "compareA B", "not", "x" * 2000)

    def test_base(self):
        self.no_line("base", "base ", "base  2", "base 1", "base 6", "base 0", "base 10", "base 02", "base 22", "base two",
                     "base -2", "base 2 ", "base 2 3", "base B")

    def test_row(self):
        self.no_line("row", "row ", "row A", "row a 0:0,0", "row AB 0:0,0", "row 1 0:0,0", "row  A 0:0,0", "row  0:0,0",
                     "row  ", "row   ", "row @ ", "row a ")

    def test_space(self):
        self.no_line("space", "space A", "space A B", "space A B 1", "space A B 1 ", "space A B 1 0 ", "space A B 1 0 0",
                     "space  A B 1 0", "space A  1 0", "space a B 1 0", "space A b 1 0", "space A BB 1 0", "space A B 01 0",
                     "space A B 1 00", "space A B -1 0", "space A B x 0", "space A B 1 y", "space A B 1  0",
                     "space A B " + "1" * 31 + " 0", "space A B 1 " + "1" * 31)

    def test_show(self):
        self.no_line("show", "show A", "show A ", "show A 1 ", "show A 1 2", "show  A 1", "show a 1", "show AB 1", "show 1 A",
                     "show A 01", "show A 00", "show A -1", "show A x", "show A 101", "show A 102", "show A 1000",
                     "show A " + "9" * 30, "show A " + "1" * 31)

    def test_at(self):
        self.no_line("at", "at A", "at A ", "at A 1 ", "at A 1 2", "at  A 1", "at a 1", "at AB 1", "at A 01", "at A 00",
                     "at A -1", "at A +1", "at A 1.0", "at A 1_0", "at A x", "at A " + "1" * 31, "at A 0" + "1" * 20)
        for figures in ["1" * 30, "9" * 30, "1" + "0" * 29]:
            self.assertIn(self.desk.told(f"at A {figures}"), "01")

    def test_compare(self):
        self.no_line("compare", "compare A", "compare A ", "compare A B ", "compare A B C", "compare  A B", "compare A  B",
                     "compare a B", "compare A b", "compare AB", "compare A 1")

    def test_say(self):
        self.no_line("say", "sayn = 1", "say\tn = 1")

    def test_round_and_twice(self):
        for word in ["round", "twice"]:
            self.no_line(word, f"{word} ", f"{word} a", f"{word} A ", f"{word} A B", f"{word} AB", f"{word}  A", f"{word} 1")

    def test_ahead_of_all_else(self):
        desk = desk_with(f"row A {TURNS}")
        for line in ["show Q 101", "compare Q R ", "space A Q 0", "at Q 01", "round Q R", "space Q R 13 25 ", "row q x"]:
            self.assertIsInstance(refusal_of(desk.told, line), NoLine)


class Texts(unittest.TestCase):
    def refused(self, line, kind, **fields):
        desk = desk_with(f"row A {TURNS}")
        error = refusal_of(desk.told, line)
        self.assertIsInstance(error, kind, line)
        self.assertEqual({field: getattr(error, field) for field in fields}, fields, line)

    def test_row_texts_without_signs(self):
        self.refused("row A ", NoText, at=0)
        self.refused("row Q ", NoText, at=0)
        self.refused("row A  ", NoText, at=0)
        self.refused("row A  0:0,0", NoText, at=0)
        self.refused("row A 0:0,0 ", NoText, at=1)
        self.refused("row A 0:0,0  0:0,0", NoText, at=1)

    def test_say_texts_without_signs(self):
        self.refused("say ", NoText, at=0)
        self.refused("say  ", NoText, at=0)
        self.refused("say  n = 1", NoText, at=0)
        self.refused("say n = 1 ", NoText, at=3)
        self.refused("say n  = 1", NoText, at=1)

    def test_row_texts_that_are_none(self):
        self.refused("row A x", NoText, at=0)
        self.refused("row A 0:0,1 1:1,0 1", NoText, at=2)
        self.refused("row A row B 0:0,0", NoText, at=0)

    def test_machines_that_are_none(self):
        self.refused("row A 0:0,2 1:1,0", NoMachine, word="next", number=0)
        self.refused("row A 0:1,0 1:1,0", NoMachine, word="front", number=0)
        self.refused("row A " + " ".join(["0:0,0"] * 101), NoMachine, word="rooms", number=101)
        # Ahead of NoBase and NotLike.
        self.refused("row A 0:1", NoMachine, word="next", number=0)
        self.refused("row A 0:0,0,1", NoMachine, word="next", number=0)

    def test_no_base_ahead_of_not_like(self):
        self.refused("row A 0:0", NoBase)
        self.refused("row A 0:0,0,0,0,0,0", NoBase)
        self.refused("row A " + "0:" + ",".join(["0"] * 64), NoBase)
        for letters in [3, 4, 5]:
            self.refused("row A 0:" + ",".join(["0"] * letters), NotLike)
        desk = desk_with("base 4")
        self.assertIsInstance(refusal_of(desk.told, "row A 0:0"), NoBase)
        self.assertIsInstance(refusal_of(desk.told, "row A 0:0,0"), NotLike)

    def test_statements_that_are_none(self):
        self.refused("say A n is", NoText, at=3)
        self.refused("say A n is 10", NoText, at=3)
        self.refused("say n = 1 and n = 2", NoText, at=3)
        # Ahead of a row that lacks.
        self.refused("say ( Q n is 1 and", NoText, at=6)
        self.refused("say Q n is 1 )", NoText, at=4)

    def test_statements_whose_relation_is_refused(self):
        self.refused("say Q n is 1", NoName, name="Q")
        self.refused("say ( Q n is 1 and R n is 1 )", NoName, name="Q")
        self.refused("say A n like R n", NoName, name="R")
        self.refused("say a + b + c = d + e", TooWide, many=5)
        self.refused("say ( a + b + c = d + e and Q n is 1 )", TooWide, many=5)
        self.refused("say ( Q n is 1 and a + b + c = d + e )", NoName, name="Q")
        self.refused("say ( x = 999999999 and y = 999999999 )", TooGreat)


class Names(unittest.TestCase):
    def no_name(self, line, name, *kept):
        desk = desk_with(*[f"row {letter} {TURNS}" for letter in kept])
        error = refusal_of(desk.told, line)
        self.assertIsInstance(error, NoName, line)
        self.assertEqual(error.name, name)

    def test_the_first_from_the_left(self):
        self.no_name("compare A B", "A")
        self.no_name("compare B A", "B")
        self.no_name("compare A B", "B", "A")
        self.no_name("compare A B", "A", "B")
        self.no_name("compare C D", "C", "A", "B")

    def test_each_line(self):
        for line in ["show A 5", "at A 5", "round A", "twice A", "compare A A"]:
            self.no_name(line, "A")
            self.no_name(line, "A", "B")

    def test_space(self):
        self.no_name("space A B 1 0", "B")
        self.no_name("space A B 1 0", "B", "A")
        self.no_name("space A A 1 0", "A")
        # Ahead of NoStep.
        self.no_name("space A B 0 25", "B", "A")

    def test_new_letters_need_no_row(self):
        desk = desk_with(f"row A {TURNS}")
        self.assertEqual(desk.told("space Q A 1 0"), "rooms 2")
        self.assertEqual(desk.told("show Q 4"), "0110")


class Spaces(unittest.TestCase):
    def test_no_step(self):
        desk = desk_with(f"row A {TURNS}")
        for step, first in [(0, 0), (13, 0), (1, 25), (0, 25), (10 ** 30 - 1, 0), (1, 10 ** 30 - 1)]:
            self.assertIsInstance(refusal_of(desk.told, f"space B A {step} {first}"), NoStep)

    def test_too_great(self):
        desk = desk_with("row A " + machine_text(only_at(2 ** 97 + 5, 2)))
        self.assertIsInstance(refusal_of(desk.told, "space B A 1 1"), TooGreat)
        self.assertIsInstance(refusal_of(desk.told, "space A A 1 25"), NoStep)
        self.assertIsInstance(refusal_of(desk.told, "round A"), TooGreat)
        self.assertIsInstance(refusal_of(desk.told, "twice A"), TooGreat)

    def test_base_5_verdicts(self):
        desk = desk_with("base 5", "row A 0:0,0,0,0,0")
        for word in ["round", "twice"]:
            self.assertEqual(refusal_of(desk.told, f"{word} A").many, 3)


class NothingChanges(unittest.TestCase):
    def test_what_is_refused_changes_nothing(self):
        refused = [
            "base 6", "base", "row A 0:0,9", "row A ", "row A 0:0", "row A 0:0,0,0", "row Q x", "row Q 0:0,0,0", "row a 0:0,0",
            "space A Q 1 0", "space A B 0 0", "space A B 13 0", "space A W 1 1", "space Q B 1 25", "space B B 1", "show Q 5",
            "show A 101", "compare A Q", "say x", "say Q n is 1", "say a + b + c = d + e", "round W", "twice W", "?",
        ]
        desk = desk_with(f"row A {TURNS}", f"row B {HALVES}", "row W " + machine_text(only_at(2 ** 97 + 5, 2)))
        for line in refused:
            self.assertIsInstance(refusal_of(desk.told, line), WheelError, line)
            self.assertEqual(desk.told("show A 8"), "01101001")
            self.assertEqual(desk.told("show B 4"), "3434")
            self.assertEqual(desk.told("at W 5"), "0")
            self.assertIsInstance(refusal_of(desk.told, "show Q 1"), NoName)
            self.assertIsInstance(refusal_of(desk.told, "row C 0:0,0,0"), NotLike)

    def test_what_is_asked_changes_nothing(self):
        desk = desk_with(f"row A {TURNS}", f"row B {HALVES}")
        for line in ["show A 5", "at B 7", "compare A B", "say some n A n like B n", "round A", "twice B", "say n = m"]:
            first = desk.told(line)
            self.assertEqual(desk.told(line), first)
            self.assertEqual(desk.told("show A 8"), "01101001")
            self.assertEqual(desk.told("show B 4"), "3434")


class LongSessions(unittest.TestCase):
    def test_all_letters(self):
        draw = drawing(151)
        desk = Desk()
        rows = {}
        for letter in "ABCDEFGHIJKLMNOPQRSTUVWXYZ":
            rows[letter] = drawn_machine(draw, draw.randrange(1, 10), 2, 4)
            self.assertEqual(desk.told(f"row {letter} {machine_text(rows[letter])}"), f"rooms {len(least(rows[letter])[0])}")
        for letter, row in rows.items():
            self.assertEqual(desk.told(f"show {letter} 100"), "".join(str(sign) for sign in first_signs(row, 100)))
        for one, other in itertools.product("AKZ", repeat=2):
            apart = next((place for place in range(2 ** 12) if sign_at(rows[one], place) != sign_at(rows[other], place)), None)
            self.assertEqual(desk.told(f"compare {one} {other}"), "alike" if apart is None else f"unlike {apart}")


class Machines(unittest.TestCase):
    def test_rows_not_in_least_form_are_kept_as_rows(self):
        desk = desk_with("row A 4:0,1 4:1,2 4:2,0")
        self.assertEqual(desk.told("show A 9"), "4" * 9)
        self.assertEqual(desk.told("space B A 12 24"), "rooms 1")
        self.assertEqual(machine_of([[0, 0]], [4]), least(read_machine("4:0,1 4:1,2 4:2,0")))


if __name__ == "__main__":
    unittest.main()
