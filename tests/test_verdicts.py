import itertools
import unittest

from figurewheel.errors import NoBase, TooGreat, TooWide
from figurewheel.firsts import first_of
from figurewheel.joining import both
from figurewheel.leaves import place_is
from figurewheel.machines import machine_of, sign_at
from figurewheel.mixing import mixed
from figurewheel.reader import read_statement
from figurewheel.relations import takes_by
from figurewheel.some import some
from figurewheel.spacing import spaced
from figurewheel.verdicts import comes_round, comes_twice
from figurewheel.writing import read_machine
from tests.making import adding, copied, drawing, drawn_machine, only_at, refusal_of, rest_by

TURNS = machine_of([[0, 1], [1, 0]], [0, 1])

ROUND = "( not p = 0 and all n ( n < m or some v ( n + p = v and A n like A v ) ) )"
TWICE = "( not p = 0 and all u ( ( u < n or not u < n + p ) or some v ( u + p = v and A u like A v ) ) )"

ROUNDS = [
    ("0:0,0", 0, 1), ("1:0,1 2:1,1", 1, 1), ("0:0,1 2:0,1", 0, 2), ("2:0,1 0:2,1 1:2,1", 1, 2),
    ("2:0,1 1:2,0 1:1,2", 0, 3), ("0:0,3 1:3,1 2:2,3 1:1,2 1:4,4", 1, 3), ("2:0,4 1:0,4 2:2,3 1:2,3 2:3,3", 3, 2),
    ("2:0,4 1:3,1 1:3,2 2:4,2 0:4,1", 3, 4), ("0:0,2 0:2,3 2:2,1 1:2,3", 4, 4),
    ("1:0,1 0:3,5 0:4,6 1:4,4 2:4,6 1:3,6 1:4,6", 14, 2), ("0:0,1 2:3,1 3:3,4 0:0,4 3:3,1 0:0,1", 0, 8),
    ("0:0,2,2 1:2,2,1 0:2,2,1", 3, 3), ("3:0,2,2 0:1,1,1 3:1,1,1 2:3,2,2", 3, 1), ("0:0,0,2 0:0,0,1 1:0,0,1", 0, 9),
    ("0:0,2,1 1:2,1,1 2:2,1,1", 2, 3), ("2:0,1,1,1 0:1,1,1,1", 1, 1), ("1:0,0,1,2 0:0,0,1,2 0:0,1,1,2", 0, 16),
    ("0:0,1,0,1 2:0,1,0,1", 0, 2),
]
TWICES = [
    ("0:0,0", 0, 1), ("0:0,1 2:0,1", 0, 2), ("0:0,1 1:2,0 2:1,2", 0, 3), ("1:0,1 0:2,3 1:0,1 2:2,3", 0, 4),
    ("1:0,1 0:2,3 2:4,5 0:0,1 1:2,3 2:4,5", 0, 6), ("2:0,1 0:2,1 1:2,1", 1, 2), ("2:0,1 1:2,3 2:4,5 0:0,1 2:2,3 0:4,5", 2, 2),
    ("2:0,1 1:2,3 0:0,1 2:2,3", 3, 1), ("2:0,1 0:4,6 1:1,2 0:6,6 3:4,6 0:0,2 1:4,4", 6, 1),
    ("2:0,1,2 1:0,1,2 0:0,1,2", 0, 3), ("1:0,1,2 0:0,1,2 1:0,1,2", 2, 1), ("1:0,1,2 0:3,4,5 1:0,1,2 2:3,4,5 1:0,1,2 0:3,4,5", 4, 2),
    ("1:0,1,2,3 2:4,5,0,1 0:2,3,4,5 2:0,1,2,3 1:4,5,0,1 0:2,3,4,5", 0, 6), ("1:0,1,0,1 0:0,1,0,0 1:1,1,3,1 1:1,2,1,2", 6, 1),
    ("1:0,1,2,3 2:0,1,2,3 1:0,1,2,3 0:0,1,2,3", 0, 4),
]
# The Thue-Morse row's steps, up, down or none: it has no word twice on end.
STEPS = mixed(spaced(TURNS, 1, 1), TURNS, {(0, 0): 1, (1, 1): 1, (1, 0): 2, (0, 1): 0})


def signs_of(row, many):
    return [sign_at(row, place) for place in range(many)]


def told_round(signs, longest):
    """The least length that holds to the end, and its least place, told of many signs."""
    far = len(signs) - longest - 1
    for length in range(1, longest + 1):
        place = far
        while place > 0 and signs[place - 1] == signs[place - 1 + length]:
            place -= 1
        if place < far // 2:
            return ("round", place, length)
    return ("never",)


def told_twice(signs, longest):
    for length in range(1, longest + 1):
        for place in range(len(signs) - 2 * length):
            if signs[place:place + length] == signs[place + length:place + 2 * length]:
                return ("twice", place, length)
    return ("never",)


def found_by_the_document(row, word, text, name):
    """Point 35 and 36, making by making."""
    base = len(row[0][0])
    relation = read_statement(text).relation(base, {"A": row})
    lengths = first_of(some(relation, name))
    if lengths is None:
        return ("never",)
    return (word, first_of(both(relation, place_is(base, "p", lengths[0])))[0], lengths[0])


class Round(unittest.TestCase):
    def test_told_rows(self):
        for text, place, length in ROUNDS:
            row = read_machine(text)
            with self.subTest(text=text):
                self.assertEqual(comes_round(row), ("round", place, length))
                self.assertEqual(told_round(signs_of(row, 800), 20), ("round", place, length))

    def test_rows_that_never_do(self):
        for row in [TURNS, read_machine("1:0,1,0 3:1,1,0"), read_machine("1:0,1,1,1 0:1,1,0,1"), only_powers(2)]:
            self.assertEqual(comes_round(row), ("never",))
            self.assertEqual(told_round(signs_of(row, 800), 20), ("never",))

    def test_rests(self):
        for base, length in itertools.product([2, 3, 4], [1, 2, 3, 4, 5, 6, 7]):
            row = rest_by(length, base)
            if refusal_of(comes_round, row) is None:
                self.assertEqual(comes_round(row), ("round", 0, length))
            else:
                self.assertGreater(length, 4)

    def test_one_place_alone(self):
        for base, place in itertools.product([2, 3, 4], [0, 1, 2, 3, 4, 7, 11, 20]):
            row = only_at(place, base)
            if refusal_of(comes_round, row) is None:
                self.assertEqual(comes_round(row), ("round", place + 1, 1))
            else:
                self.assertIsInstance(refusal_of(comes_round, row), TooGreat)
                self.assertGreater(place, 3)

    def test_drawn_rows(self):
        draw = drawing(141)
        told = {}
        for base, index in itertools.product([2, 3, 4], range(120)):
            row = drawn_machine(draw, draw.randrange(1, 5), base, 2)
            error = refusal_of(comes_round, row)
            if error is None:
                verdict = comes_round(row)
                told[verdict] = told.get(verdict, 0) + 1
                self.assertEqual(verdict, told_round(signs_of(row, 700), 30))
                self.assertEqual(verdict, found_by_the_document(row, "round", ROUND, "m"))
            else:
                self.assertIsInstance(error, TooGreat)
        self.assertGreater(len(told), 4)
        self.assertGreater(told[("never",)], 20)

    def test_kinds(self):
        for row in [TURNS, rest_by(3, 2)]:
            verdict = comes_round(row)
            self.assertIs(type(verdict), tuple)
            self.assertTrue(all(type(part) in (str, int) for part in verdict))

    def test_rooms_alike_change_nothing(self):
        draw = drawing(142)
        for text, place, length in ROUNDS[:8]:
            row = read_machine(text)
            self.assertEqual(comes_round(copied(draw, row, 100 // len(row[0]))), ("round", place, length))


def only_powers(base):
    """Sign 1 at the base's powers alone."""
    return machine_of([[0, 1] + [2] * (base - 2), [1] + [2] * (base - 1), [2] * base], [0, 1, 0])


class Twice(unittest.TestCase):
    def test_told_rows(self):
        for text, place, length in TWICES:
            row = read_machine(text)
            with self.subTest(text=text):
                self.assertEqual(comes_twice(row), ("twice", place, length))
                self.assertEqual(told_twice(signs_of(row, 200), 20), ("twice", place, length))

    def test_drawn_rows(self):
        draw = drawing(143)
        told = {}
        for base, index in itertools.product([2, 3, 4], range(80)):
            row = drawn_machine(draw, draw.randrange(1, 5), base, 3)
            if draw.random() < 0.5:
                length = draw.randrange(1, 7)
                row = rest_by(length, base, [draw.randrange(3) for rest in range(length)])
            error = refusal_of(comes_twice, row)
            if error is None:
                verdict = comes_twice(row)
                told[verdict] = told.get(verdict, 0) + 1
                self.assertEqual(verdict, told_twice(signs_of(row, 200), 20))
                self.assertEqual(verdict, found_by_the_document(row, "twice", TWICE, "n"))
            else:
                self.assertIsInstance(error, TooGreat)
        self.assertGreater(len(told), 4)

    def test_a_row_without_such_a_word(self):
        # Its sets of rooms are too many, so it is refused; but what the relation says of small places is so of none.
        self.assertEqual(told_twice(signs_of(STEPS, 400), 200), ("never",))
        self.assertRaises(TooGreat, comes_twice, STEPS)
        inner = read_statement("( ( u < n or not u < n + p ) or some v ( u + p = v and A u like A v ) )")
        relation = inner.relation(2, {"A": STEPS})
        for place, length in itertools.product(range(12), range(1, 8)):
            told = [takes_by(relation, {"n": place, "p": length, "u": other}) for other in range(30)]
            self.assertFalse(all(told))

    def test_refused_where_the_sets_are_too_many(self):
        inner = read_statement("( ( u < n or not u < n + p ) or some v ( u + p = v and A u like A v ) )")
        self.assertIsNone(refusal_of(inner.relation, 2, {"A": TURNS}))
        self.assertIsInstance(refusal_of(read_statement("all u " + inner.text()).relation, 2, {"A": TURNS}), TooGreat)
        self.assertRaises(TooGreat, comes_twice, TURNS)


class Refusals(unittest.TestCase):
    def test_no_base(self):
        for letters, rooms in itertools.product([1, 6, 64], [1, 3, 100]):
            self.assertRaises(NoBase, comes_round, adding(rooms, letters))
            self.assertRaises(NoBase, comes_twice, adding(rooms, letters))

    def test_base_5(self):
        draw = drawing(144)
        for row in [rest_by(1, 5), rest_by(2, 5), only_at(5 ** 97, 5), drawn_machine(draw, 20, 5)]:
            for asked in [comes_round, comes_twice]:
                error = refusal_of(asked, row)
                self.assertIsInstance(error, TooWide)
                self.assertEqual(error.many, 3)

    def test_too_great(self):
        for base in [2, 3, 4]:
            # Eleven rooms have 121 pairs.
            row = only_at(base ** 8 + 1, base)
            self.assertRaises(TooGreat, comes_round, row)
            self.assertRaises(TooGreat, comes_twice, row)


if __name__ == "__main__":
    unittest.main()
