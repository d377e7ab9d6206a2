"""What the document promises over the whole program: points 1 to 3."""

import importlib
import inspect
import itertools
import pathlib
import re
import unittest

from figurewheel.comparing import compared, place_apart, shows_alike
from figurewheel.desk import Desk
from figurewheel.errors import TooGreat
from figurewheel.firsts import first_of
from figurewheel.least import as_reached, least
from figurewheel.machines import first_signs, sign_at, teller
from figurewheel.mixing import mixed
from figurewheel.reader import read_statement
from figurewheel.relations import takes, takes_by
from figurewheel.spacing import spaced
from figurewheel.turning import back_sign_at, to_back, to_front
from figurewheel.words import grown, letter_at, row_of_words, words_of_row
from figurewheel.writing import machine_text, read_machine
from tests.grammar import drawn_tree, is_so
from tests.making import GREAT, drawing, drawn_machine, drawn_places, is_relation, refusal_of

INTERFACE = {
    "figures": ["figures_of(place, base=2)", "number_of(figures, base=2)", "columns_of(places, base=2)",
                "numbers_of(columns, many, base=2)", "code_of(column, base=2)", "column_of(code, many, base=2)"],
    "machines": ["machine_of(rows, signs)", "room_of(machine, letters)", "sign_of(machine, letters)", "base_of(row)",
                 "sign_at(row, place)", "first_signs(row, many)", "teller(row)"],
    "writing": ["machine_text(machine)", "read_machine(text)"],
    "words": ["grown(words, begin, signs, many)", "letter_at(words, begin, signs, place)",
              "row_of_words(words, begin, signs)", "words_of_row(row)"],
    "least": ["as_reached(machine)", "least(machine)"],
    "comparing": ["compared(one, other)", "place_apart(one, other)", "shows_alike(one, other, pairs)"],
    "turning": ["back_of(rows, signs)", "back_sign_at(back, place)", "to_back(row)", "to_front(back)"],
    "spacing": ["spaced(row, step, first=0)"],
    "mixing": ["mixed(one, other, table)"],
    "relations": ["takes(relation, places)", "takes_by(relation, known)"],
    "leaves": ["sign_is(row, name, sign)", "signs_like(row, name, other, second)", "sums(base, left, right, word)",
               "place_is(base, name, place)"],
    "joining": ["both(one, other)", "either(one, other)", "no(one)"],
    "some": ["some(relation, name)", "every(relation, name)"],
    "firsts": ["first_of(relation)"],
    "statements": ["Statement()", "SignIs(row, name, sign)", "SignsLike(row, name, other, second)",
                   "Sums(left, right, word)", "PlaceIs(name, place)", "No(one)", "Both(one, other)", "Either(one, other)",
                   "Some(name, one)", "Every(name, one)"],
    "reader": ["read_statement(text)"],
    "verdicts": ["comes_round(row)", "comes_twice(row)"],
    "desk": ["Desk()"],
}


class Interface(unittest.TestCase):
    def test_names_and_arguments(self):
        for name, told in INTERFACE.items():
            module = importlib.import_module(f"figurewheel.{name}")
            for line in told:
                asked = getattr(module, line.partition("(")[0])
                self.assertEqual(line.partition("(")[0] + str(inspect.signature(asked)), line)

    def test_methods(self):
        statements = importlib.import_module("figurewheel.statements")
        for line in INTERFACE["statements"][1:]:
            kind = getattr(statements, line.partition("(")[0])
            self.assertEqual(str(inspect.signature(kind.free)), "(self)")
            self.assertEqual(str(inspect.signature(kind.text)), "(self)")
            self.assertEqual(str(inspect.signature(kind.relation)), "(self, base, rows)")
        self.assertEqual(str(inspect.signature(Desk.told)), "(self, line)")


class EachWay(unittest.TestCase):
    def test_a_row_led_through_all_ways(self):
        draw = drawing(161)
        turned = 0
        for base, index in itertools.product([2, 3, 4, 5], range(15)):
            row = drawn_machine(draw, draw.randrange(1, 7), base, 3)
            places = list(range(60)) + GREAT + drawn_places(draw, 5)
            signs = [sign_at(row, place) for place in places]
            words, begin, told = words_of_row(row)
            self.assertEqual([told[letter_at(words, begin, told, place)] for place in places], signs)
            self.assertEqual([told[letter] for letter in grown(words, begin, told, 60)], signs[:60])
            ways = [
                as_reached(row), least(row), read_machine(machine_text(row)), row_of_words(words, begin, told), spaced(row, 1),
                mixed(row, row, {(sign, sign): sign for sign in range(3)}),
            ]
            if refusal_of(to_back, row) is None:
                turned += 1
                self.assertEqual([back_sign_at(to_back(row), place) for place in places], signs)
                ways.append(to_front(to_back(row)))
            for way in ways:
                self.assertEqual([sign_at(way, place) for place in places], signs)
                self.assertEqual([teller(way)(place) for place in places], signs)
                self.assertEqual(least(way), least(row))
                self.assertIsNone(place_apart(way, row))
                self.assertTrue(shows_alike(way, row, compared(way, row)[1]))
        self.assertGreater(turned, 25)

    def test_one_way_behind_another(self):
        draw = drawing(162)
        done = 0
        for base, index in itertools.product([2, 3, 4, 5], range(12)):
            row = drawn_machine(draw, draw.randrange(2, 5), base, 2)
            table = {pair: draw.randrange(10) for pair in itertools.product(range(2), repeat=2)}
            try:
                moved = spaced(to_front(to_back(read_machine(machine_text(row)))), 3, 2)
                words, begin, told = words_of_row(mixed(row, moved, table))
                last = row_of_words(words, begin, told)
            except TooGreat:
                continue
            done += 1
            for place in list(range(60)) + GREAT + drawn_places(draw, 5):
                sign = table[(sign_at(row, place), sign_at(row, 3 * place + 2))]
                self.assertEqual(sign_at(last, place), sign)
                self.assertEqual(told[letter_at(words, begin, told, place)], sign)
        self.assertGreater(done, 20)

    def test_spaced_rows_put_together_again(self):
        # Both halves of a row, each led another way, have its signs between them.
        draw = drawing(163)
        for base, index in itertools.product([2, 3], range(8)):
            row = drawn_machine(draw, 3, base, 4)
            halves = [spaced(row, 2, first) for first in range(2)]
            for place in list(range(100)) + GREAT:
                self.assertEqual(sign_at(halves[place % 2], place // 2), sign_at(row, place))


class Statements(unittest.TestCase):
    def test_a_statement_s_relation_beside_what_it_says(self):
        draw = drawing(164)
        done = 0
        for base, index in itertools.product([2, 3, 4, 5], range(40)):
            rows = {"A": drawn_machine(draw, 2, base, 2), "B": drawn_machine(draw, 3, base, 2)}
            signs = {name: teller(row) for name, row in rows.items()}
            statement = read_statement(drawn_tree(draw, ["x", "y"], ["A", "B"], 5).text())
            if refusal_of(statement.relation, base, rows) is not None:
                continue
            done += 1
            relation = statement.relation(base, rows)
            self.assertTrue(is_relation(relation))
            many = len(relation[1])
            places = list(itertools.product(range(16), repeat=many)) + [
                tuple(draw.choice(GREAT + [place]) for name in relation[1]) for place in drawn_places(draw, 15)]
            for told in places:
                known = dict(zip(relation[1], told))
                self.assertIs(takes_by(relation, known), is_so(statement, known, signs, 0))
            first = first_of(relation)
            if first is not None:
                self.assertTrue(takes(relation, first))
                self.assertTrue(is_so(statement, dict(zip(relation[1], first)), signs, 0))
            else:
                self.assertFalse(any(takes(relation, list(told)) for told in places))
        self.assertGreater(done, 100)

    def test_known_truths(self):
        # Each with its rows by base 2; so, or not so.
        turns, halves = "0:0,1 1:1,0", "0:0,1 1:0,1"
        for text, told in [
            ("all x all y some z x + y = z", "so"), ("all x some y x = y + y", "not so"),
            ("all x some y ( x = y + y or some z ( z = 1 and x = y + y + z ) )", "so"),
            ("all x all y ( x < y or ( y < x or x = y ) )", "so"), ("some x all y ( x = y or x < y )", "so"),
            ("some x all y ( x = y or y < x )", "not so"), ("all n all m ( A n like A m or not n + n = m )", "so"),
            ("all n all m ( not n + n = m or B m is 0 )", "so"), ("all n ( not B n is 1 or some m ( n < m and A m is 0 ) )", "so"),
            ("some n ( A n is 1 and B n is 0 )", "so"), ("all n A n like B n", "not so"),
            # No three signs on end are alike in this row.
            ("some n some m some k ( ( o = 1 and ( n + o = m and m + o = k ) ) and ( A n like A m and A m like A k ) )", "never"),
        ]:
            desk = Desk()
            desk.told(f"row A {turns}")
            desk.told(f"row B {halves}")
            self.assertEqual(desk.told(f"say {text}"), told, text)


class Readme(unittest.TestCase):
    def test_the_desk_s_answers(self):
        text = (pathlib.Path(__file__).resolve().parent.parent / "README.md").read_text()
        told = re.findall(r'^desk\.told\("(.*)"\) +# "([^"]*)"', text, re.MULTILINE)
        self.assertGreater(len(told), 5)
        desk = Desk()
        for line, answer in told:
            self.assertEqual(desk.told(line), answer)


class NothingKept(unittest.TestCase):
    def test_asked_again(self):
        # What was asked before changes no answer.
        row = read_machine("0:0,1 1:1,0")
        before = (first_signs(row, 50), to_back(row), spaced(row, 3, 1), words_of_row(row))
        refusal_of(spaced, row, 13)
        refusal_of(read_statement, "x")
        mixed(row, row, {(0, 0): 1, (1, 1): 0})
        self.assertEqual((first_signs(row, 50), to_back(row), spaced(row, 3, 1), words_of_row(row)), before)


if __name__ == "__main__":
    unittest.main()
