import itertools
import unittest

from figurewheel.errors import NoBase, NoPair, NotLike, TooGreat
from figurewheel.least import least
from figurewheel.machines import first_signs, machine_of, sign_at
from figurewheel.mixing import mixed
from tests.making import (
    GREAT, adding, copied, drawing, drawn_machine, drawn_places, fewest_rooms, only_at, refusal_of, rest_by,
)

TURNS = machine_of([[0, 1], [1, 0]], [0, 1])
LAST = machine_of([[0, 1], [0, 1]], [4, 5])


def whole_table(draw, signs=10):
    return {pair: draw.randrange(10) for pair in itertools.product(range(signs), repeat=2)}


class Mixed(unittest.TestCase):
    def assert_mixed(self, one, other, table, draw):
        kept = dict(table)
        told = mixed(one, other, table)
        self.assertEqual(table, kept)
        self.assertEqual(list(table), list(kept))
        for place in list(range(200)) + GREAT + drawn_places(draw, 20):
            self.assertEqual(sign_at(told, place), table[(sign_at(one, place), sign_at(other, place))])
        self.assertEqual(least(told), told)
        self.assertEqual(len(told[0]), fewest_rooms(told))
        return told

    def no_pair(self, one, other, table, pair):
        error = refusal_of(mixed, one, other, table)
        self.assertIsInstance(error, NoPair)
        self.assertEqual((error.pair, type(error.pair)), (pair, tuple))

    def test_told_row(self):
        table = {(0, 4): 0, (0, 5): 1, (1, 4): 2, (1, 5): 3}
        self.assertEqual(first_signs(mixed(TURNS, LAST, table), 8), [0, 3, 2, 1, 2, 1, 0, 3])

    def test_the_first_row_s_sign_stands_first(self):
        table = {(0, 4): 0, (0, 5): 1, (1, 4): 2, (1, 5): 3}
        swapped = {(b, a): sign for (a, b), sign in table.items()}
        self.assertEqual(mixed(LAST, TURNS, swapped), mixed(TURNS, LAST, table))
        self.no_pair(LAST, TURNS, table, (4, 0))

    def test_drawn_rows(self):
        draw = drawing(61)
        for base, index in itertools.product([2, 3, 4, 5], range(15)):
            one = drawn_machine(draw, draw.randrange(1, 11), base, 4)
            other = drawn_machine(draw, draw.randrange(1, 11), base, 4)
            self.assert_mixed(one, other, whole_table(draw), draw)

    def test_the_least_form_is_told(self):
        draw = drawing(62)
        one, other, table = drawn_machine(draw, 5, 3, 2), drawn_machine(draw, 6, 3, 2), whole_table(draw)
        told = mixed(one, other, table)
        self.assertEqual(mixed(copied(draw, one, 20), copied(draw, other, 16), table), told)
        self.assertEqual(mixed(one, other, {pair: 7 for pair in table}), (((0, 0, 0),), (7,)))
        self.assertEqual(mixed(one, one, {(0, 0): 0, (1, 1): 1}), least(one))

    def test_no_base(self):
        for letters in [1, 6, 64]:
            machine = adding(3, letters)
            for one, other in [(machine, TURNS), (TURNS, machine), (machine, machine), (machine, adding(3, 7))]:
                self.assertRaises(NoBase, mixed, one, other, {})

    def test_not_like(self):
        for one, other in itertools.permutations([2, 3, 4, 5], 2):
            self.assertRaises(NotLike, mixed, adding(2, one), adding(2, other), {})
            # Ahead of TooGreat.
            self.assertRaises(NotLike, mixed, only_at(one ** 97, one), only_at(other ** 97 + 1, other), {})

    def test_pairs_that_never_come(self):
        draw = drawing(63)
        table = {(0, 4): 1, (1, 4): 2, (0, 5): 3, (1, 5): 4}
        more = {**table, (9, 9): 0, (4, 0): 9, (0, 0): 5, (1, 1): 6}
        self.assertEqual(self.assert_mixed(TURNS, LAST, more, draw), mixed(TURNS, LAST, table))

    def test_a_lacking_pair_that_never_comes(self):
        draw = drawing(64)
        # Room 1's sign is 7 and is never reached; the pair (0, 0) comes with itself alone.
        one = machine_of([[0, 0], [1, 1]], [3, 7])
        self.assert_mixed(one, TURNS, {(3, 0): 1, (3, 1): 2}, draw)
        self.assert_mixed(TURNS, TURNS, {(0, 0): 1, (1, 1): 2}, draw)
        self.assert_mixed(rest_by(4, 3), rest_by(2, 3), {(0, 0): 1, (1, 1): 2, (2, 0): 3, (3, 1): 4}, draw)

    def test_the_lacking_pair_of_the_least_place(self):
        self.no_pair(TURNS, LAST, {}, (0, 4))
        table = {(0, 4): 0, (0, 5): 1, (1, 4): 2, (1, 5): 3}
        # They come first at the places 0, 3, 2 and 1.
        for order in itertools.permutations([(0, 4), (1, 5), (1, 4), (0, 5)]):
            for many in range(1, 5):
                lacking = order[:many]
                told = min(lacking, key=[(0, 4), (1, 5), (1, 4), (0, 5)].index)
                self.no_pair(TURNS, LAST, {pair: sign for pair, sign in table.items() if pair not in lacking}, told)

    def test_lacking_pairs_of_drawn_rows(self):
        draw = drawing(65)
        for base, index in itertools.product([2, 3, 4, 5], range(25)):
            one = drawn_machine(draw, 6, base, 4)
            other = drawn_machine(draw, 6, base, 4)
            table = {pair: 0 for pair in itertools.product(range(4), repeat=2) if draw.random() < 0.6}
            pairs = [(sign_at(one, place), sign_at(other, place)) for place in range(3000)]
            lacking = [pair for pair in pairs if pair not in table]
            if lacking:
                self.no_pair(one, other, table, lacking[0])
            else:
                mixed(one, other, table)

    def test_a_lacking_pair_at_a_great_place(self):
        for base in [2, 3, 4, 5]:
            one, other = only_at(base ** 90 + 1, base), machine_of([[0] * base], [6])
            self.no_pair(one, other, {(0, 6): 1}, (1, 6))
            self.assertEqual(len(mixed(one, other, {(0, 6): 1, (1, 6): 1})[0]), 1)

    def test_just_100_pairs(self):
        draw = drawing(66)
        table = {(0, 0): 3, (0, 1): 4, (1, 0): 5, (1, 1): 6}
        place = 2 ** 97 + 6
        self.assert_mixed(only_at(place, 2), only_at(place, 2), table, draw)
        one, other = rest_by(4, 3), rest_by(25, 3, [1] + [0] * 24)
        told = self.assert_mixed(one, other, {(a, b): a for a in range(4) for b in range(2)}, draw)
        self.assertEqual(told, least(one))
        self.assertEqual(len(least(other)[0]), 25)

    def test_just_more(self):
        # The rows part at their last figure: 98 pairs ahead of it, and three behind; of one figure less 100 in all.
        table = {(0, 0): 3, (0, 1): 3, (1, 0): 3, (1, 1): 3}
        place = 2 ** 97 + 6
        self.assertRaises(TooGreat, mixed, only_at(place, 2), only_at(place + 1, 2), table)
        self.assertRaises(TooGreat, mixed, only_at(place + 1, 2), only_at(place, 2), table)
        self.assertEqual(len(mixed(only_at(2 ** 96 + 6, 2), only_at(2 ** 96 + 7, 2), table)[0]), 1)
        one, other = rest_by(6, 5, [1] + [0] * 5), rest_by(17, 5, [1] + [0] * 16)
        self.assertRaises(TooGreat, mixed, one, other, table)

    def test_too_great_ahead_of_no_pair(self):
        place = 2 ** 97 + 6
        self.assertRaises(TooGreat, mixed, only_at(place, 2), only_at(place + 1, 2), {})
        self.no_pair(only_at(place, 2), only_at(place, 2), {}, (0, 0))
        self.no_pair(only_at(place, 2), only_at(place, 2), {(0, 0): 1}, (1, 1))

    def test_pairs_of_the_least_forms_count(self):
        draw = drawing(67)
        one, other = drawn_machine(draw, 3, 2, 2), drawn_machine(draw, 3, 2, 2)
        table = whole_table(draw, 2)
        self.assertEqual(mixed(copied(draw, one, 33), copied(draw, other, 33), table), mixed(one, other, table))

    def test_a_table_of_ten_thousand(self):
        draw = drawing(68)
        table = {(a, b): (a + b) % 10 for a in range(100) for b in range(100)}
        self.assert_mixed(rest_by(4, 3), rest_by(5, 3), table, draw)


if __name__ == "__main__":
    unittest.main()
