import itertools
import unittest

from figurewheel.errors import NoBase, NoStep, TooGreat
from figurewheel.figures import figures_of
from figurewheel.least import least
from figurewheel.machines import first_signs, machine_of, room_of, sign_at
from figurewheel.spacing import spaced
from figurewheel.writing import read_machine
from tests.making import (
    GREAT, adding, copied, drawing, drawn_machine, drawn_places, fewest_rooms, only_at, refusal_of, rest_by,
)

TURNS = machine_of([[0, 1], [1, 0]], [0, 1])

# Rows, steps and first places with just so many unlike windows (point 23).
WINDOWS_100 = [
    ("2:0,4 0:6,1 0:0,7 1:2,9 2:0,5 0:4,8 0:7,5 2:0,1 1:4,4 1:6,3", 11, 17),
    ("2:0,4,1 2:6,2,0 1:0,2,2 2:5,5,4 0:6,1,0 1:6,2,0 1:3,3,5", 7, 0),
    ("1:0,3,2,2,1 0:0,0,3,1,2 2:2,0,0,2,0 0:3,3,0,0,0", 9, 0),
]
WINDOWS_101 = [
    ("0:0,7 1:7,2 1:0,2 0:3,5 0:9,8 1:5,3 1:0,3 1:2,1 1:3,6 0:1,7", 3, 18),
    ("0:0,3,4 1:2,3,2 1:3,0,2 1:1,3,0 0:0,2,0", 8, 0),
    ("2:0,2,0,3,0 2:3,1,3,1,1 0:0,2,0,2,1 1:3,0,3,3,1", 12, 0),
]


def windows_of(row, step, first, most=400):
    """How many unlike windows the places have, found place by place, longer places only behind new windows."""
    form = least(row)
    base = len(form[0][0])

    def window(place):
        places = range(step * place, step * place + max(first, step - 1) + 1)
        return tuple(room_of(form, figures_of(one, base)) for one in places)

    known = {window(0)}
    new = [0]
    for place in new:
        for figure in range(base):
            if window(base * place + figure) not in known:
                known.add(window(base * place + figure))
                new.append(base * place + figure)
        if len(new) > most:
            break
    return len(known)


class Spaced(unittest.TestCase):
    def assert_spaced(self, row, step, first, draw, many=60):
        told = spaced(row, step, first)
        for place in list(range(many)) + GREAT + drawn_places(draw, 3):
            self.assertEqual(sign_at(told, place), sign_at(row, step * place + first))
        self.assertEqual(least(told), told)
        return told

    def test_each_step_and_first(self):
        draw = drawing(51)
        rows = [TURNS, rest_by(3, 2), rest_by(4, 3), machine_of([[0, 1, 2, 1], [1, 2, 2, 0], [2, 2, 0, 1]], [5, 5, 6])]
        done = 0
        for row, step, first in itertools.product(rows, range(1, 13), range(25)):
            if windows_of(row, step, first, 100) > 100:
                self.assertIsInstance(refusal_of(spaced, row, step, first), TooGreat)
            else:
                done += 1
                self.assert_spaced(row, step, first, draw)
        self.assertGreater(done, 700)

    def test_drawn_rows(self):
        draw = drawing(52)
        refused = 0
        for base, index in itertools.product([2, 3, 4, 5], range(60)):
            row = drawn_machine(draw, draw.randrange(1, 12), base, 3)
            step, first = draw.randrange(1, 13), draw.choice([0, 0, 1, 5, draw.randrange(25)])
            if windows_of(row, step, first, 100) > 100:
                refused += 1
                self.assertIsInstance(refusal_of(spaced, row, step, first), TooGreat)
            else:
                self.assertEqual(len(self.assert_spaced(row, step, first, draw)[0]), fewest_rooms(spaced(row, step, first)))
        self.assertIn(refused, range(30, 200))

    def test_first_left_out(self):
        for step in range(1, 13):
            self.assertEqual(spaced(TURNS, step), spaced(TURNS, step, 0))
            self.assertEqual(first_signs(spaced(TURNS, step), 50), [sign_at(TURNS, step * place) for place in range(50)])

    def test_the_least_form_is_told(self):
        draw = drawing(53)
        row = drawn_machine(draw, 5, 3, 2)
        self.assertEqual(spaced(row, 1), least(row))
        for step, first in [(1, 0), (2, 1), (3, 0), (3, 3), (5, 0)]:
            self.assertEqual(spaced(copied(draw, row, 20), step, first), spaced(row, step, first))
        # Each other sign of this row is 4.
        self.assertEqual(spaced(machine_of([[0, 1], [0, 1]], [4, 5]), 2), (((0, 0),), (4,)))
        self.assertEqual(spaced(machine_of([[0, 1], [0, 1]], [4, 5]), 2, 1), (((0, 0),), (5,)))

    def test_no_step(self):
        for step, first in [(0, 0), (13, 0), (-1, 3), (14, 24), (1, -1), (1, 25), (12, 26), (12, -2), (0, 25), (13, -1),
                            (10 ** 59, 0), (-(10 ** 59), 0), (1, 10 ** 59), (1, -(10 ** 59))]:
            for row in [TURNS, rest_by(7, 5)]:
                self.assertRaises(NoStep, spaced, row, step, first)
        self.assertRaises(NoStep, spaced, TURNS, 0)
        self.assertRaises(NoStep, spaced, TURNS, 13)

    def test_edges_are_taken(self):
        draw = drawing(54)
        for row in [machine_of([[0, 1], [0, 1]], [4, 5]), rest_by(2, 3)]:
            for step, first in [(1, 0), (12, 0), (1, 24), (12, 24)]:
                self.assert_spaced(row, step, first, draw)

    def test_no_base_ahead_of_no_step(self):
        for letters in [1, 6, 64]:
            for step, first in [(1, 0), (0, 0), (13, 0), (1, 25)]:
                self.assertRaises(NoBase, spaced, adding(5, letters), step, first)

    def test_no_step_ahead_of_too_great(self):
        row = only_at(2 ** 97, 2)
        self.assertRaises(TooGreat, spaced, row, 12, 24)
        self.assertRaises(NoStep, spaced, row, 12, 25)
        self.assertRaises(NoStep, spaced, row, 13, 24)

    def test_just_100_windows(self):
        draw = drawing(55)
        for text, step, first in WINDOWS_100:
            row = read_machine(text)
            self.assertEqual(windows_of(row, step, first), 100)
            self.assert_spaced(row, step, first, draw)
        for base in [2, 3, 4, 5]:
            # One place a window: as many windows as rooms.
            row = only_at(base ** 97 + 5, base)
            self.assertEqual(windows_of(row, 1, 0), 100)
            self.assertEqual(spaced(row, 1, 0), least(row))

    def test_just_more(self):
        for text, step, first in WINDOWS_101:
            self.assertEqual(windows_of(read_machine(text), step, first), 101)
            self.assertRaises(TooGreat, spaced, read_machine(text), step, first)
        # Of two places a window, one room more: what follows on the last place but one.
        for base in [2, 3]:
            row = only_at(base ** 97 + 5, base)
            self.assertGreater(windows_of(row, 1, 1), 100)
            self.assertRaises(TooGreat, spaced, row, 1, 1)

    def test_windows_count_though_the_row_told_is_small(self):
        # All signs of the told row are 0, but the windows see the rooms beside its places.
        row = rest_by(30, 5, [0, 1, 2, 3, 4, 5] * 5)
        form = least(row)
        self.assertEqual(len(form[0]), 6)
        self.assertEqual(spaced(row, 6), (((0,) * 5,), (0,)))
        row = only_at(2 ** 97 + 5, 2)
        self.assertEqual(spaced(row, 2, 0), (((0, 0),), (0,)))
        self.assertGreater(windows_of(row, 2, 4), 100)
        self.assertRaises(TooGreat, spaced, row, 2, 4)

    def test_rooms_alike_do_not_count(self):
        draw = drawing(56)
        for text, step, first in WINDOWS_100:
            row = read_machine(text)
            self.assertEqual(spaced(copied(draw, row, 100 // len(row[0])), step, first), spaced(row, step, first))

    def test_what_is_handed_in_stays(self):
        row = machine_of([[0, 1], [1, 0]], [0, 1])
        spaced(row, 3, 2)
        self.assertEqual(row, (((0, 1), (1, 0)), (0, 1)))


if __name__ == "__main__":
    unittest.main()
