import itertools
import unittest

from figurewheel.errors import NoBase, NoMachine, TooGreat
from figurewheel.figures import figures_of
from figurewheel.least import as_reached, least
from figurewheel.machines import machine_of, sign_at
from figurewheel.turning import back_of, back_sign_at, to_back, to_front
from figurewheel.writing import read_machine
from tests.making import (
    GREAT, SIXTY, adding, all_reached, copied, drawing, drawn_back, drawn_machine, drawn_places, fewest_rooms, only_at,
    refusal_of, rest_by,
)

TURNS = machine_of([[0, 1], [1, 0]], [0, 1])

# Rows and back machines with just so many tuples of signs (point 22).
ROWS_100 = [
    "2:0,2 0:3,0 1:4,3 0:1,4 2:1,0", "1:0,3,3 1:4,4,1 2:2,0,1 0:1,0,0 1:2,3,2",
    "0:0,1,4,1,1 0:1,2,2,1,1 2:3,1,1,2,1 2:4,2,4,3,2 1:1,0,2,2,2",
]
ROWS_101 = [
    "0:0,3 2:4,1 2:1,2 0:1,0 1:2,0", "2:0,3,2 2:3,1,3 1:1,1,1 2:0,0,4 0:3,3,1",
    "2:0,2,3,2,2 1:3,0,4,1,2 0:3,3,1,1,0 2:3,4,4,1,4 1:1,2,0,0,2",
]
BACKS_100 = [
    "2:2,2 0:1,2 2:0,4 1:3,1 2:2,3", "2:4,4,2 0:1,4,6 0:2,1,5 1:6,0,2 2:0,4,2 0:2,2,4 1:3,0,6",
    "1:0,5,0,6,1 1:4,0,0,5,2 1:1,1,0,4,1 1:4,1,5,3,4 1:0,6,6,3,3 0:6,4,1,1,4 0:5,5,5,2,6",
]
BACKS_101 = [
    "1:6,1 0:7,6 2:4,4 0:7,5 2:4,3 2:4,3 1:6,7 0:1,2", "1:0,2,3 2:3,3,3 0:2,0,4 2:1,2,1 2:4,0,0",
    "0:0,4,1,3,6 1:1,6,6,6,6 1:5,5,4,6,4 1:2,1,5,1,1 0:6,1,4,6,6 1:3,2,5,5,4 0:4,6,1,2,1",
]


def read_back(text):
    rooms = [word.split(":") for word in text.split(" ")]
    return back_of([[int(led) for led in led_to.split(",")] for sign, led_to in rooms], [int(sign) for sign, led in rooms])


def tuples_met(machine):
    """How many tuples of point 22 there are, or 1000 where there are more than that."""
    rows, signs = least(machine)
    met = [signs]
    known = {signs}
    for told in met:
        for letter in range(len(rows[0])):
            led = tuple(told[row[letter]] for row in rows)
            if led not in known:
                known.add(led)
                met.append(led)
        if len(met) > 1000:
            return 1000
    return len(met)


def slow_back_sign(back, place):
    room = 0
    base = len(back[0][0])
    while place > 0:
        room = back[0][room][place % base]
        place //= base
    return back[1][room]


class MakingBacks(unittest.TestCase):
    def refused(self, rows, signs, word, number):
        kept = ([list(row) for row in rows], list(signs))
        with self.assertRaises(NoMachine) as caught:
            back_of(rows, signs)
        self.assertEqual((caught.exception.word, caught.exception.number), (word, number))
        self.assertEqual(([list(row) for row in rows], list(signs)), kept)

    def test_a_back_machine_is_tuples(self):
        told = back_of([[1, 0], [0, 1]], [4, 4])
        self.assertEqual(told, (((1, 0), (0, 1)), (4, 4)))
        self.assertEqual([type(part) for part in (told, told[0], told[1], told[0][0])], [tuple] * 4)

    def test_edges_are_taken(self):
        for rooms, base in itertools.product([1, 2, 99, 100], [2, 3, 4, 5]):
            rows = [[room] + [(room + letter) % rooms for letter in range(1, base)] for room in range(rooms)]
            signs = [room % 10 for room in range(rooms)]
            self.assertEqual(back_of(rows, signs), (tuple(tuple(row) for row in rows), tuple(signs)))

    def test_from_room_0_letter_0_may_lead_on(self):
        self.assertEqual(back_of([[1, 0], [1, 1]], [0, 0]), (((1, 0), (1, 1)), (0, 0)))

    def test_lists_changed_behind_the_call(self):
        rows = [[0, 1], [1, 0]]
        signs = [3, 4]
        told = back_of(rows, signs)
        rows[0][1] = 0
        rows.append([0, 0])
        signs[0] = 9
        self.assertEqual(told, (((0, 1), (1, 0)), (3, 4)))

    def test_rooms(self):
        self.refused([], [], "rooms", 0)
        self.refused([[0, 0]] * 101, [0] * 101, "rooms", 101)

    def test_signs(self):
        self.refused([[0, 0]], [], "signs", 0)
        self.refused([[0, 0]] * 100, [0] * 101, "signs", 101)

    def test_letters(self):
        for many in [0, 1, 6, 7, 64, 65]:
            self.refused([[0] * many], [0], "letters", 0)
            self.refused([[0] * many] * 3, [0] * 3, "letters", 0)
            self.refused([[0, 0], [0] * many], [0, 0], "letters", 1)
        self.refused([[0, 0, 0], [0, 0, 0], [0, 0]], [0] * 3, "letters", 2)

    def test_next(self):
        for number in [-1, 2, 100, SIXTY]:
            self.refused([[0, number], [1, 1]], [0, 0], "next", 0)
            self.refused([[0, 0], [number, 1]], [0, 0], "next", 1)

    def test_sign(self):
        for sign in [-1, 10, SIXTY]:
            self.refused([[0, 0], [1, 1]], [sign, 0], "sign", 0)
            self.refused([[0, 0], [1, 1]], [0, sign], "sign", 1)

    def test_steady(self):
        self.refused([[1, 0], [0, 0]], [0, 1], "steady", 0)
        self.refused([[0, 1], [0, 1]], [0, 1], "steady", 1)
        self.refused([[0, 1], [2, 1], [0, 1]], [0, 1, 1], "steady", 2)
        self.refused([[room, 0] for room in range(99)] + [[0, 0]], [5] * 99 + [6], "steady", 99)

    def test_rooms_that_are_not_reached_are_steady_too(self):
        self.refused([[0, 0], [0, 0]], [0, 1], "steady", 1)

    def test_two_faults_at_once(self):
        self.refused([], [0], "rooms", 0)
        self.refused([[0]] * 101, [0] * 100, "rooms", 101)
        self.refused([[0]], [0, 0], "signs", 2)
        self.refused([[0, 5]], [0, 10], "signs", 2)
        self.refused([[7]], [10], "letters", 0)
        self.refused([[0, 0], [5] * 6], [0, 0], "letters", 1)
        self.refused([[0, 2], [0]], [0, 0], "next", 0)
        self.refused([[0, 0], [0] * 6, [0, 9]], [0] * 3, "letters", 1)
        self.refused([[0, 2], [0, 0]], [0, 10], "next", 0)
        self.refused([[0, 0], [0]], [10, 0], "letters", 1)
        self.refused([[1, 0], [1, 2]], [0, 1], "next", 1)
        self.refused([[1, 0], [1, 1]], [0, 10], "sign", 1)
        self.refused([[1, 0], [0, 0], [0, 0]], [0, 1, -1], "sign", 2)


class BackSigns(unittest.TestCase):
    def test_told_signs(self):
        # The last figure leads first: sign 1 for places whose last figure is 1, sign 2 where it is 0 and the one ahead 1.
        back = back_of([[1, 2], [1, 3], [2, 2], [3, 3]], [0, 0, 1, 2])
        self.assertEqual([back_sign_at(back, place) for place in range(8)], [0, 1, 2, 1, 2, 1, 2, 1])

    def test_0_and_small_and_great_places(self):
        draw = drawing(41)
        for rooms, base in itertools.product([1, 2, 10, 100], [2, 3, 4, 5]):
            back = drawn_back(draw, rooms, base, 3)
            self.assertEqual(back_sign_at(back, 0), back[1][0])
            for place in list(range(130)) + GREAT + drawn_places(draw, 10):
                self.assertEqual(back_sign_at(back, place), slow_back_sign(back, place))

    def test_0s_behind_change_no_sign(self):
        draw = drawing(42)
        back = drawn_back(draw, 30, 3, 4)
        for place in range(100):
            room = 0
            for figure in reversed([0] * 7 + figures_of(place, 3)):
                room = back[0][room][figure]
            self.assertEqual(back[1][room], back_sign_at(back, place))


class Turning(unittest.TestCase):
    def assert_turned(self, row, back, draw):
        base = len(row[0][0])
        self.assertEqual(len(back[0][0]), base)
        for place in list(range(200)) + GREAT + drawn_places(draw, 20):
            self.assertEqual(back_sign_at(back, place), sign_at(row, place))

    def assert_least(self, machine):
        self.assertEqual(all_reached(machine), list(range(len(machine[0]))))
        self.assertEqual(fewest_rooms(machine), len(machine[0]))
        self.assertEqual([type(part) for part in (machine, machine[0], machine[1], machine[0][0])], [tuple] * 4)

    def test_told_turns(self):
        self.assertEqual(to_back(TURNS), TURNS)
        self.assertEqual(to_front(TURNS), TURNS)
        first_figure = machine_of([[0, 1, 2], [1, 1, 1], [2, 2, 2]], [0, 1, 2])
        self.assertEqual(to_back(first_figure), (((0, 1, 2), (1, 1, 2), (2, 1, 2)), (0, 1, 2)))
        self.assertEqual(to_front((((0, 1, 2), (1, 1, 2), (2, 1, 2)), (0, 1, 2))), first_figure)

    def test_the_last_figure(self):
        # From room 0 letter 0 leads to a room that keeps sign 3 for good.
        row = machine_of([[0, 1], [0, 1]], [3, 4])
        back = to_back(row)
        self.assertEqual(back, (((1, 2), (1, 1), (2, 2)), (3, 3, 4)))
        self.assertEqual(to_front(back), row)

    def test_drawn_rows(self):
        draw = drawing(43)
        turned = 0
        for rooms, base, signs in itertools.product([1, 2, 3, 4, 5], [2, 3, 4, 5], [1, 2, 3]):
            for index in range(6):
                row = drawn_machine(draw, rooms, base, signs)
                many = tuples_met(row)
                if many > 100:
                    self.assertIsInstance(refusal_of(to_back, row), TooGreat)
                    continue
                back = to_back(row)
                turned += 1
                self.assertEqual(len(back[0]), many)
                self.assertEqual(back_of([list(line) for line in back[0]], list(back[1])), back)
                self.assert_turned(row, back, draw)
                self.assert_least(back)
                self.assertEqual(to_front(back), least(row))
        self.assertGreater(turned, 200)

    def test_drawn_back_machines(self):
        draw = drawing(44)
        turned = 0
        for rooms, base, signs in itertools.product([1, 2, 3, 4, 6], [2, 3, 4, 5], [1, 2, 3]):
            for index in range(6):
                back = drawn_back(draw, rooms, base, signs)
                many = tuples_met(back)
                if many > 100:
                    self.assertIsInstance(refusal_of(to_front, back), TooGreat)
                    continue
                row = to_front(back)
                turned += 1
                self.assertEqual(len(row[0]), many)
                self.assertEqual(machine_of([list(line) for line in row[0]], list(row[1])), row)
                self.assert_turned(row, back, draw)
                self.assert_least(row)
                self.assertEqual(to_back(row), least(back))
        self.assertGreater(turned, 200)

    def test_rooms_alike_and_rooms_not_reached_do_not_count(self):
        draw = drawing(45)
        for text in ROWS_100:
            row = read_machine(text)
            for index in range(3):
                other = copied(draw, row, 20)
                self.assertEqual(to_back(other), to_back(row))
        wide = machine_of([[0, 0]] + [[(7 * room + 1) % 100, (11 * room + 3) % 100] for room in range(1, 100)],
                          [room % 3 for room in range(100)])
        self.assertEqual(to_back(wide), (((0, 0),), (0,)))

    def test_just_100_and_just_above(self):
        draw = drawing(46)
        for text in ROWS_100:
            row = read_machine(text)
            self.assertEqual((tuples_met(row), len(to_back(row)[0])), (100, 100))
            self.assert_turned(row, to_back(row), draw)
            self.assertEqual(to_front(to_back(row)), least(row))
        for text in ROWS_101:
            self.assertEqual(tuples_met(read_machine(text)), 101)
            self.assertRaises(TooGreat, to_back, read_machine(text))
        for text in BACKS_100:
            back = read_back(text)
            self.assertEqual((tuples_met(back), len(to_front(back)[0])), (100, 100))
            self.assert_turned(to_front(back), back, draw)
            self.assertEqual(to_back(to_front(back)), least(back))
        for text in BACKS_101:
            self.assertEqual(tuples_met(read_back(text)), 101)
            self.assertRaises(TooGreat, to_front, read_back(text))

    def test_a_hundred_rooms_both_ways(self):
        draw = drawing(47)
        for base in [2, 3, 4, 5]:
            place = base ** 97 + draw.randrange(base ** 97)
            row = only_at(place, base)
            back = to_back(row)
            self.assertEqual((len(row[0]), len(back[0])), (100, 100))
            self.assertEqual(back_sign_at(back, place), 1)
            self.assertEqual(back_sign_at(back, place + base ** 98), 0)
            self.assert_turned(row, back, draw)
            self.assertEqual(to_front(back), as_reached(row))

    def test_many_tuples(self):
        self.assertRaises(TooGreat, to_back, rest_by(11, 2))
        self.assertRaises(TooGreat, to_back, rest_by(97, 5))
        # The seventh figure from the last: the front has to keep seven figures.
        rows = [[1, 1], [2, 2], [3, 3], [4, 4], [5, 5], [6, 6], [7, 8], [7, 7], [8, 8]]
        self.assertRaises(TooGreat, to_front, back_of(rows, [0] * 8 + [1]))
        sixth = back_of([[1, 1], [2, 2], [3, 3], [4, 4], [5, 5], [6, 7], [6, 6], [7, 7]], [0] * 7 + [1])
        self.assertEqual(len(to_front(sixth)[0]), 64)

    def test_no_base(self):
        for letters in [1, 6, 64]:
            for rooms in [1, 5, 100]:
                self.assertRaises(NoBase, to_back, adding(rooms, letters))


if __name__ == "__main__":
    unittest.main()
