import itertools
import unittest

from figurewheel.least import as_reached, least
from figurewheel.machines import machine_of, sign_of
from tests.making import (
    adding, all_reached, chain, copied, drawing, drawn_back, drawn_list, drawn_machine, fewest_rooms, short_lists,
    told_apart,
)


class Alike(unittest.TestCase):
    def assert_alike(self, one, other, draw):
        letters = len(one[0][0])
        for told in short_lists(letters, 2 if letters > 10 else 4):
            self.assertEqual(sign_of(one, told), sign_of(other, told))
        for length in [5, 20, 120, 250]:
            for told in [drawn_list(draw, letters, length) for index in range(5)]:
                self.assertEqual(sign_of(one, told), sign_of(other, told))

    def assert_as_reached(self, machine):
        self.assertEqual(all_reached(machine), list(range(len(machine[0]))))
        self.assertIs(type(machine), tuple)
        self.assertTrue(all(type(row) is tuple for row in machine[0]))
        self.assertEqual((type(machine[0]), type(machine[1])), (tuple, tuple))

    def assert_least(self, told, machine, draw):
        self.assert_as_reached(told)
        self.assert_alike(told, machine, draw)
        self.assertEqual(len(told[0]), fewest_rooms(machine))
        many = len(told[0])
        self.assertEqual(len(told_apart(told)), many * (many - 1) // 2)
        self.assertEqual(least(told), told)
        self.assertEqual(as_reached(told), told)


class AsReached(Alike):
    def test_rooms_not_reached_are_left_out(self):
        machine = machine_of([[0, 2], [1, 1], [2, 0]], [5, 6, 7])
        self.assertEqual(as_reached(machine), (((0, 1), (1, 0)), (5, 7)))

    def test_rooms_alike_are_kept(self):
        machine = machine_of([[0, 1], [1, 0]], [4, 4])
        self.assertEqual(as_reached(machine), machine)

    def test_numbers(self):
        machine = machine_of([[0, 3, 2], [1, 1, 1], [4, 4, 0], [0, 4, 2], [0, 0, 0]], [5, 6, 7, 8, 9])
        self.assertEqual(as_reached(machine), (((0, 1, 2), (0, 3, 2), (3, 3, 0), (0, 0, 0)), (5, 8, 7, 9)))

    def test_machines_at_the_edges(self):
        for rooms, letters in itertools.product([1, 100], [1, 64]):
            machine = adding(rooms, letters)
            reached = 1 if letters == 1 else rooms
            self.assertEqual(len(as_reached(machine)[0]), reached)
            self.assert_as_reached(as_reached(machine))

    def test_drawn_machines(self):
        draw = drawing(21)
        for rooms, letters in itertools.product([1, 2, 5, 30, 100], [1, 2, 3, 16, 64]):
            machine = drawn_machine(draw, rooms, letters)
            told = as_reached(machine)
            self.assert_as_reached(told)
            self.assert_alike(told, machine, draw)
            order = all_reached(machine)
            self.assertEqual(told[1], tuple(machine[1][room] for room in order))
            self.assertEqual(told[0], tuple(tuple(order.index(led) for led in machine[0][room]) for room in order))

    def test_back_machines(self):
        draw = drawing(22)
        machine = (((2, 1), (1, 0), (2, 0), (3, 3)), (5, 6, 5, 7))
        self.assertEqual(as_reached(machine), (((1, 2), (1, 0), (2, 0)), (5, 5, 6)))
        for rooms, base in itertools.product([1, 3, 40], [2, 3, 5]):
            back = drawn_back(draw, rooms, base)
            told = as_reached(back)
            self.assert_as_reached(told)
            self.assert_alike(told, back, draw)


class Least(Alike):
    def test_rooms_alike(self):
        self.assertEqual(least(machine_of([[0, 1], [1, 0]], [4, 4])), (((0, 0),), (4,)))
        machine = machine_of([[0, 1], [2, 0], [1, 3], [2, 0]], [0, 1, 1, 0])
        self.assertEqual(least(machine), machine_of([[0, 1], [2, 0], [1, 3], [2, 0]], [0, 1, 1, 0]))
        machine = machine_of([[0, 1], [2, 3], [1, 0], [3, 2]], [0, 1, 1, 0])
        self.assertEqual(least(machine), (((0, 1), (1, 0)), (0, 1)))

    def test_rooms_not_reached(self):
        machine = machine_of([[0, 0], [2, 0], [1, 1]], [3, 4, 5])
        self.assertEqual(least(machine), (((0, 0),), (3,)))

    def test_one_room(self):
        for letters in [1, 2, 64]:
            self.assertEqual(least(machine_of([[0] * letters], [8])), (((0,) * letters,), (8,)))
            self.assertEqual(least(machine_of([[0] * letters] * 100, [8] * 100)), (((0,) * letters,), (8,)))

    def test_chains_parted_by_long_lists_alone(self):
        draw = drawing(23)
        for rooms, letters in [(2, 2), (10, 2), (100, 2), (100, 3), (100, 64)]:
            machine = chain(rooms, letters)
            self.assertEqual(least(machine), machine)
        self.assert_least(least(chain(40, 3)), chain(40, 3), draw)
        self.assertEqual(least(chain(100, 2, 0)), (((0, 0),), (0,)))

    def test_a_chain_that_parts_at_its_end_alone(self):
        # Two chains of 49 rooms side by side, whose last rooms have unlike signs, or like ones.
        for last, rooms in [(2, 99), (1, 50)]:
            rows = [[0, 1, 50]]
            for start in [1, 50]:
                rows += [[room, min(room + 1, start + 48), room] for room in range(start, start + 49)]
            signs = [0] * 99
            signs[49] = 1
            signs[98] = last
            machine = machine_of(rows, signs)
            self.assertEqual(len(least(machine)[0]), rooms)

    def test_a_hundred_rooms_and_64_letters(self):
        draw = drawing(24)
        machine = drawn_machine(draw, 100, 64)
        self.assert_least(least(machine), machine, draw)
        for signs in [1, 2]:
            machine = drawn_machine(draw, 100, 64, signs)
            told = least(machine)
            self.assert_as_reached(told)
            self.assert_alike(told, machine, draw)
            self.assertEqual(len(told[0]), fewest_rooms(machine))

    def test_drawn_machines(self):
        draw = drawing(25)
        for rooms, letters, signs in itertools.product([1, 2, 3, 5, 8, 13, 30], [1, 2, 3, 6], [1, 2, 10]):
            machine = drawn_machine(draw, rooms, letters, signs)
            self.assert_least(least(machine), machine, draw)

    def test_copies_with_other_numbers(self):
        draw = drawing(26)
        for rooms, times, letters in [(1, 100, 2), (2, 50, 3), (10, 10, 2), (25, 4, 64), (33, 3, 5), (50, 2, 4)]:
            machine = drawn_machine(draw, rooms, letters, 3)
            copies = [copied(draw, machine, times) for index in range(3)]
            for other in copies:
                self.assert_alike(machine, other, draw)
                self.assertEqual(least(other), least(machine))
            self.assertNotEqual(copies[0], copies[1])

    def test_unlike_machines_have_unlike_least_forms(self):
        told = {least(chain(rooms, 2)) for rooms in range(2, 40)}
        self.assertEqual(len(told), 38)

    def test_all_small_machines(self):
        # Of all machines with three rooms and two letters: alike just where the least forms are equal.
        known = {}
        for led in itertools.product(range(3), repeat=5):
            for signs in itertools.product(range(2), repeat=3):
                machine = machine_of([[0, led[0]], led[1:3], led[3:5]], list(signs))
                told = tuple(sign_of(machine, letters) for letters in short_lists(2, 6))
                self.assertEqual(known.setdefault(told, least(machine)), least(machine))
                self.assertEqual(len(least(machine)[0]), fewest_rooms(machine))
        self.assertEqual(len(set(known.values())), len(known))

    def test_back_machines(self):
        draw = drawing(27)
        self.assertEqual(least((((2, 1), (1, 0), (2, 1), (3, 3)), (5, 6, 5, 7))), (((0, 1), (1, 0)), (5, 6)))
        for rooms, base, signs in itertools.product([1, 3, 12, 40], [2, 3, 5], [1, 2, 3]):
            back = drawn_back(draw, rooms, base, signs)
            told = least(back)
            self.assert_least(told, back, draw)
            for room in range(len(told[0])):
                self.assertEqual(told[1][told[0][room][0]], told[1][room])

    def test_what_is_handed_in_stays(self):
        machine = adding(7, 3)
        least(machine)
        as_reached(machine)
        self.assertEqual(machine, adding(7, 3))


if __name__ == "__main__":
    unittest.main()
