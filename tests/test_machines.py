import itertools
import unittest

from figurewheel.errors import NoBase, NoMachine
from figurewheel.figures import figures_of
from figurewheel.machines import base_of, first_signs, machine_of, room_of, sign_at, sign_of, teller

SIXTY = 10 ** 60 - 1
GREAT = [10 ** 59, SIXTY, 2 ** 199, 5 ** 85 - 1]


def adding_rows(rooms, letters):
    # A letter leads so many rooms on, round and round: the room of a list is its sum.
    return [[(room + letter) % rooms for letter in range(letters)] for room in range(rooms)]


def adding_signs(rooms):
    return [room * 7 % 10 for room in range(rooms)]


def adding(rooms, letters):
    return machine_of(adding_rows(rooms, letters), adding_signs(rooms))


def good_rows(rooms, letters=2):
    return [[0] * letters for room in range(rooms)]


class Making(unittest.TestCase):
    def test_a_machine_is_tuples(self):
        told = machine_of([[0, 1], [1, 0]], [0, 1])
        self.assertEqual(told, (((0, 1), (1, 0)), (0, 1)))
        self.assertIs(type(told), tuple)
        self.assertIs(type(told[0]), tuple)
        self.assertIs(type(told[1]), tuple)
        self.assertTrue(all(type(row) is tuple for row in told[0]))

    def test_edges_are_taken(self):
        for rooms, letters in itertools.product([1, 2, 99, 100], [1, 2, 63, 64]):
            rows = adding_rows(rooms, letters)
            signs = adding_signs(rooms)
            told = machine_of(rows, signs)
            self.assertEqual(told, (tuple(tuple(row) for row in rows), tuple(signs)))

    def test_signs_0_and_9_are_taken(self):
        self.assertEqual(machine_of([[0], [0]], [0, 9]), (((0,), (0,)), (0, 9)))

    def test_the_last_room_is_a_next_room(self):
        self.assertEqual(machine_of([[0, 1], [1, 1]], [0, 0])[0], ((0, 1), (1, 1)))

    def test_what_is_handed_in_stays(self):
        rows = [[0, 1], [1, 0]]
        signs = [3, 4]
        machine_of(rows, signs)
        self.assertEqual((rows, signs), ([[0, 1], [1, 0]], [3, 4]))

    def test_lists_changed_behind_the_call(self):
        rows = [[0, 1], [1, 0]]
        signs = [3, 4]
        told = machine_of(rows, signs)
        rows[0][1] = 0
        rows[1].append(5)
        rows.append([0, 0])
        signs[0] = 9
        signs.append(1)
        self.assertEqual(told, (((0, 1), (1, 0)), (3, 4)))

    def test_what_was_told_is_taken_again(self):
        told = adding(100, 64)
        self.assertEqual(machine_of(told[0], told[1]), told)


class Refused(unittest.TestCase):
    def refused(self, rows, signs, word, number):
        kept = ([list(row) for row in rows], list(signs))
        with self.assertRaises(NoMachine) as caught:
            machine_of(rows, signs)
        self.assertEqual((caught.exception.word, caught.exception.number), (word, number))
        self.assertEqual((rows, signs), kept)


class Refusals(Refused):
    def test_rooms(self):
        self.refused([], [], "rooms", 0)
        for many in [101, 102, 300]:
            self.refused(good_rows(many), [0] * many, "rooms", many)

    def test_signs(self):
        self.refused([[0]], [], "signs", 0)
        self.refused([[0]], [0, 0], "signs", 2)
        self.refused(good_rows(3), [0, 1], "signs", 2)
        self.refused(good_rows(100), [0] * 99, "signs", 99)
        self.refused(good_rows(100), [0] * 300, "signs", 300)

    def test_letters_none(self):
        self.refused([[]], [0], "letters", 0)
        self.refused([[], []], [0, 0], "letters", 0)
        self.refused([[0, 0], [0, 0], []], [0, 0, 0], "letters", 2)

    def test_letters_too_many(self):
        for many in [65, 66, 300]:
            self.refused(good_rows(2, many), [0, 0], "letters", 0)
        self.refused([[0] * 64, [0] * 65], [0, 0], "letters", 1)

    def test_letters_not_as_many_as_the_first(self):
        self.refused([[0, 0], [0]], [0, 0], "letters", 1)
        self.refused([[0, 0], [0, 0], [0, 0, 0], [0]], [0] * 4, "letters", 2)
        self.refused(good_rows(99) + [[0]], [0] * 100, "letters", 99)

    def test_next(self):
        for number in [-1, -2, 3, 4, 100, SIXTY, -SIXTY]:
            self.refused([[0, number], [0, 0], [0, 0]], [0] * 3, "next", 0)
            self.refused([[0, 0], [number, 0], [0, 0]], [0] * 3, "next", 1)
            self.refused([[0, 0], [0, 0], [0, number]], [0] * 3, "next", 2)
        self.refused([[1]], [0], "next", 0)
        self.refused([[-1]], [0], "next", 0)
        self.refused(good_rows(99) + [[0, 100]], [0] * 100, "next", 99)
        self.refused([[0, 0], [0, 2], [0, -1]], [0] * 3, "next", 2)
        self.refused([[0, 0], [0, 3], [0, -1]], [0] * 3, "next", 1)

    def test_sign(self):
        for sign in [-1, 10, 11, SIXTY, -SIXTY]:
            for index in range(3):
                signs = [0, 9, 5]
                signs[index] = sign
                self.refused(good_rows(3), signs, "sign", index)
        self.refused(good_rows(4), [1, 10, -1, 12], "sign", 1)
        self.refused(good_rows(100), [0] * 99 + [10], "sign", 99)

    def test_front(self):
        self.refused([[1, 0], [0, 0]], [0, 0], "front", 0)
        self.refused([[1], [1]], [0, 9], "front", 0)
        self.refused([[99, 0]] + good_rows(99), [0] * 100, "front", 0)


class OrderOfRefusals(Refused):
    def test_rooms_ahead_of_all(self):
        self.refused([], [0], "rooms", 0)
        self.refused([], [10], "rooms", 0)
        self.refused(good_rows(101), [0] * 100, "rooms", 101)
        self.refused([[]] * 101, [0] * 101, "rooms", 101)
        self.refused([[0, 101]] * 101, [0] * 101, "rooms", 101)
        self.refused(good_rows(101), [10] * 101, "rooms", 101)
        self.refused([[1, 0]] * 101, [0] * 101, "rooms", 101)

    def test_signs_ahead_of_what_follows(self):
        self.refused([[]], [0, 0], "signs", 2)
        self.refused([[0] * 65], [], "signs", 0)
        self.refused([[0, 0], [0]], [0], "signs", 1)
        self.refused([[0, 1]], [0, 0], "signs", 2)
        self.refused([[0, 0]], [10, 0], "signs", 2)
        self.refused([[1, 0], [0, 0]], [0], "signs", 1)

    def test_letters_ahead_of_next_in_one_row(self):
        self.refused([[0] * 64 + [1]], [0], "letters", 0)
        self.refused([[0, 0], [0, 2, 0]], [0, 0], "letters", 1)
        self.refused([[0, 0], [-1]], [0, 0], "letters", 1)

    def test_next_ahead_of_the_letters_of_a_later_row(self):
        self.refused([[0, 2], []], [0, 0], "next", 0)
        self.refused([[0, 2], [0]], [0, 0], "next", 0)
        self.refused([[0, 0], [-1, 0], [0] * 65], [0] * 3, "next", 1)

    def test_letters_ahead_of_the_next_of_a_later_row(self):
        self.refused([[], [2]], [0, 0], "letters", 0)
        self.refused([[0, 0], [0], [0, 3]], [0] * 3, "letters", 1)

    def test_rows_ahead_of_sign(self):
        self.refused([[0, 0], [0]], [10, 0], "letters", 1)
        self.refused([[0, 0], [0, 2]], [10, 0], "next", 1)

    def test_rows_ahead_of_front(self):
        self.refused([[1, 0], [0]], [0, 0], "letters", 1)
        self.refused([[1, 0], [0, 2]], [0, 0], "next", 1)
        self.refused([[2, 0], [0, 0]], [0, 0], "next", 0)
        self.refused([[-1, 0], [0, 0]], [0, 0], "next", 0)

    def test_sign_ahead_of_front(self):
        self.refused([[1, 0], [0, 0]], [0, 10], "sign", 1)
        self.refused([[1, 0], [0, 0]], [-1, 0], "sign", 0)


class Reading(unittest.TestCase):
    def test_told_lists(self):
        machine = machine_of([[0, 1, 2], [2, 2, 0], [1, 0, 2]], [5, 6, 7])
        told = [([], 0), ([0], 0), ([1], 1), ([2], 2), ([1, 0], 2), ([1, 2], 0), ([2, 0], 1), ([2, 2, 0, 1, 0], 1)]
        for letters, room in told:
            with self.subTest(letters=letters):
                self.assertEqual(room_of(machine, letters), room)
                self.assertEqual(sign_of(machine, letters), [5, 6, 7][room])

    def test_the_list_without_letters(self):
        for rooms, letters in itertools.product([1, 100], [1, 64]):
            machine = machine_of(good_rows(rooms, letters), [4] + [3] * (rooms - 1))
            self.assertEqual(room_of(machine, []), 0)
            self.assertEqual(sign_of(machine, []), 4)

    def test_0s_ahead_change_neither(self):
        machine = machine_of([[0, 1], [2, 2], [1, 0]], [3, 8, 5])
        for length in range(6):
            for letters in itertools.product(range(2), repeat=length):
                for many in [1, 2, 40]:
                    ahead = [0] * many + list(letters)
                    self.assertEqual(room_of(machine, ahead), room_of(machine, list(letters)))
                    self.assertEqual(sign_of(machine, ahead), sign_of(machine, list(letters)))

    def test_machines_at_the_edges(self):
        for rooms, letters in itertools.product([1, 100], [1, 64]):
            machine = adding(rooms, letters)
            for many in [1, 2, 37, 300]:
                read = [(index * 11 + 5) % letters for index in range(many)]
                self.assertEqual(room_of(machine, read), sum(read) % rooms)
                self.assertEqual(sign_of(machine, read), adding_signs(rooms)[sum(read) % rooms])

    def test_the_last_letter_to_the_last_room(self):
        machine = machine_of([[0] * 63 + [99]] + good_rows(99, 64), [1] * 99 + [8])
        self.assertEqual(room_of(machine, [63]), 99)
        self.assertEqual(sign_of(machine, [63]), 8)
        self.assertEqual(sign_of(machine, [62]), 1)

    def test_letters_are_read_from_the_first(self):
        machine = machine_of([[0, 1, 0], [1, 1, 2], [2, 2, 2]], [0, 1, 2])
        self.assertEqual(room_of(machine, [1, 2]), 2)
        self.assertEqual(room_of(machine, [2, 1]), 1)

    def test_what_is_handed_in_stays(self):
        machine = adding(5, 3)
        letters = [0, 2, 1, 2]
        room_of(machine, letters)
        sign_of(machine, letters)
        self.assertEqual(letters, [0, 2, 1, 2])
        self.assertEqual(machine, adding(5, 3))


class Rows(unittest.TestCase):
    def test_base_of(self):
        for base in [2, 3, 4, 5]:
            for rooms in [1, 2, 100]:
                self.assertEqual(base_of(adding(rooms, base)), base)

    def test_told_signs(self):
        row = machine_of([[0, 1], [1, 0]], [0, 1])
        told = [0, 1, 1, 0, 1, 0, 0, 1, 1, 0, 0, 1, 0, 1, 1, 0]
        self.assertEqual(first_signs(row, 16), told)
        self.assertEqual([sign_at(row, place) for place in range(16)], told)
        tell = teller(row)
        self.assertEqual([tell(place) for place in range(16)], told)

    def test_the_figures_are_read_greatest_power_first(self):
        row = machine_of([[0, 1, 2], [1, 1, 1], [2, 2, 2]], [0, 1, 2])
        self.assertEqual(first_signs(row, 10), [0, 1, 2, 1, 1, 1, 2, 2, 2, 1])

    def test_place_0_has_the_sign_of_room_0(self):
        for base in [2, 3, 4, 5]:
            row = machine_of(good_rows(2, base), [6, 1])
            self.assertEqual(sign_at(row, 0), 6)
            self.assertEqual(teller(row)(0), 6)
            self.assertEqual(first_signs(row, 1), [6])

    def test_rows_of_each_base(self):
        for base in [2, 3, 4, 5]:
            for rooms in [1, 7, 100]:
                row = adding(rooms, base)
                tell = teller(row)
                for place in list(range(150)) + GREAT:
                    sign = adding_signs(rooms)[sum(figures_of(place, base)) % rooms]
                    self.assertEqual(sign_at(row, place), sign)
                    self.assertEqual(tell(place), sign)

    def test_great_places_of_a_told_row(self):
        row = machine_of([[0, 1], [1, 0]], [0, 1])
        tell = teller(row)
        for place in GREAT:
            sign = bin(place).count("1") % 2
            self.assertEqual(sign_at(row, place), sign)
            self.assertEqual(tell(place), sign)

    def test_first_signs(self):
        for base in [2, 5]:
            row = adding(7, base)
            signs = [sign_at(row, place) for place in range(200)]
            for many in [0, 1, 2, 199, 200]:
                told = first_signs(row, many)
                self.assertIs(type(told), list)
                self.assertEqual(told, signs[:many])

    def test_first_signs_are_the_asker_s_own(self):
        row = adding(7, 2)
        for many in [0, 5]:
            told = first_signs(row, many)
            kept = list(told)
            told.append(9)
            told[0] = 8
            self.assertEqual(first_signs(row, many), kept)

    def test_tellers_keep_to_their_rows(self):
        tells = [teller(adding(7, base)) for base in [2, 3, 4, 5]]
        for base, tell in zip([2, 3, 4, 5], tells):
            self.assertEqual([tell(place) for place in range(50)], first_signs(adding(7, base), 50))

    def test_no_base(self):
        for letters in [1, 6, 7, 63, 64]:
            for rooms in [1, 2, 100]:
                machine = adding(rooms, letters)
                with self.subTest(letters=letters, rooms=rooms):
                    self.assertRaises(NoBase, base_of, machine)
                    self.assertRaises(NoBase, teller, machine)
                    for place in [0, 1, SIXTY]:
                        self.assertRaises(NoBase, sign_at, machine, place)
                    for many in [0, 1, 200]:
                        self.assertRaises(NoBase, first_signs, machine, many)


if __name__ == "__main__":
    unittest.main()
