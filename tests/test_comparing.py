import itertools
import unittest

from figurewheel.comparing import compared, place_apart, shows_alike
from figurewheel.errors import NoBase, NotLike
from figurewheel.figures import figures_of
from figurewheel.least import least
from figurewheel.machines import machine_of, sign_at, sign_of
from tests.making import adding, chain, copied, drawing, drawn_machine, short_lists

TURNS = machine_of([[0, 1], [1, 0]], [0, 1])


def is_showing(one, other, pairs):
    """Point 18's list of pairs, asked word by word."""
    known = set(pairs)
    return (0, 0) in known and all(
        one[1][a] == other[1][b] and all(led in known for led in zip(one[0][a], other[0][b])) for a, b in known
    )


class Compared(unittest.TestCase):
    def assert_alike(self, one, other):
        for first, second in [(one, other), (other, one)]:
            told = compared(first, second)
            self.assertIs(type(told), tuple)
            self.assertEqual((len(told), told[0], type(told[1])), (2, "alike", list))
            self.assertTrue(all(type(pair) is tuple and len(pair) == 2 for pair in told[1]))
            self.assertTrue(is_showing(first, second, told[1]))
            self.assertIs(shows_alike(first, second, told[1]), True)

    def assert_unlike(self, one, other, letters):
        self.assertEqual(compared(one, other), ("unlike", letters))
        self.assertEqual(compared(other, one), ("unlike", letters))

    def test_alike(self):
        self.assert_alike(TURNS, TURNS)
        self.assert_alike(TURNS, machine_of([[0, 1], [2, 3], [1, 0], [3, 2]], [0, 1, 1, 0]))

    def test_alike_whatever_rooms_are_not_reached(self):
        self.assert_alike(machine_of([[0, 0], [1, 1]], [3, 4]), machine_of([[0, 0]], [3]))

    def test_alike_of_each_size(self):
        draw = drawing(31)
        for rooms, times, letters in [(1, 100, 1), (1, 100, 64), (10, 10, 2), (50, 2, 5), (100, 1, 64), (25, 4, 64)]:
            machine = drawn_machine(draw, rooms, letters, 4)
            self.assert_alike(machine, copied(draw, machine, times))
            self.assert_alike(copied(draw, machine, times), copied(draw, machine, times))
            self.assert_alike(machine, least(machine))

    def test_the_list_without_letters(self):
        self.assert_unlike(machine_of([[0]], [3]), machine_of([[0]], [4]), [])
        self.assert_unlike(TURNS, machine_of([[0, 1], [1, 0]], [1, 1]), [])

    def test_a_shorter_list_beside_a_longer_one(self):
        # Unlike for [1, 0, 0] and for [2, 0]: the shorter one is told, though its letters are greater.
        one = machine_of([[0, 1, 2], [3, 3, 3], [4, 3, 3], [5, 3, 3], [4, 4, 4], [5, 5, 5]], [0, 0, 0, 0, 1, 1])
        other = machine_of([[0, 0, 0]], [0])
        self.assert_unlike(one, other, [2, 0])

    def test_two_lists_as_long(self):
        one = machine_of([[0, 1, 2], [1, 1, 3], [3, 2, 2], [3, 3, 3]], [0, 0, 0, 7])
        other = machine_of([[0, 0, 0]], [0])
        self.assert_unlike(one, other, [1, 2])
        one = machine_of([[0, 1, 2], [2, 0, 3], [3, 3, 2], [3, 3, 3]], [0, 0, 0, 7])
        self.assert_unlike(one, other, [1, 2])
        one = machine_of([[0, 1, 1], [0, 2, 2], [2, 2, 2]], [0, 0, 7])
        self.assert_unlike(one, other, [1, 1])

    def test_long_lists(self):
        self.assert_unlike(chain(100, 2), chain(100, 2, 0), [1] * 99)
        self.assert_unlike(chain(100, 64), chain(100, 64, 0), [1] * 99)
        # Two rounds without a common length are apart only where both have come to their ends.
        one = machine_of([[0, 1]] + [[room, room % 9 + 1] for room in range(1, 10)], [0] * 9 + [1])
        other = machine_of([[0, 1]] + [[room, room % 10 + 1] for room in range(1, 11)], [0] * 10 + [1])
        self.assert_unlike(one, other, [1] * 9)

    def test_unlike_numbers_of_letters(self):
        for letters, others in itertools.permutations([1, 2, 3, 6, 64], 2):
            self.assertRaises(NotLike, compared, adding(3, letters), adding(3, others))
            self.assertIs(shows_alike(machine_of([[0] * letters], [0]), machine_of([[0] * others], [0]), [(0, 0)]), False)

    def test_drawn_machines(self):
        draw = drawing(32)
        unlike = 0
        for rooms, letters, signs in itertools.product([1, 2, 3, 4], [1, 2, 3], [1, 2]):
            for index in range(20):
                one = drawn_machine(draw, rooms, letters, signs)
                other = drawn_machine(draw, draw.randrange(1, 5), letters, signs)
                # Lists shorter than the number of rooms of both together tell all that can be told.
                longest = len(one[0]) + len(other[0]) - 1
                first = next((told for told in short_lists(letters, longest) if sign_of(one, told) != sign_of(other, told)),
                             None)
                self.assertEqual(least(one) == least(other), first is None)
                if first is None:
                    self.assert_alike(one, other)
                else:
                    unlike += 1
                    self.assert_unlike(one, other, first)
        self.assertGreater(unlike, 100)

    def test_what_is_told_is_the_asker_s_own(self):
        told = compared(TURNS, TURNS)[1]
        kept = list(told)
        told.clear()
        self.assertEqual(compared(TURNS, TURNS), ("alike", kept))
        other = machine_of([[0, 1], [1, 0]], [0, 2])
        compared(TURNS, other)[1].append(5)
        self.assertEqual(compared(TURNS, other), ("unlike", [1]))
        self.assertEqual(TURNS, (((0, 1), (1, 0)), (0, 1)))


class PlaceApart(unittest.TestCase):
    def test_none(self):
        draw = drawing(33)
        self.assertIsNone(place_apart(TURNS, TURNS))
        for base in [2, 3, 4, 5]:
            row = drawn_machine(draw, 20, base)
            self.assertIsNone(place_apart(row, copied(draw, row, 5)))
            self.assertIsNone(place_apart(copied(draw, row, 5), row))

    def test_0(self):
        told = place_apart(TURNS, machine_of([[0, 1], [1, 0]], [5, 1]))
        self.assertEqual((told, type(told)), (0, int))

    def test_small_places(self):
        draw = drawing(34)
        for base in [2, 3, 4, 5]:
            for index in range(40):
                one = drawn_machine(draw, 6, base, 2)
                other = drawn_machine(draw, 6, base, 2)
                told = place_apart(one, other)
                first = next((place for place in range(5 ** 5) if sign_at(one, place) != sign_at(other, place)), None)
                self.assertEqual(told, first)

    def test_great_places(self):
        for base in [2, 3, 4, 5]:
            one = chain(100, base)
            other = chain(100, base, 0)
            place = (base ** 99 - 1) // (base - 1)
            self.assertEqual(place_apart(one, other), place)
            self.assertEqual(figures_of(place, base), [1] * 99)
            self.assertNotEqual(sign_at(one, place), sign_at(other, place))

    def test_no_base_ahead_of_not_like(self):
        for letters, others in [(1, 2), (2, 1), (6, 5), (5, 6), (1, 6), (6, 6), (64, 2), (1, 1)]:
            self.assertRaises(NoBase, place_apart, adding(3, letters), adding(3, others))

    def test_not_like(self):
        for letters, others in itertools.permutations([2, 3, 4, 5], 2):
            self.assertRaises(NotLike, place_apart, adding(3, letters), adding(3, others))


class ShowsAlike(unittest.TestCase):
    def setUp(self):
        self.one = machine_of([[0, 1], [1, 0], [2, 2]], [0, 1, 0])
        self.other = machine_of([[0, 1], [2, 3], [1, 0], [3, 2], [4, 4]], [0, 1, 1, 0, 0])
        self.pairs = [(0, 0), (1, 1), (1, 2), (0, 3)]

    def shown(self, pairs):
        kept = list(pairs)
        told = shows_alike(self.one, self.other, pairs)
        self.assertIs(type(told), bool)
        self.assertEqual(pairs, kept)
        return told

    def test_such_a_list(self):
        for pairs in itertools.permutations(self.pairs):
            self.assertTrue(self.shown(list(pairs)))

    def test_pairs_that_are_not_needed(self):
        self.assertTrue(self.shown(self.pairs + [(2, 4)]))

    def test_a_pair_twice(self):
        self.assertTrue(self.shown(self.pairs + self.pairs))
        self.assertTrue(self.shown([(0, 0)] + self.pairs))

    def test_a_list_without_the_first_pair(self):
        self.assertFalse(self.shown([]))
        self.assertFalse(self.shown([(2, 4)]))
        self.assertFalse(self.shown(self.pairs[1:]))

    def test_a_pair_that_leads_out_of_it(self):
        for pair in self.pairs:
            self.assertFalse(self.shown([other for other in self.pairs if other != pair]))
        self.assertFalse(self.shown(self.pairs + [(2, 0)]))

    def test_a_pair_of_unlike_signs(self):
        self.assertFalse(self.shown(self.pairs + [(2, 1), (2, 2), (2, 3), (2, 0)]))
        every = list(itertools.product(range(3), range(5)))
        self.assertFalse(self.shown(every))
        self.assertFalse(shows_alike(machine_of([[0, 0]], [1]), machine_of([[0, 0]], [2]), [(0, 0)]))

    def test_a_number_that_is_no_room(self):
        for pair in [(-1, 0), (0, -1), (3, 0), (0, 5), (-3, -5), (-2, 1), (3, 5), (10 ** 59, 0), (0, -(10 ** 59))]:
            self.assertFalse(self.shown(self.pairs + [pair]), pair)
            self.assertFalse(self.shown([pair] + self.pairs), pair)

    def test_numbers_below_0_stand_for_no_room(self):
        # -1 would index the last room: one with the same signs and led to like the pairs that are there.
        self.assertFalse(self.shown(self.pairs + [(2, 4), (-1, 4)]))
        self.assertFalse(self.shown(self.pairs + [(2, 4), (2, -1)]))
        one = machine_of([[0, 0]], [1])
        for pair in [(-1, 0), (0, -1), (-1, -1)]:
            self.assertFalse(shows_alike(one, one, [(0, 0), pair]))

    def test_unlike_machines_have_no_such_list(self):
        one = machine_of([[0, 1], [1, 0]], [0, 1])
        other = machine_of([[0, 1], [1, 1]], [0, 1])
        every = list(itertools.product(range(2), range(2)))
        for many in range(5):
            for pairs in itertools.combinations(every, many):
                self.assertFalse(shows_alike(one, other, list(pairs)))

    def test_all_lists_of_two_small_machines(self):
        one = machine_of([[0, 1], [1, 0]], [0, 0])
        other = machine_of([[0, 1], [2, 0], [1, 1]], [0, 0, 0])
        every = list(itertools.product(range(2), range(3)))
        taken = 0
        for many in range(7):
            for pairs in itertools.combinations(every, many):
                self.assertEqual(shows_alike(one, other, list(pairs)), is_showing(one, other, pairs))
                taken += is_showing(one, other, pairs)
        self.assertGreater(taken, 0)

    def test_a_list_of_ten_thousand(self):
        # Rounds of 99 and 100 rooms have all pairs of rooms.
        one = machine_of([[0, 1]] + [[room, (room + 1) % 100] for room in range(1, 100)], [3] * 100)
        other = machine_of([[0, 1]] + [[room, (room + 1) % 99] for room in range(1, 99)], [3] * 99)
        told = compared(one, other)
        self.assertEqual(told[0], "alike")
        self.assertTrue(shows_alike(one, other, told[1]))
        self.assertTrue(shows_alike(one, other, list(itertools.product(range(100), range(99)))))
        self.assertFalse(shows_alike(one, other, list(itertools.product(range(100), range(99)))[:-1]))


if __name__ == "__main__":
    unittest.main()
