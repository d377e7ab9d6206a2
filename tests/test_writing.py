import itertools
import unittest

from figurewheel.errors import NoMachine, NoText
from figurewheel.machines import machine_of
from figurewheel.writing import machine_text, read_machine
from tests.making import adding, drawing, drawn_machine

GOOD = "0:0,1"
NOT_ROOMS = [
    "", "0", ":", "0:", ":0", "00:0,1", "12:0,1", "a:0,1", "-1:0,1", "-:0,1", "+1:0", "0,0", "0;0,1", "0::0", "0:0:1",
    "0:,0", "0:0,", "0:,", "0:0,,1", "0:00", "0:01", "0:0,00", "0:0,01", "0:0,09", "0:100", "0:0,100", "0:0,999",
    "0:0,1000", "0:a", "0:0,a", "0:0,1a", "0:-1", "0:0,-1", "0:0,-0", "0:+1", "0:0.1", "0:0,1_1", "0:0,1;", "A:0", "(:0",
    "0:0,1\t", "\t0:0,1", "0:0,1\n", "~:0", "0:~", "1:1e", "0:0x",
]


class Writing(unittest.TestCase):
    def test_told_texts(self):
        self.assertEqual(machine_text(machine_of([[0, 1], [1, 0]], [0, 1])), "0:0,1 1:1,0")
        self.assertEqual(machine_text(machine_of([[0]], [9])), "9:0")
        self.assertEqual(machine_text(machine_of([[0, 0, 0]], [4])), "4:0,0,0")

    def test_told_machines(self):
        self.assertEqual(read_machine("0:0,1 1:1,0"), (((0, 1), (1, 0)), (0, 1)))
        self.assertEqual(read_machine("9:0"), (((0,),), (9,)))
        self.assertEqual(read_machine("5:0,1,1 7:1,0,1"), (((0, 1, 1), (1, 0, 1)), (5, 7)))

    def test_rooms_of_two_figures(self):
        text = " ".join(["0:0,99"] + ["3:10,9"] * 98 + ["8:99,0"])
        machine = read_machine(text)
        self.assertEqual((machine[0][0], machine[0][50], machine[0][99]), ((0, 99), (10, 9), (99, 0)))
        self.assertEqual(machine_text(machine), text)

    def test_written_and_read_again(self):
        for rooms, letters in itertools.product([1, 2, 10, 11, 100], [1, 2, 5, 6, 64]):
            machine = adding(rooms, letters)
            text = machine_text(machine)
            self.assertEqual(len(text.split(" ")), rooms)
            self.assertEqual(read_machine(text), machine)
            self.assertEqual(machine_text(read_machine(text)), text)

    def test_drawn_machines(self):
        draw = drawing(11)
        for rooms, letters in itertools.product([1, 3, 26, 100], [1, 3, 64]):
            machine = drawn_machine(draw, rooms, letters)
            self.assertEqual(read_machine(machine_text(machine)), machine)

    def test_kinds(self):
        machine = read_machine("0:0,1 1:1,0")
        self.assertIs(type(machine), tuple)
        self.assertIs(type(machine[0][0]), tuple)
        self.assertIs(type(machine[1]), tuple)
        self.assertIs(type(machine_text(machine)), str)


class NoTexts(unittest.TestCase):
    def refused(self, text, at):
        with self.subTest(text=text):
            with self.assertRaises(NoText) as caught:
                read_machine(text)
            self.assertEqual(caught.exception.at, at)

    def test_the_text_without_signs(self):
        self.refused("", 0)

    def test_a_word_that_is_no_room(self):
        for word in NOT_ROOMS:
            self.refused(word, 0)
            self.refused(f"{word} {GOOD}", 0)
            self.refused(f"{GOOD} {word}", 1)
            self.refused(f"{GOOD} 1:1,0 {word} {GOOD}", 2)

    def test_blanks(self):
        self.refused(" ", 0)
        self.refused("  ", 0)
        self.refused(" 0:0,1 1:1,0", 0)
        self.refused("0:0,1 1:1,0 ", 2)
        self.refused("0:0,1  1:1,0", 1)
        self.refused("0:0, 1", 0)
        self.refused("0: 0,1", 0)
        self.refused("0 :0,1", 0)

    def test_the_first_of_several(self):
        self.refused("0:0,1 x 0:00 ", 1)
        self.refused("0:0,1 1:1,0 1:01 x", 2)

    def test_the_last_of_a_hundred(self):
        self.refused(" ".join([GOOD] * 99 + ["0:0,100"]), 99)
        self.refused(" ".join([GOOD] * 120 + ["0:"]), 120)

    def test_ahead_of_what_machines_are_refused_for(self):
        self.refused("0:0,1 1:1,0,5 x", 2)
        self.refused("0:99 0:", 1)
        self.refused("0:1,0 1:1,0 ?", 2)
        self.refused(" ".join(["0:0"] * 101 + [""]), 101)


class NoMachines(unittest.TestCase):
    def refused(self, text, word, number):
        with self.subTest(text=text[:50]):
            with self.assertRaises(NoMachine) as caught:
                read_machine(text)
            self.assertEqual((caught.exception.word, caught.exception.number), (word, number))

    def test_rooms(self):
        self.refused(" ".join(["0:0"] * 101), "rooms", 101)
        self.refused(" ".join(["0:0,0"] * 300), "rooms", 300)

    def test_letters(self):
        self.refused("0:0,0 0:0", "letters", 1)
        self.refused("0:0 1:0 2:0,0", "letters", 2)
        self.refused("0:" + ",".join(["0"] * 65), "letters", 0)
        self.refused("0:0,0 0:0,0,9 1:7", "letters", 1)

    def test_next(self):
        self.refused("0:1", "next", 0)
        self.refused("0:0,1 1:2,0", "next", 1)
        self.refused("0:0,99 1:1", "next", 0)
        self.refused(" ".join(["0:0,98"] * 98 + ["0:0,99"]), "next", 98)

    def test_front(self):
        self.refused("0:1,0 1:1,0", "front", 0)
        self.refused("3:1 3:0", "front", 0)

    def test_no_text_can_lack_a_sign_or_have_a_wrong_one(self):
        # Each word has one sign of one figure, so "signs" and "sign" never come; the words that would are no texts.
        for word in [":0,1", "10:0,1", "-1:0,1"]:
            with self.assertRaises(NoText):
                read_machine(word)


if __name__ == "__main__":
    unittest.main()
