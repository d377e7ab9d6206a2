import itertools
import unittest

from figurewheel.errors import NoBase, NoWords, TooGreat
from figurewheel.figures import figures_of
from figurewheel.machines import first_signs, machine_of, sign_at
from figurewheel.words import grown, letter_at, row_of_words, words_of_row
from tests.making import GREAT, adding, all_reached, drawing, drawn_machine, drawn_places

ALPHABET = "abcdefghijklmnopqrstuvwxyz"
TURNS = ({"a": "ab", "b": "ba"}, "a", {"a": 0, "b": 1})


def drawn_words(draw, many, length):
    letters = draw.sample(ALPHABET, many)
    words = {letter: "".join(draw.choice(letters) for index in range(length)) for letter in letters}
    begin = draw.choice(letters)
    words[begin] = begin + words[begin][1:]
    return words, begin, {letter: draw.randrange(10) for letter in letters}


def grown_slowly(words, begin, many):
    text = begin
    while len(text) < many:
        text = "".join(words[letter] for letter in text)
    return text[:many]


def letter_slowly(words, begin, place):
    base = len(words[begin])
    if place == 0:
        return begin
    return words[letter_slowly(words, begin, place // base)][place % base]


class Refused(unittest.TestCase):
    def refused(self, words, begin, signs, letter):
        kept = (dict(words), dict(signs))
        asked = [
            (grown, (0,)), (grown, (1,)), (grown, (200,)), (letter_at, (0,)), (letter_at, (5,)), (row_of_words, ()),
        ]
        for ask, more in asked:
            with self.subTest(words=words, begin=begin, signs=signs, ask=ask.__name__):
                with self.assertRaises(NoWords) as caught:
                    ask(words, begin, signs, *more)
                self.assertEqual(caught.exception.letter, letter)
        self.assertEqual((words, signs), kept)


class Beginnings(Refused):
    def test_no_word(self):
        self.refused({}, "a", {}, "a")
        self.refused({"a": "ab", "b": "ba"}, "c", {"a": 0, "b": 1, "c": 2}, "c")

    def test_lengths(self):
        self.refused({"a": ""}, "a", {"a": 0}, "a")
        self.refused({"a": "a"}, "a", {"a": 0}, "a")
        self.refused({"a": "aaaaaa"}, "a", {"a": 0}, "a")
        self.refused({"m": "m" * 300}, "m", {"m": 0}, "m")

    def test_another_first_letter(self):
        self.refused({"a": "ba", "b": "ba"}, "a", {"a": 0, "b": 1}, "a")
        self.refused({"a": "ba", "b": "ab"}, "b", {"a": 0, "b": 1}, "b")

    def test_ahead_of_all(self):
        self.refused({"a": "abc", "m": "m", "z": "??"}, "m", {}, "m")
        self.refused({"a": "abc", "b": "xx"}, "y", {"a": 44}, "y")
        self.refused({"a": "abc", "c": "ac"}, "c", {"a": -1}, "c")


class Lengths(Refused):
    def test_one(self):
        self.refused({"a": "ab", "b": "bab"}, "a", {"a": 0, "b": 1}, "b")
        self.refused({"a": "aba", "b": "bab", "c": ""}, "b", {"a": 0, "b": 1, "c": 2}, "c")

    def test_from_a_to_z_and_not_as_the_dict_stands(self):
        self.refused({"z": "z", "m": "mm", "y": "yyy", "c": "c"}, "m", {"z": 0, "m": 0, "y": 0, "c": 0}, "c")
        self.refused({"z": "z", "m": "mm", "y": "yyy"}, "m", {"z": 0, "m": 0, "y": 0}, "y")

    def test_ahead_of_letters_and_signs(self):
        self.refused({"a": "aq", "b": "bb", "z": "zzz"}, "b", {}, "z")
        self.refused({"a": "aa", "b": "bb", "z": "zzz"}, "b", {"a": 10, "b": 0, "z": 0}, "z")
        self.refused({"b": "bq", "z": "z"}, "b", {"b": 11, "z": 0}, "z")


class LettersAndSigns(Refused):
    def test_a_letter_without_a_word(self):
        self.refused({"a": "ab"}, "a", {"a": 0, "b": 1}, "a")
        self.refused({"a": "ab", "b": "bc"}, "a", {"a": 0, "b": 1, "c": 2}, "b")
        self.refused({"a": "ab", "b": "cb"}, "a", {"a": 0, "b": 1}, "b")

    def test_no_sign(self):
        self.refused({"a": "ab", "b": "ba"}, "a", {"b": 1}, "a")
        self.refused({"a": "ab", "b": "ba"}, "a", {"a": 1}, "b")
        self.refused({"a": "ab", "b": "ba"}, "a", {}, "a")

    def test_a_sign_that_is_none(self):
        for sign in [-1, 10, 11, 10 ** 59, -(10 ** 59)]:
            self.refused({"a": "ab", "b": "ba"}, "a", {"a": sign, "b": 1}, "a")
            self.refused({"a": "ab", "b": "ba"}, "a", {"a": 0, "b": sign}, "b")

    def test_letters_that_never_come_are_looked_at_too(self):
        self.refused({"a": "aa", "c": "ca"}, "a", {"a": 0}, "c")
        self.refused({"a": "aa", "c": "cb"}, "a", {"a": 0, "c": 0}, "c")
        self.refused({"a": "aa", "c": "cc"}, "a", {"a": 0, "c": 10}, "c")

    def test_the_first_letter_with_any_of_the_three(self):
        faults = {
            "word": lambda letter, words, signs: words.update({letter: letter + "q"}),
            "lacking": lambda letter, words, signs: signs.pop(letter),
            "none": lambda letter, words, signs: signs.update({letter: 10}),
        }
        for first, second in itertools.product(faults, repeat=2):
            for begin in "bdf":
                words = {letter: letter + letter for letter in "fdb"}
                signs = {letter: 5 for letter in "fdb"}
                faults[second]("f", words, signs)
                faults[first]("d", words, signs)
                self.refused(words, begin, signs, "d")

    def test_the_letter_to_begin_with_is_one_of_these(self):
        self.refused({"m": "mq", "c": "cq"}, "m", {"m": 0, "c": 0}, "c")
        self.refused({"m": "mq", "p": "pq"}, "m", {"m": 0, "p": 0}, "m")


class Passed(unittest.TestCase):
    def test_signs_of_letters_without_a_word(self):
        for more in [{"c": 3}, {"c": 10}, {"z": -1, "y": 55}, {"c": 10 ** 59}]:
            words, begin, signs = TURNS
            signs = {**more, **signs}
            kept = dict(signs)
            self.assertEqual(grown(words, begin, signs, 8), "abbabaab")
            self.assertEqual(letter_at(words, begin, signs, 4), "b")
            self.assertEqual(row_of_words(words, begin, signs), (((0, 1), (1, 0)), (0, 1)))
            self.assertEqual(signs, kept)

    def test_signs_0_and_9(self):
        self.assertEqual(row_of_words({"a": "aa"}, "a", {"a": 0})[1], (0,))
        self.assertEqual(row_of_words({"a": "aa"}, "a", {"a": 9})[1], (9,))

    def test_words_of_2_and_5_letters(self):
        self.assertEqual(grown({"k": "kk"}, "k", {"k": 0}, 3), "kkk")
        self.assertEqual(grown({"k": "kkkkk"}, "k", {"k": 0}, 3), "kkk")


class Growing(unittest.TestCase):
    def test_told_letters(self):
        self.assertEqual(grown(*TURNS, 16), "abbabaabbaababba")
        words = {"a": "abc", "b": "bca", "c": "cab"}
        signs = {"a": 0, "b": 1, "c": 2}
        self.assertEqual(grown(words, "b", signs, 12), "bcacababccab")
        self.assertEqual(letter_at(words, "b", signs, 3), "c")

    def test_the_letter_to_begin_with(self):
        self.assertEqual(grown(*TURNS, 0), "")
        self.assertEqual(grown(*TURNS, 1), "a")
        self.assertEqual(letter_at(*TURNS, 0), "a")

    def test_words_of_each_length(self):
        draw = drawing(13)
        for length, many in itertools.product([2, 3, 4, 5], [1, 2, 5, 26]):
            words, begin, signs = drawn_words(draw, many, length)
            letters = [letter_at(words, begin, signs, place) for place in range(200)]
            self.assertEqual(letters, [letter_slowly(words, begin, place) for place in range(200)])
            for count in [0, 1, 2, length, length + 1, 199, 200]:
                text = grown(words, begin, signs, count)
                self.assertEqual(text, "".join(letters[:count]))
                self.assertEqual(text, grown_slowly(words, begin, count))

    def test_great_places(self):
        draw = drawing(14)
        for length in [2, 3, 4, 5]:
            words, begin, signs = drawn_words(draw, 9, length)
            for place in GREAT + drawn_places(draw, 20):
                self.assertEqual(letter_at(words, begin, signs, place), letter_slowly(words, begin, place))

    def test_what_is_handed_in_stays(self):
        words, begin, signs = {"b": "ba", "a": "bb"}, "b", {"b": 3, "a": 4, "x": 99}
        kept = (dict(words), list(words), dict(signs), list(signs))
        grown(words, begin, signs, 9)
        letter_at(words, begin, signs, 9)
        row_of_words(words, begin, signs)
        self.assertEqual((words, list(words), signs, list(signs)), kept)


class ToRows(unittest.TestCase):
    def test_told_rows(self):
        self.assertEqual(row_of_words(*TURNS), (((0, 1), (1, 0)), (0, 1)))
        words = {"a": "ac", "b": "bb", "c": "ab", "d": "da"}
        self.assertEqual(row_of_words(words, "a", {"a": 5, "b": 6, "c": 7, "d": 8}),
                         (((0, 1), (0, 2), (2, 2)), (5, 7, 6)))

    def test_letters_that_never_come(self):
        words = {"x": "xx", "a": "bb", "b": "ab"}
        self.assertEqual(row_of_words(words, "x", {"x": 4, "a": 1, "b": 2}), (((0, 0),), (4,)))

    def test_numbered_as_first_reached(self):
        words = {"m": "mzc", "z": "cya", "c": "mmm", "y": "zzz", "a": "aaa"}
        signs = {"m": 0, "z": 1, "c": 2, "y": 3, "a": 4}
        self.assertEqual(row_of_words(words, "m", signs),
                         (((0, 1, 2), (2, 3, 4), (0, 0, 0), (1, 1, 1), (4, 4, 4)), (0, 1, 2, 3, 4)))

    def test_rooms_that_are_alike_are_kept_apart(self):
        words = {"a": "ab", "b": "ba"}
        self.assertEqual(row_of_words(words, "a", {"a": 6, "b": 6}), (((0, 1), (1, 0)), (6, 6)))

    def test_signs_are_the_letters_signs(self):
        draw = drawing(15)
        for length, many in itertools.product([2, 3, 4, 5], [1, 4, 26]):
            words, begin, signs = drawn_words(draw, many, length)
            row = row_of_words(words, begin, signs)
            self.assertEqual(row, machine_of(row[0], row[1]))
            self.assertEqual(all_reached(row), list(range(len(row[0]))))
            come = {begin}
            while not all(set(words[letter]) <= come for letter in come):
                come |= {other for letter in come for other in words[letter]}
            self.assertEqual(len(row[0]), len(come))
            self.assertEqual(first_signs(row, 200), [signs[letter] for letter in grown(words, begin, signs, 200)])
            for place in GREAT + drawn_places(draw, 10):
                self.assertEqual(sign_at(row, place), signs[letter_slowly(words, begin, place)])


class OfRows(unittest.TestCase):
    def test_told_words(self):
        self.assertEqual(words_of_row(machine_of([[0, 1], [1, 0]], [0, 1])), ({"a": "ab", "b": "ba"}, "a", {"a": 0, "b": 1}))
        self.assertEqual(words_of_row(machine_of([[0, 0, 0]], [7])), ({"a": "aaa"}, "a", {"a": 7}))

    def test_rooms_that_are_not_reached_have_words(self):
        row = machine_of([[0, 0], [2, 0], [1, 1]], [3, 4, 5])
        self.assertEqual(words_of_row(row), ({"a": "aa", "b": "ca", "c": "bb"}, "a", {"a": 3, "b": 4, "c": 5}))

    def test_26_rooms(self):
        for base in [2, 3, 4, 5]:
            row = adding(26, base)
            words, begin, signs = words_of_row(row)
            self.assertEqual((sorted(words), sorted(signs), begin), (list(ALPHABET), list(ALPHABET), "a"))
            self.assertEqual(words["z"], "zabcd"[:base])
            self.assertEqual(signs["z"], 25 * 7 % 10)

    def test_27_rooms(self):
        for base in [2, 3, 4, 5]:
            self.assertRaises(TooGreat, words_of_row, adding(27, base))
            self.assertRaises(TooGreat, words_of_row, adding(100, base))
            # Rooms count, reached or not.
            self.assertRaises(TooGreat, words_of_row, machine_of([[0] * base] * 27, [0] * 27))

    def test_no_base_ahead_of_too_great(self):
        for letters in [1, 6, 64]:
            for rooms in [1, 26, 27, 100]:
                self.assertRaises(NoBase, words_of_row, adding(rooms, letters))

    def test_there_and_back(self):
        draw = drawing(16)
        for base, rooms in itertools.product([2, 3, 4, 5], [1, 2, 7, 26]):
            row = drawn_machine(draw, rooms, base)
            words, begin, signs = words_of_row(row)
            again = row_of_words(words, begin, signs)
            self.assertEqual(len(again[0]), len(all_reached(row)))
            self.assertEqual(first_signs(again, 200), first_signs(row, 200))
            for place in GREAT + drawn_places(draw, 10):
                self.assertEqual(sign_at(again, place), sign_at(row, place))
                self.assertEqual(signs[letter_at(words, begin, signs, place)], sign_at(row, place))
                letter = begin
                for figure in figures_of(place, base):
                    letter = words[letter][figure]
                self.assertEqual(letter_at(words, begin, signs, place), letter)

    def test_the_dicts_are_the_asker_s_own(self):
        row = machine_of([[0, 1], [1, 0]], [0, 1])
        words, begin, signs = words_of_row(row)
        words["a"] = "zz"
        signs.clear()
        self.assertEqual(words_of_row(row), ({"a": "ab", "b": "ba"}, "a", {"a": 0, "b": 1}))
        self.assertEqual(row, (((0, 1), (1, 0)), (0, 1)))


if __name__ == "__main__":
    unittest.main()
