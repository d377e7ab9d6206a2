"""Statements read of texts."""

from figurewheel.errors import NoText
from figurewheel.statements import Both, Either, Every, No, PlaceIs, SignIs, SignsLike, Some, Sums
from figurewheel.writing import is_figure, is_number

SMALL_LETTERS = "abcdefghijklmnopqrstuvwxyz"
CAPITAL_LETTERS = "ABCDEFGHIJKLMNOPQRSTUVWXYZ"
NO_NAMES = ("some", "all", "not", "and", "or", "is", "like")
LONGEST_NAME = 6
MOST_FIGURES = 9
MOST_IN_A_SIDE = 3
DEEPEST = 8


def is_name(word):
    if len(word) == 0 or len(word) > LONGEST_NAME or word in NO_NAMES:
        return False
    return all([sign in SMALL_LETTERS for sign in word])


def is_row_name(word):
    return len(word) == 1 and word in CAPITAL_LETTERS


class Reading:
    def __init__(self, words):
        self.words = words
        self.at = 0

    def shown(self):
        # A word without signs can stand nowhere, so it tells the end too: what is refused there tells how many words.
        return self.words[self.at] if self.at < len(self.words) else ""

    def wanted(self, fits):
        word = self.shown()
        if not fits(word):
            raise NoText(self.at)
        self.at = self.at + 1
        return word

    def one_of(self, choices):
        return self.wanted(lambda word: word in choices)


def read_sign(reading):
    row = reading.wanted(is_row_name)
    name = reading.wanted(is_name)
    if reading.one_of(["is", "like"]) == "is":
        return SignIs(row, name, int(reading.wanted(is_figure)))
    other = reading.wanted(is_row_name)
    return SignsLike(row, name, other, reading.wanted(is_name))


def read_side(reading):
    names = [reading.wanted(is_name)]
    while len(names) < MOST_IN_A_SIDE and reading.shown() == "+":
        reading.one_of(["+"])
        names.append(reading.wanted(is_name))
    return names


def is_place(word):
    return is_number(word, MOST_FIGURES)


def read_sums(reading):
    left = read_side(reading)
    word = reading.one_of(["=", "<"])
    if word == "=" and len(left) == 1 and is_place(reading.shown()):
        return PlaceIs(left[0], int(reading.wanted(is_place)))
    return Sums(left, read_side(reading), word)


def read_joined(reading, depth):
    reading.one_of(["("])
    one = read_part(reading, depth + 1)
    word = reading.one_of(["and", "or"])
    other = read_part(reading, depth + 1)
    reading.one_of([")"])
    return Both(one, other) if word == "and" else Either(one, other)


def read_bound(reading, depth):
    word = reading.one_of(["some", "all"])
    name = reading.wanted(is_name)
    one = read_part(reading, depth + 1)
    return Some(name, one) if word == "some" else Every(name, one)


def read_part(reading, depth):
    if depth > DEEPEST:
        raise NoText(reading.at)
    word = reading.shown()
    if word == "not":
        reading.one_of(["not"])
        return No(read_part(reading, depth + 1))
    if word == "(":
        return read_joined(reading, depth)
    if word in ("some", "all"):
        return read_bound(reading, depth)
    if is_row_name(word):
        return read_sign(reading)
    return read_sums(reading)


def read_statement(text):
    reading = Reading(text.split(" "))
    statement = read_part(reading, 1)
    if reading.at < len(reading.words):
        raise NoText(reading.at)
    return statement
