"""Rows told by letters each of which stands for a word."""

from figurewheel.errors import NoWords, TooGreat
from figurewheel.figures import figures_of
from figurewheel.least import machine_met
from figurewheel.machines import base_of, is_sign

ALPHABET = "abcdefghijklmnopqrstuvwxyz"
SHORTEST_WORD = 2
LONGEST_WORD = 5


def is_beginning(words, begin):
    if begin not in words:
        return False
    word = words[begin]
    return SHORTEST_WORD <= len(word) and len(word) <= LONGEST_WORD and word.startswith(begin)


def is_whole(words, signs, letter):
    if not all([other in words for other in words[letter]]):
        return False
    return letter in signs and is_sign(signs[letter])


def want_words(words, begin, signs):
    if not is_beginning(words, begin):
        raise NoWords(begin)
    letters = sorted(words)
    # All lengths are asked for ahead of all else.
    for letter in letters:
        if len(words[letter]) != len(words[begin]):
            raise NoWords(letter)
    for letter in letters:
        if not is_whole(words, signs, letter):
            raise NoWords(letter)


def letter_at(words, begin, signs, place):
    want_words(words, begin, signs)
    letter = begin
    for figure in figures_of(place, len(words[begin])):
        letter = words[letter][figure]
    return letter


def grown(words, begin, signs, many):
    want_words(words, begin, signs)
    base = len(words[begin])
    letters = [begin]
    for place in range(1, many):
        letters.append(words[letters[place // base]][place % base])
    return "".join(letters[:many])


def row_of_words(words, begin, signs):
    want_words(words, begin, signs)

    def lead(letter, figure):
        return words[letter][figure]

    def sign(letter):
        return signs[letter]

    return machine_met(begin, len(words[begin]), lead, sign, len(words))


def words_of_row(row):
    # A machine of other letters is refused ahead of one with too many rooms.
    base_of(row)
    rows = row[0]
    signs = row[1]
    if len(rows) > len(ALPHABET):
        raise TooGreat()
    words = {}
    told = {}
    for room in range(len(rows)):
        words[ALPHABET[room]] = "".join([ALPHABET[led] for led in rows[room]])
        told[ALPHABET[room]] = signs[room]
    return (words, ALPHABET[0], told)
