"""The desk: lines that tell it rows and ask it of them."""

from figurewheel.comparing import letters_in, place_apart
from figurewheel.errors import NoLine, NoName, NotLike
from figurewheel.firsts import first_of
from figurewheel.least import least
from figurewheel.machines import base_of, first_signs, sign_at
from figurewheel.reader import is_row_name, read_statement
from figurewheel.spacing import spaced
from figurewheel.verdicts import comes_round, comes_twice
from figurewheel.writing import is_number, read_machine

MOST_FIGURES = 30
MOST_SHOWN = 100

# What stands behind a line's first word: "new" is a letter, "kept" one by which a row must be kept.
FORMS = {
    "base": ("base",),
    "row": ("new", "text"),
    "space": ("new", "kept", "number", "number"),
    "show": ("kept", "shown"),
    "at": ("kept", "number"),
    "compare": ("kept", "kept"),
    "say": ("text",),
    "round": ("kept",),
    "twice": ("kept",),
}


def cut(line):
    # A text is one thing, whatever blanks are in it.
    first = line.partition(" ")[0]
    if first == "row":
        return line.split(" ", 2)
    if first == "say":
        return line.split(" ", 1)
    return line.split(" ")


def fits(form, word):
    if form == "base":
        return word in ("2", "3", "4", "5")
    if form == "number":
        return is_number(word, MOST_FIGURES)
    if form == "shown":
        return is_number(word, MOST_FIGURES) and int(word) <= MOST_SHOWN
    return form == "text" or is_row_name(word)


def want_line(words):
    if words[0] not in FORMS or len(words) != len(FORMS[words[0]]) + 1:
        raise NoLine()
    for form, word in zip(FORMS[words[0]], words[1:]):
        if not fits(form, word):
            raise NoLine()


def want_kept(words, rows):
    for form, word in zip(FORMS[words[0]], words[1:]):
        if form == "kept" and word not in rows:
            raise NoName(word)


def spoken(parts):
    return " ".join([str(part) for part in parts])


def compared_text(one, other):
    place = place_apart(one, other)
    return "alike" if place is None else spoken(["unlike", place])


def truth_text(relation):
    places = first_of(relation)
    if len(relation[1]) == 0:
        return "not so" if places is None else "so"
    if places is None:
        return "never"
    return " ".join([spoken([name, place]) for name, place in zip(relation[1], places)])


def asked_of_row(row, words):
    if words[0] == "show":
        return "".join([str(sign) for sign in first_signs(row, int(words[2]))])
    if words[0] == "at":
        return str(sign_at(row, int(words[2])))
    if words[0] == "round":
        return spoken(comes_round(row))
    return spoken(comes_twice(row))


class Desk:
    def __init__(self):
        self.base = 2
        self.rows = {}

    def told(self, line):
        words = cut(line)
        want_line(words)
        want_kept(words, self.rows)
        if words[0] == "base":
            self.base = int(words[1])
            self.rows = {}
            return line
        if words[0] == "row":
            return self.keep(words[1], self.read_row(words[2]))
        if words[0] == "space":
            return self.keep(words[1], spaced(self.rows[words[2]], int(words[3]), int(words[4])))
        if words[0] == "compare":
            return compared_text(self.rows[words[1]], self.rows[words[2]])
        if words[0] == "say":
            return truth_text(read_statement(words[1]).relation(self.base, self.rows))
        return asked_of_row(self.rows[words[1]], words)

    def read_row(self, text):
        row = read_machine(text)
        base_of(row)
        if letters_in(row) != self.base:
            raise NotLike()
        return row

    def keep(self, letter, row):
        self.rows[letter] = row
        return spoken(["rooms", len(least(row)[0])])
