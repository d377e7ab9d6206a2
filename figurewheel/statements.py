"""Statements on places: trees that tell their free names, their text and their relation."""

from figurewheel.comparing import letters_in
from figurewheel.errors import NoName, NotLike
from figurewheel.figures import want_base
from figurewheel.joining import both, either, no
from figurewheel.leaves import place_is, sign_is, signs_like, sums
from figurewheel.relations import rising
from figurewheel.some import every, some


def want_rows(base, rows, names):
    want_base(base)
    for name in names:
        if name not in rows:
            raise NoName(name)
    for name in names:
        if letters_in(rows[name]) != base:
            raise NotLike()


def free_of_both(one, other):
    return list(rising(one.free() + other.free()))


def free_without(name, one):
    return [other for other in one.free() if other != name]


def joined_text(one, word, other):
    return " ".join(["(", one.text(), word, other.text(), ")"])


class Statement:
    pass


class SignIs(Statement):
    def __init__(self, row, name, sign):
        self.row = row
        self.name = name
        self.sign = sign

    def free(self):
        return [self.name]

    def text(self):
        return " ".join([self.row, self.name, "is", str(self.sign)])

    def relation(self, base, rows):
        want_rows(base, rows, [self.row])
        return sign_is(rows[self.row], self.name, self.sign)


class SignsLike(Statement):
    def __init__(self, row, name, other, second):
        self.row = row
        self.name = name
        self.other = other
        self.second = second

    def free(self):
        return list(rising([self.name, self.second]))

    def text(self):
        return " ".join([self.row, self.name, "like", self.other, self.second])

    def relation(self, base, rows):
        want_rows(base, rows, [self.row, self.other])
        return signs_like(rows[self.row], self.name, rows[self.other], self.second)


class Sums(Statement):
    def __init__(self, left, right, word):
        self.left = list(left)
        self.right = list(right)
        self.word = word

    def free(self):
        return list(rising(self.left + self.right))

    def text(self):
        return " ".join([" + ".join(self.left), self.word, " + ".join(self.right)])

    def relation(self, base, rows):
        return sums(base, self.left, self.right, self.word)


class PlaceIs(Statement):
    def __init__(self, name, place):
        self.name = name
        self.place = place

    def free(self):
        return [self.name]

    def text(self):
        return " ".join([self.name, "=", str(self.place)])

    def relation(self, base, rows):
        return place_is(base, self.name, self.place)


class No(Statement):
    def __init__(self, one):
        self.one = one

    def free(self):
        return self.one.free()

    def text(self):
        return " ".join(["not", self.one.text()])

    def relation(self, base, rows):
        return no(self.one.relation(base, rows))


class Both(Statement):
    def __init__(self, one, other):
        self.one = one
        self.other = other

    def free(self):
        return free_of_both(self.one, self.other)

    def text(self):
        return joined_text(self.one, "and", self.other)

    def relation(self, base, rows):
        return both(self.one.relation(base, rows), self.other.relation(base, rows))


class Either(Statement):
    def __init__(self, one, other):
        self.one = one
        self.other = other

    def free(self):
        return free_of_both(self.one, self.other)

    def text(self):
        return joined_text(self.one, "or", self.other)

    def relation(self, base, rows):
        return either(self.one.relation(base, rows), self.other.relation(base, rows))


class Some(Statement):
    def __init__(self, name, one):
        self.name = name
        self.one = one

    def free(self):
        return free_without(self.name, self.one)

    def text(self):
        return " ".join(["some", self.name, self.one.text()])

    def relation(self, base, rows):
        return some(self.one.relation(base, rows), self.name)


class Every(Statement):
    def __init__(self, name, one):
        self.name = name
        self.one = one

    def free(self):
        return free_without(self.name, self.one)

    def text(self):
        return " ".join(["all", self.name, self.one.text()])

    def relation(self, base, rows):
        return every(self.one.relation(base, rows), self.name)
