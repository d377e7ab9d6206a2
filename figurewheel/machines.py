"""Machines: how they are made, what they tell for letters, and rows of signs."""

from figurewheel.errors import NoMachine
from figurewheel.figures import figures_of, want_base

MOST_ROOMS = 100
FEWEST_LETTERS = 1
MOST_LETTERS = 64
GREATEST_SIGN = 9


def want_counts(rows, signs):
    if len(rows) == 0 or len(rows) > MOST_ROOMS:
        raise NoMachine("rooms", len(rows))
    if len(signs) != len(rows):
        raise NoMachine("signs", len(signs))


def want_letters(rows, room, fewest, most):
    many = len(rows[room])
    if many < fewest or many > most or many != len(rows[0]):
        raise NoMachine("letters", room)


def want_rooms(rows, room):
    for number in rows[room]:
        if number < 0 or number >= len(rows):
            raise NoMachine("next", room)


def is_sign(sign):
    return sign >= 0 and sign <= GREATEST_SIGN


def want_signs(signs):
    for index, sign in enumerate(signs):
        if not is_sign(sign):
            raise NoMachine("sign", index)


def want_parts(rows, signs, fewest, most):
    want_counts(rows, signs)
    # Both are asked of one row ahead of the next row: a refusal tells the first row at fault.
    for room in range(len(rows)):
        want_letters(rows, room, fewest, most)
        want_rooms(rows, room)
    want_signs(signs)


def in_tuples(rows, signs):
    return (tuple([tuple(row) for row in rows]), tuple(signs))


def machine_of(rows, signs):
    want_parts(rows, signs, FEWEST_LETTERS, MOST_LETTERS)
    if rows[0][0] != 0:
        raise NoMachine("front", 0)
    return in_tuples(rows, signs)


def room_of(machine, letters):
    rows = machine[0]
    room = 0
    for letter in letters:
        room = rows[room][letter]
    return room


def sign_of(machine, letters):
    return machine[1][room_of(machine, letters)]


def base_of(row):
    base = len(row[0][0])
    want_base(base)
    return base


def sign_at(row, place):
    return sign_of(row, figures_of(place, base_of(row)))


def first_signs(row, many):
    # Of no places no sign is asked for, so the base is looked at here.
    base = base_of(row)
    return [sign_of(row, figures_of(place, base)) for place in range(many)]


def teller(row):
    base = base_of(row)

    def tell(place):
        return sign_of(row, figures_of(place, base))

    return tell
