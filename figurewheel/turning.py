"""Back machines, which read a place's figures from the last one to the first, and rows turned both ways."""

from figurewheel.errors import NoMachine
from figurewheel.figures import GREATEST_BASE, LEAST_BASE, figures_of
from figurewheel.least import least, machine_met
from figurewheel.machines import MOST_ROOMS, base_of, in_tuples, sign_of, want_parts


def back_of(rows, signs):
    want_parts(rows, signs, LEAST_BASE, GREATEST_BASE)
    for room in range(len(rows)):
        if signs[rows[room][0]] != signs[room]:
            raise NoMachine("steady", room)
    return in_tuples(rows, signs)


def back_sign_at(back, place):
    return sign_of(back, list(reversed(figures_of(place, len(back[0][0])))))


def turned(machine):
    # What is met stands for the letters read so far: for each room the sign that they lead to from there.
    form = least(machine)
    rows = form[0]

    def lead(told, letter):
        return tuple([told[row[letter]] for row in rows])

    def sign(told):
        return told[0]

    return machine_met(form[1], len(rows[0]), lead, sign, MOST_ROOMS)


def to_back(row):
    base_of(row)
    return turned(row)


def to_front(back):
    return turned(back)
