"""Machines numbered as first reached, and their least form."""

from figurewheel.errors import TooGreat


def met_from(start, letters, lead, most):
    # The first of a list of letters that leads to a thing puts it in its place, so the things come in this order.
    met = [start]
    numbers = {start: 0}
    rows = []
    while len(rows) < len(met):
        row = []
        for letter in range(letters):
            thing = lead(met[len(rows)], letter)
            if thing not in numbers:
                numbers[thing] = len(met)
                met.append(thing)
            row.append(numbers[thing])
        rows.append(tuple(row))
        if len(met) > most:
            raise TooGreat()
    return (met, tuple(rows))


def machine_met(start, letters, lead, sign, most):
    # No sign is asked for ahead of the whole walk: a refusal of the count goes first.
    told = met_from(start, letters, lead, most)
    return (told[1], tuple([sign(thing) for thing in told[0]]))


def reached_by(machine, stands):
    # stands has for each room the one that stands in its place; room 0 stands for itself.
    rows = machine[0]
    signs = machine[1]

    def lead(room, letter):
        return stands[rows[room][letter]]

    def sign(room):
        return signs[room]

    return machine_met(0, len(rows[0]), lead, sign, len(rows))


def as_reached(machine):
    return reached_by(machine, list(range(len(machine[0]))))


def first_equals(things):
    firsts = {}
    for index, thing in enumerate(things):
        if thing not in firsts:
            firsts[thing] = index
    return [firsts[thing] for thing in things]


def parted(rows, alike):
    return first_equals([(alike[room], tuple([alike[led] for led in row])) for room, row in enumerate(rows)])


def first_alike(machine):
    # Rooms count as alike until a list tells them apart, one letter longer each time round.
    alike = first_equals(machine[1])
    many = 0
    while many < len(set(alike)):
        many = len(set(alike))
        alike = parted(machine[0], alike)
    return alike


def least(machine):
    return reached_by(machine, first_alike(machine))


def least_met(start, letters, lead, sign, most):
    return least(machine_met(start, letters, lead, sign, most))
