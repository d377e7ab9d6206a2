"""Relations of some place and of every place of a name."""

from figurewheel.least import least_met
from figurewheel.machines import MOST_ROOMS
from figurewheel.relations import codes_within, letters_for


def codes_by_rest(base, names, rest):
    # The name that is left out may have any figure, so a column for the rest stands for several columns.
    codes = [[] for code in range(letters_for(base, rest))]
    for code, within in enumerate(codes_within(base, names, rest)):
        codes[within].append(code)
    return codes


def led_rooms(rows, rooms, codes):
    led = []
    for code in codes:
        led.extend([rows[room][code] for room in rooms])
    return tuple(sorted(set(led)))


def first_rooms(rows, codes):
    # The place for the name may have more figures than all others, and so be ahead of them by any number of figures.
    rooms = (0,)
    led = led_rooms(rows, rooms, codes)
    while led != rooms:
        rooms = led
        led = led_rooms(rows, rooms, codes)
    return rooms


def without(relation, name, sign):
    base = relation[0]
    names = relation[1]
    rows = relation[2][0]
    rest = tuple([other for other in names if other != name])
    codes = codes_by_rest(base, names, rest)

    def lead(rooms, code):
        return led_rooms(rows, rooms, codes[code])

    return (base, rest, least_met(first_rooms(rows, codes[0]), len(codes), lead, sign, MOST_ROOMS))


def some(relation, name):
    if name not in relation[1]:
        return relation
    signs = relation[2][1]

    def sign(rooms):
        return max([signs[room] for room in rooms])

    return without(relation, name, sign)


def every(relation, name):
    if name not in relation[1]:
        return relation
    signs = relation[2][1]

    def sign(rooms):
        return min([signs[room] for room in rooms])

    return without(relation, name, sign)
