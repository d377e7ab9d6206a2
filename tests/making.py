"""Machines for the tests, and slow but plain ways to the same answers."""

import itertools
import random

from figurewheel.least import least
from figurewheel.machines import machine_of

SIXTY = 10 ** 60 - 1
GREAT = [10 ** 59, SIXTY, 2 ** 199, 3 ** 120 + 1, 4 ** 99 - 1, 5 ** 85 - 1]


def drawing(seed):
    return random.Random(seed)


def drawn_machine(draw, rooms, letters, signs=10):
    rows = [[draw.randrange(rooms) for letter in range(letters)] for room in range(rooms)]
    rows[0][0] = 0
    return machine_of(rows, [draw.randrange(signs) for room in range(rooms)])


def drawn_places(draw, many):
    return [draw.randrange(10 ** draw.randrange(1, 61)) for index in range(many)]


def short_lists(letters, longest):
    for length in range(longest + 1):
        for told in itertools.product(range(letters), repeat=length):
            yield list(told)


def drawn_list(draw, letters, length):
    return [draw.randrange(letters) for index in range(length)]


def adding(rooms, letters):
    """A machine in which a letter leads so many rooms on, round and round."""
    rows = [[(room + letter) % rooms for letter in range(letters)] for room in range(rooms)]
    return machine_of(rows, [room * 7 % 10 for room in range(rooms)])


def chain(rooms, letters, last=1):
    """A machine whose rooms are parted by long lists alone: letter 1 leads on to the last room, others nowhere."""
    rows = [[room, min(room + 1, rooms - 1)] + [room] * (letters - 2) for room in range(rooms)]
    return machine_of(rows, [0] * (rooms - 1) + [last])


def only_at(place, base):
    """The row with sign 1 at that place alone: two rooms more than the place has figures."""
    figures = []
    while place > 0:
        figures.insert(0, place % base)
        place //= base
    many = len(figures)
    rows = [[many + 1] * base for room in range(many + 2)]
    rows[0][0] = 0
    for room, figure in enumerate(figures):
        rows[room][figure] = room + 1
    return machine_of(rows, [0] * many + [1, 0])


def rest_by(many, base, signs=None):
    """The row with a sign for the rest of each place by that number."""
    rows = [[(base * room + figure) % many for figure in range(base)] for room in range(many)]
    return machine_of(rows, [room % 10 for room in range(many)] if signs is None else signs)


def drawn_back(draw, rooms, base, signs=10):
    """A back machine: from each room the letter 0 leads to a room with the same sign."""
    told = [draw.randrange(signs) for room in range(rooms)]
    rows = []
    for room in range(rooms):
        likes = [other for other in range(rooms) if told[other] == told[room]]
        rows.append(tuple([draw.choice(likes)] + [draw.randrange(rooms) for letter in range(base - 1)]))
    return (tuple(rows), tuple(told))


def copied(draw, machine, times):
    """Each room of the machine several times, with other numbers; alike with the machine."""
    rows, signs = machine
    many = len(rows)
    others = list(range(1, many * times))
    draw.shuffle(others)
    numbers = [0] + others
    made_rows = [None] * (many * times)
    made_signs = [None] * (many * times)
    for index in range(many * times):
        led = [numbers[to + many * draw.randrange(times)] for to in rows[index % many]]
        if index == 0:
            led[0] = 0
        made_rows[numbers[index]] = led
        made_signs[numbers[index]] = signs[index % many]
    return machine_of(made_rows, made_signs)


def all_reached(machine):
    """The rooms in the order of the first lists that lead to them."""
    rows, signs = machine
    rooms = [0]
    for room in rooms:
        for led in rows[room]:
            if led not in rooms:
                rooms.append(led)
    return rooms


def told_apart(machine):
    """The pairs of rooms that some list of letters tells apart, found from the signs backwards."""
    rows, signs = machine
    pairs = list(itertools.combinations(range(len(rows)), 2))
    apart = {pair for pair in pairs if signs[pair[0]] != signs[pair[1]]}
    while True:
        more = {
            (one, other) for one, other in pairs if (one, other) not in apart
            and any(tuple(sorted((a, b))) in apart for a, b in zip(rows[one], rows[other]))
        }
        if not more:
            return apart
        apart |= more


def fewest_rooms(machine):
    apart = told_apart(machine)
    kept = []
    for room in all_reached(machine):
        if all(tuple(sorted((room, other))) in apart for other in kept):
            kept.append(room)
    return len(kept)


def is_relation(relation):
    """Whether it is a relation by point 25, its machine in its least form and so numbered."""
    base, names, machine = relation
    rows, signs = machine
    kinds = [type(part) for part in (relation, names, machine, rows, signs, rows[0])]
    return (
        kinds == [tuple] * 6 and list(names) == sorted(set(names)) and len(names) <= 4 and base ** len(names) <= 64
        and all(len(row) == base ** len(names) for row in rows) and set(signs) <= {0, 1} and rows[0][0] == 0
        and len(rows) <= 100 and all_reached(machine) == list(range(len(rows))) and least(machine) == machine
    )


def drawn_relation(draw, base, names, rooms):
    return (base, tuple(names), least(drawn_machine(draw, rooms, base ** len(names), 2)))


def pairs_met(one, other, columns):
    """How many pairs of rooms two machines come to, which read the first and the second of each of the columns."""
    met = [(0, 0)]
    known = set(met)
    for first, second in met:
        for one_code, other_code in columns:
            pair = (one[0][first][one_code], other[0][second][other_code])
            if pair not in known:
                known.add(pair)
                met.append(pair)
    return len(met)


def refusal_of(asked, *handed):
    """The refusal that a call meets, or None."""
    try:
        asked(*handed)
    except ValueError as error:
        return error
    return None
