"""Relations: which places, one for each name, are taken."""

from figurewheel.errors import NoName, TooWide
from figurewheel.figures import code_of, column_of, columns_of
from figurewheel.least import least_met
from figurewheel.machines import MOST_LETTERS, MOST_ROOMS, sign_of

MOST_NAMES = 4


def letters_for(base, names):
    many = 1
    for name in names:
        many = many * base
    return many


def rising(names):
    return tuple(sorted(set(names)))


def want_width(base, names):
    if len(names) > MOST_NAMES or letters_for(base, names) > MOST_LETTERS:
        raise TooWide(len(names))


def codes_within(base, names, part):
    # A machine of the part knows the figures of its own names alone: each code of all names is told as one of those.
    spots = [names.index(name) for name in part]
    codes = []
    for code in range(letters_for(base, names)):
        column = column_of(code, len(names), base)
        codes.append(code_of([column[spot] for spot in spots], base))
    return codes


def paired(base, one, one_names, other, other_names, sign):
    # Names that both have are read by both at the same place, so the machines have to go side by side.
    names = rising(one_names + other_names)
    want_width(base, names)
    one_codes = codes_within(base, names, one_names)
    other_codes = codes_within(base, names, other_names)

    def lead(pair, code):
        return (one[0][pair[0]][one_codes[code]], other[0][pair[1]][other_codes[code]])

    def pair_sign(pair):
        return sign(one[1][pair[0]], other[1][pair[1]])

    return (base, names, least_met((0, 0), letters_for(base, names), lead, pair_sign, MOST_ROOMS))


def takes(relation, places):
    base = relation[0]
    codes = [code_of(column, base) for column in columns_of(places, base)]
    return sign_of(relation[2], codes) == 1


def takes_by(relation, known):
    for name in relation[1]:
        if name not in known:
            raise NoName(name)
    return takes(relation, [known[name] for name in relation[1]])
