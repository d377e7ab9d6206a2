"""Relations made of nothing but rows, names and numbers."""

from figurewheel.comparing import want_like
from figurewheel.errors import TooGreat
from figurewheel.figures import column_of, figures_of, want_base
from figurewheel.least import least, least_met
from figurewheel.machines import base_of
from figurewheel.relations import letters_for, paired, rising, want_width

# A place's machine has two rooms more than the place has figures.
MOST_FIGURES = 98


def as_sign(truth):
    return 1 if truth else 0


def sign_is(row, name, sign):
    base = base_of(row)
    told = tuple([as_sign(one == sign) for one in row[1]])
    return (base, (name,), least((row[0], told)))


def signs_like(row, name, other, second):
    base = base_of(row)
    base_of(other)
    want_like(row, other)

    def sign(first_sign, second_sign):
        return as_sign(first_sign == second_sign)

    return paired(base, least(row), (name,), least(other), (second,), sign)


def gain_of(names, column, left, right):
    return sum([figure * (right.count(name) - left.count(name)) for name, figure in zip(names, column)])


def sums(base, left, right, word):
    want_base(base)
    names = rising(left + right)
    want_width(base, names)
    letters = letters_for(base, names)
    gains = [gain_of(names, column_of(code, len(names), base), left, right) for code in range(letters)]
    # What the right side is ahead by: from here on, on either side, no further figures can bring it back.
    bound = max(len(left), len(right), 1)

    def lead(ahead, code):
        return max(-bound, min(bound, base * ahead + gains[code]))

    def sign(ahead):
        return as_sign(ahead == 0 if word == "=" else ahead > 0)

    return (base, names, least_met(0, letters, lead, sign, 2 * bound + 1))


def place_is(base, name, place):
    figures = figures_of(place, base)
    if len(figures) > MOST_FIGURES:
        raise TooGreat()
    astray = len(figures) + 1

    def lead(many, figure):
        # 0s ahead of a place's figures change nothing.
        if many == 0 and figure == 0:
            return 0
        if many < len(figures) and figures[many] == figure:
            return many + 1
        return astray

    def sign(many):
        return as_sign(many == len(figures))

    return (base, (name,), least_met(0, base, lead, sign, len(figures) + 2))
