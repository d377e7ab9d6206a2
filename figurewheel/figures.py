"""The figures of places by a base, and columns of figures side by side."""

from figurewheel.errors import NoBase

LEAST_BASE = 2
GREATEST_BASE = 5


def want_base(base):
    if base < LEAST_BASE or base > GREATEST_BASE:
        raise NoBase()


def figures_of(place, base=2):
    want_base(base)
    figures = []
    rest = place
    while rest > 0:
        figures.append(rest % base)
        rest = rest // base
    figures.reverse()
    return figures


def number_of(figures, base=2):
    want_base(base)
    number = 0
    for figure in figures:
        number = number * base + figure
    return number


def filled(figures, length):
    return [0] * (length - len(figures)) + figures


def at_each(lists, index):
    return [one[index] for one in lists]


def columns_of(places, base=2):
    # Of no places no figures are asked for, so the base is looked at here.
    want_base(base)
    written = [figures_of(place, base) for place in places]
    length = max([len(figures) for figures in written], default=0)
    lines = [filled(figures, length) for figures in written]
    return [tuple(at_each(lines, index)) for index in range(length)]


def numbers_of(columns, many, base=2):
    # Where many is 0 no number is asked for, so the base is looked at here.
    want_base(base)
    return [number_of(at_each(columns, index), base) for index in range(many)]


def code_of(column, base=2):
    # A column's code is the number that its figures write, 0s ahead or not.
    return number_of(column, base)


def column_of(code, many, base=2):
    return tuple(filled(figures_of(code, base), many))
