"""The first places that a relation takes."""

from figurewheel.comparing import compared
from figurewheel.figures import column_of, numbers_of


def first_of(relation):
    base = relation[0]
    many = len(relation[1])
    machine = relation[2]
    # A machine that takes nothing is unlike this one for the first list that is taken.
    nothing = ((tuple([0] * len(machine[0][0])),), (0,))
    told = compared(machine, nothing)
    if told[0] == "alike":
        return None
    return numbers_of([column_of(code, many, base) for code in told[1]], many, base)
