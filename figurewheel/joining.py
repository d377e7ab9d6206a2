"""Relations made of relations: what both take, what either takes, what one does not take."""

from figurewheel.errors import NotLike
from figurewheel.relations import paired


def joined(one, other, sign):
    if one[0] != other[0]:
        raise NotLike()
    return paired(one[0], one[2], one[1], other[2], other[1], sign)


def both(one, other):
    def sign(one_sign, other_sign):
        return min(one_sign, other_sign)

    return joined(one, other, sign)


def either(one, other):
    def sign(one_sign, other_sign):
        return max(one_sign, other_sign)

    return joined(one, other, sign)


def no(one):
    # The same lists tell the rooms apart when all signs are turned round, so the least form stays one.
    machine = one[2]
    return (one[0], one[1], (machine[0], tuple([1 - sign for sign in machine[1]])))
