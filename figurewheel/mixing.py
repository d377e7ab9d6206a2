"""Two rows mixed sign by sign."""

from figurewheel.comparing import led_pair, want_like
from figurewheel.errors import NoPair
from figurewheel.least import least, least_met
from figurewheel.machines import MOST_ROOMS, base_of


def mixed(one, other, table):
    base = base_of(one)
    base_of(other)
    want_like(one, other)
    first = least(one)
    second = least(other)

    def lead(pair, figure):
        return led_pair(first, second, pair, figure)

    def sign(pair):
        # Pairs are asked in the order of the least places at which they come.
        signs = (first[1][pair[0]], second[1][pair[1]])
        if signs not in table:
            raise NoPair(signs)
        return table[signs]

    return least_met((0, 0), base, lead, sign, MOST_ROOMS)
