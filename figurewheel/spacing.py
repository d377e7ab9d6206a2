"""Rows spaced: only each so manieth place, from a first one on."""

from figurewheel.errors import NoStep
from figurewheel.figures import figures_of
from figurewheel.least import least, least_met
from figurewheel.machines import MOST_ROOMS, base_of, room_of

GREATEST_STEP = 12
GREATEST_FIRST = 24


def want_step(step, first):
    if step < 1 or step > GREATEST_STEP or first < 0 or first > GREATEST_FIRST:
        raise NoStep()


def spaced(row, step, first=0):
    base = base_of(row)
    want_step(step, first)
    form = least(row)
    many = max(first, step - 1) + 1

    def lead(window, figure):
        # The place step * (base * n + figure) + index is base * (step * n + one // base) + one % base.
        places = [step * figure + index for index in range(many)]
        return tuple([form[0][window[one // base]][one % base] for one in places])

    def sign(window):
        return form[1][window[first]]

    start = tuple([room_of(form, figures_of(place, base)) for place in range(many)])
    return least_met(start, base, lead, sign, MOST_ROOMS)
