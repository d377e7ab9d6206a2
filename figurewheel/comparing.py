"""Two machines compared: alike with pairs that show it, or unlike with the first list that does."""

from figurewheel.errors import NotLike
from figurewheel.figures import number_of
from figurewheel.machines import base_of


def letters_in(machine):
    return len(machine[0][0])


def want_like(one, other):
    if letters_in(one) != letters_in(other):
        raise NotLike()


def led_pair(one, other, pair, letter):
    return (one[0][pair[0]][letter], other[0][pair[1]][letter])


def like_signs(one, other, pair):
    return one[1][pair[0]] == other[1][pair[1]]


def letters_to(came, pair):
    letters = []
    step = came[pair]
    while step is not None:
        letters.append(step[1])
        step = came[step[0]]
    letters.reverse()
    return letters


def compared(one, other):
    want_like(one, other)
    pairs = [(0, 0)]
    came = {(0, 0): None}
    done = 0
    # Pairs are met in the order of the first lists that lead to them, so the first unlike one has the first list.
    while done < len(pairs):
        pair = pairs[done]
        if not like_signs(one, other, pair):
            return ("unlike", letters_to(came, pair))
        for letter in range(letters_in(one)):
            led = led_pair(one, other, pair, letter)
            if led not in came:
                came[led] = (pair, letter)
                pairs.append(led)
        done = done + 1
    return ("alike", pairs)


def place_apart(one, other):
    base = base_of(one)
    base_of(other)
    told = compared(one, other)
    if told[0] == "alike":
        return None
    return number_of(told[1], base)


def is_room_pair(one, other, pair):
    return 0 <= pair[0] and pair[0] < len(one[0]) and 0 <= pair[1] and pair[1] < len(other[0])


def stays_within(one, other, pair, known):
    return all([led_pair(one, other, pair, letter) in known for letter in range(letters_in(one))])


def shows_alike(one, other, pairs):
    if letters_in(one) != letters_in(other):
        return False
    known = {}
    for pair in pairs:
        if not is_room_pair(one, other, pair) or not like_signs(one, other, pair):
            return False
        known[pair] = True
    return (0, 0) in known and all([stays_within(one, other, pair, known) for pair in pairs])
