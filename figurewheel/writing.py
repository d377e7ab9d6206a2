"""Machines written as texts, and read again."""

from figurewheel.errors import NoText
from figurewheel.machines import machine_of

FIGURES = "0123456789"
MOST_FIGURES = 2


def is_figure(word):
    return len(word) == 1 and word in FIGURES


def is_number(word, most):
    if len(word) == 0 or len(word) > most:
        return False
    if word[0] == "0":
        return word == "0"
    return all([sign in FIGURES for sign in word])


def room_text(row, sign):
    numbers = ",".join([str(room) for room in row])
    return f"{sign}:{numbers}"


def machine_text(machine):
    return " ".join([room_text(row, sign) for row, sign in zip(machine[0], machine[1])])


def is_room(word):
    # What lacks the colon has nothing behind it, and so no number there.
    parts = word.partition(":")
    return is_figure(parts[0]) and all([is_number(number, MOST_FIGURES) for number in parts[2].split(",")])


def read_row(word):
    return [int(number) for number in word.partition(":")[2].split(",")]


def read_sign(word):
    return int(word.partition(":")[0])


def read_machine(text):
    words = text.split(" ")
    for index, word in enumerate(words):
        if not is_room(word):
            raise NoText(index)
    return machine_of([read_row(word) for word in words], [read_sign(word) for word in words])
