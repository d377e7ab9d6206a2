"""Whether a row comes round, and whether it has a word twice on end."""

from figurewheel.firsts import first_of
from figurewheel.joining import both
from figurewheel.leaves import place_is
from figurewheel.machines import base_of
from figurewheel.reader import read_statement
from figurewheel.some import some

ROUND = "( not p = 0 and all n ( n < m or some v ( n + p = v and A n like A v ) ) )"
TWICE = "( not p = 0 and all u ( ( u < n or not u < n + p ) or some v ( u + p = v and A u like A v ) ) )"


def verdict(row, word, text, name):
    # The least length is wanted ahead of the least place, so it is sought first, whatever the place.
    base = base_of(row)
    relation = read_statement(text).relation(base, {"A": row})
    lengths = first_of(some(relation, name))
    if lengths is None:
        return ("never",)
    places = first_of(both(relation, place_is(base, "p", lengths[0])))
    return (word, places[0], lengths[0])


def comes_round(row):
    return verdict(row, "round", ROUND, "m")


def comes_twice(row):
    return verdict(row, "twice", TWICE, "n")
