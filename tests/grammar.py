"""Statements' texts by point 32, read by all rules at once; trees drawn, written and weighed for the tests."""

import re

from figurewheel.statements import Both, Either, Every, No, PlaceIs, SignIs, SignsLike, Some, Sums

RESERVED = ["some", "all", "not", "and", "or", "is", "like"]

KINDS = {
    "R": lambda word: re.fullmatch("[A-Z]", word) is not None,
    "N": lambda word: re.fullmatch("[a-z]{1,6}", word) is not None and word not in RESERVED,
    "D": lambda word: re.fullmatch("[0-9]", word) is not None,
    "NUMBER": lambda word: re.fullmatch("0|[1-9][0-9]{0,8}", word) is not None,
}

SIDES = [["N"], ["N", "+", "N"], ["N", "+", "N", "+", "N"]]


def rules(deep):
    """All ways to write a statement so deep; a number stands for a statement so deep, of which none is nine deep."""
    if deep > 8:
        return []
    told = [["R", "N", "is", "D"], ["R", "N", "like", "R", "N"], ["N", "=", "NUMBER"], ["not", deep + 1]]
    told += [left + [word] + right for left in SIDES for right in SIDES for word in ["=", "<"]]
    told += [["(", deep + 1, word, deep + 1, ")"] for word in ["and", "or"]]
    told += [[word, "N", deep + 1] for word in ["some", "all"]]
    return told


def opened(rests):
    """What is still to come, with each statement that comes first put by each rule for it."""
    done = set()
    for rest in rests:
        if rest and isinstance(rest[0], int):
            done |= {tuple(rule) + rest[1:] for rule in rules(rest[0])}
        else:
            done.add(rest)
    return done


def begins_with(rest, word):
    return len(rest) > 0 and (KINDS[rest[0]](word) if rest[0] in KINDS else rest[0] == word)


def refused_at(text):
    """The number that NoText tells of a text, or None for a statement's text."""
    words = text.split(" ")
    rests = {(1,)}
    for at, word in enumerate(words):
        rests = {rest[1:] for rest in opened(rests) if begins_with(rest, word)}
        if not rests:
            return at
    return None if () in rests else len(words)


def tree_of(statement):
    """A statement as tuples, which can be compared."""
    told = [type(statement).__name__]
    for field in ["row", "name", "sign", "other", "second", "left", "right", "word", "place", "one"]:
        if field in vars(statement):
            value = vars(statement)[field]
            told.append((field, tree_of(value) if hasattr(value, "free") else value))
    assert len(told) == len(vars(statement)) + 1
    return tuple(told)


def drawn_leaf(draw, names, rows):
    kind = draw.randrange(5)
    if kind == 0 and rows:
        return SignIs(draw.choice(rows), draw.choice(names), draw.randrange(3))
    if kind == 1 and rows:
        return SignsLike(draw.choice(rows), draw.choice(names), draw.choice(rows), draw.choice(names))
    if kind == 2:
        return PlaceIs(draw.choice(names), draw.randrange(12))
    sides = [[draw.choice(names) for index in range(draw.randrange(1, 4))] for side in range(2)]
    return Sums(sides[0], sides[1], draw.choice("=<"))


def drawn_tree(draw, names, rows, deep, bound=()):
    kind = draw.randrange(8) if deep > 1 else 0
    if kind < 3:
        return drawn_leaf(draw, names, rows)
    if kind == 3:
        return No(drawn_tree(draw, names, rows, deep - 1, bound))
    if kind < 6 or not bound:
        parts = [drawn_tree(draw, names, rows, deep - 1, bound) for part in range(2)]
        return draw.choice([Both, Either])(*parts)
    return draw.choice([Some, Every])(draw.choice(bound), drawn_tree(draw, names, rows, deep - 1, bound))


def is_so(statement, known, signs, below):
    """Whether a statement is so for known places, with rows given as functions, some and every tried below a place."""
    kind = type(statement)
    if kind is SignIs:
        return signs[statement.row](known[statement.name]) == statement.sign
    if kind is SignsLike:
        return signs[statement.row](known[statement.name]) == signs[statement.other](known[statement.second])
    if kind is Sums:
        left, right = (sum(known[name] for name in side) for side in (statement.left, statement.right))
        return left == right if statement.word == "=" else left < right
    if kind is PlaceIs:
        return known[statement.name] == statement.place
    if kind is No:
        return not is_so(statement.one, known, signs, below)
    if kind in (Both, Either):
        parts = [is_so(part, known, signs, below) for part in (statement.one, statement.other)]
        return all(parts) if kind is Both else any(parts)
    tried = (is_so(statement.one, {**known, statement.name: place}, signs, below) for place in range(below))
    return any(tried) if kind is Some else all(tried)
