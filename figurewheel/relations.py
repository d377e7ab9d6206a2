"""Relations: which places, one for each name, are taken."""

from figurewheel.errors import NoName
from figurewheel.figures import code_of, columns_of
from figurewheel.machines import sign_of


def takes(relation, places):
    base = relation[0]
    codes = [code_of(column, base) for column in columns_of(places, base)]
    return sign_of(relation[2], codes) == 1


def takes_by(relation, known):
    for name in relation[1]:
        if name not in known:
            raise NoName(name)
    return takes(relation, [known[name] for name in relation[1]])
