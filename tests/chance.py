"""Images and logs by chance, always the same ones of one number."""

import random

from guestsalone.codes import OPS, entry
from tests.helpers import op, rooms_with, rows

COMMON = ["set", "load", "save", "from", "into", "add", "sub", "part", "jump", "base", "trap", "time", "out", "in",
          "out", "in", "set", "out"]


def chance_of(number):
    return random.Random(number)


def any_word(chance):
    if chance.random() < 0.1:
        return chance.randrange(4096)
    name = "wait" if chance.random() < 0.04 else chance.choice(COMMON)
    if chance.random() < 0.005:
        name = "halt"
    assert name in OPS
    which = chance.choice([0, 0, 0, 1, 2]) if name == "trap" else chance.randrange(4)
    return op(name, which, chance.randrange(64))


def any_entry(chance):
    if chance.random() < 0.08:
        return chance.randrange(4096)
    return entry(chance.randrange(8), write=chance.random() < 0.9)


def any_image(chance):
    """An image whose rooms 0 and 7 are tables, the others codes."""
    rooms = {number: [any_word(chance) for _ in range(8)] for number in range(1, 7)}
    for table in (0, 7):
        rooms[table] = [any_entry(chance) for _ in range(8)]
    blocks = {number: [any_word(chance) for _ in range(8)] for number in range(8)}
    return rows(rooms), rows(blocks)


def any_log(chance, many=30, last=300):
    times = sorted(chance.randrange(last) for _ in range(chance.randrange(many + 1)))
    log = []
    for time in times:
        kind = chance.choice(["line", "net"])
        log.append((time, kind, chance.randrange(128 if kind == "line" else 4096)))
    return log


LIVELY = ["set"] * 5 + ["load"] * 3 + ["save"] * 5 + ["from", "add", "add", "sub", "part", "time", "in", "in", "jump",
                                                    "trap", "out", "out", "out", "ask", "ask", "wait"]


def lively_word(chance, place):
    name, which = chance.choice(LIVELY), chance.randrange(4)
    if name == "save":
        return op("save", which, chance.randrange(40, 56))
    if name == "jump":
        return op("jump", which, chance.randrange(place, 38))
    if name == "trap":
        return op("trap", chance.choice([2, 3]), 0)
    if name == "out":
        return op("out", which, chance.choice([0, 1]))
    if name == "ask":
        return op("out", which, 2 if chance.random() < 0.05 else 3)
    return op(name, which, chance.randrange(64))


def lively_image(chance):
    """An image that seldom falls: a loop that writes the rooms 6 and 7, with a handler that goes back."""
    words = [op("trap", 0, 38)] + [lively_word(chance, place) for place in range(1, 37)]
    words += [op("jump", 0, 1), op("set", chance.randrange(4), 1 + chance.randrange(9)), op("trap", 1, 0)]
    blocks = {number: [any_word(chance) for _ in range(8)] for number in range(8)}
    return rooms_with(words), rows(blocks)


def some_image(chance):
    """A wild one or a lively one."""
    return any_image(chance) if chance.random() < 0.3 else lively_image(chance)
