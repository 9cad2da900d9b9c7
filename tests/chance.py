"""Images and logs by chance, always the same ones of one number."""

import random

from guestsalone.codes import OPS, entry
from tests.helpers import op, rows

COMMON = ["set", "load", "save", "from", "into", "add", "sub", "part", "jump", "base", "trap", "time", "out", "in",
          "out", "in", "set", "out"]


def chance_of(number):
    return random.Random(number)


def any_word(chance):
    if chance.random() < 0.1:
        return chance.randrange(4096)
    name = "wait" if chance.random() < 0.04 else chance.choice(COMMON)
    if chance.random() < 0.005:
        name = "halt"
    assert name in OPS
    which = chance.choice([0, 0, 0, 1, 2]) if name == "trap" else chance.randrange(4)
    return op(name, which, chance.randrange(64))


def any_entry(chance):
    if chance.random() < 0.08:
        return chance.randrange(4096)
    return entry(chance.randrange(8), write=chance.random() < 0.9)


def any_image(chance):
    """An image whose rooms 0 and 7 are tables, the others codes."""
    rooms = {number: [any_word(chance) for _ in range(8)] for number in range(1, 7)}
    for table in (0, 7):
        rooms[table] = [any_entry(chance) for _ in range(8)]
    blocks = {number: [any_word(chance) for _ in range(8)] for number in range(8)}
    return rows(rooms), rows(blocks)


def any_log(chance, many=30, last=300):
    times = sorted(chance.randrange(last) for _ in range(chance.randrange(many + 1)))
    log = []
    for time in times:
        kind = chance.choice(["line", "net"])
        log.append((time, kind, chance.randrange(128 if kind == "line" else 4096)))
    return log
