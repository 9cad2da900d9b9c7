"""What the tests have in common."""

import unittest

from guestsalone.codes import code, entry, op_of
from guestsalone.core import Core
from guestsalone.plain import PlainStore

GREATEST = 10 ** 30 - 1
NOUGHTS = (0,) * 8
NO_ROOMS = (NOUGHTS,) * 8

NOT_NUMBERS = [True, False, None, "", "0", "1", "seven", [], [1], (), (1,), {}, {1: 1}, ["line"], ("a", [1])]


def beyond(low, high):
    """Things that are no whole numbers from low to high."""
    return NOT_NUMBERS + [low - 1, high + 1, -GREATEST, GREATEST]


def op(name, which=0, rest=0):
    return code(op_of(name), which, rest)


def rows(told):
    """Eight tuples of eight words, of a dict from numbers to lists of words; noughts elsewhere."""
    return tuple(tuple((list(told.get(number, [])) + [0] * 8)[:8]) for number in range(8))


def table_behind():
    """A table in room 0: the places 0 to 55 are the rooms 1 to 7, the last eight are the table itself."""
    return [entry((leaf + 1) % 8, write=True) for leaf in range(8)]


def rooms_with(words, table=None):
    """Rooms with a table in room 0 and these words at the places from 0 on, a list or a dict by places."""
    told = {0: table_behind() if table is None else table}
    placed = words if isinstance(words, dict) else dict(enumerate(words))
    for place, word in placed.items():
        told.setdefault(place // 8 + 1, [0] * 8)[place % 8] = word
    return rows(told)


def machine(words, table=None, blocks=None):
    """A core and its store, with these words at the places from 0 on."""
    return Core(rows(blocks or {})), PlainStore(rooms_with(words, table))


def stepped(core, store, many):
    """What so many steps tell."""
    return [core.step(store) for _ in range(many)]


class Case(unittest.TestCase):
    """A test case that asks of refusals just their class and fields."""

    def refused(self, error, fields, call, *args, **named):
        with self.assertRaises(error) as caught:
            call(*args, **named)
        self.assertIs(type(caught.exception), error)
        self.assertEqual(set(vars(caught.exception)), set(fields))
        for name, thing in fields.items():
            told = getattr(caught.exception, name)
            if name == "found":
                self.assertIs(told, thing)
            else:
                self.assertEqual((told, type(told)), (thing, int))

    def refused_found(self, error, found, call, *args, **named):
        self.refused(error, {"found": found}, call, *args, **named)
