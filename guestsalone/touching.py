"""The rooms that a table leads to, and those that a run reads and writes."""

from guestsalone.checks import check_number
from guestsalone.codes import entry_parts
from guestsalone.core import Core
from guestsalone.errors import NoImage, NoLog
from guestsalone.images import is_eight, is_image
from guestsalone.plain import PlainStore, arrived, check_end, is_log


def leads(rooms, table):
    """The rooms to which a table's entries lead, and those of them that may be written."""
    if not is_eight(rooms):
        raise NoImage(rooms)
    check_number(table, 0, 7)
    ways = [entry_parts(word) for word in rooms[table]]
    found = [way for way in ways if way is not None]
    return sorted({room for room, _ in found}), sorted({room for room, write in found if write})


def touched(image, log=(), *, end=100):
    """For each row of the image's run alone the rooms that its step read, and those that it wrote."""
    if not is_image(image):
        raise NoImage(image)
    if not is_log(log):
        raise NoLog(log)
    check_end(end)
    rooms, blocks = image
    core, store = Core(blocks), WatchedStore(rooms)
    told = []
    come = arrived(core, log, 0)
    while core.time() < end and core.state() == "runs":
        row = core.step(store)
        both = store.seen()
        if row is not None:
            told.append(both)
        come = arrived(core, log, come)
    return told


class WatchedStore:
    """A store of eight rooms that tells which of them were read and written since it was asked last."""

    def __init__(self, rooms):
        self._store = PlainStore(rooms)
        self._from = []
        self._into = []

    def read_cell(self, room, cell):
        self._from.append(room)
        return self._store.read_cell(room, cell)

    def write_cell(self, room, cell, word):
        self._into.append(room)
        self._store.write_cell(room, cell, word)

    def seen(self):
        """The rooms that were read, and those that were written; it begins anew."""
        both = sorted(set(self._from)), sorted(set(self._into))
        self._from, self._into = [], []
        return both
