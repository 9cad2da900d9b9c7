"""The plain machine: a core and a store of its own, alone."""

from guestsalone.checks import check_number, check_word
from guestsalone.core import Core, is_kind, may_arrive
from guestsalone.errors import NoImage, NoLog
from guestsalone.images import image_of, is_eight, is_image
from guestsalone.words import is_count

LONGEST_LOG = 2400
LAST_END = 20000


class PlainStore:
    """Eight rooms of eight cells."""

    def __init__(self, rooms):
        if not is_eight(rooms):
            raise NoImage(rooms)
        self._rooms = [list(words) for words in rooms]

    def read_cell(self, room, cell):
        check_number(room, 0, 7)
        check_number(cell, 0, 7)
        return self._rooms[room][cell]

    def write_cell(self, room, cell, word):
        check_number(room, 0, 7)
        check_number(cell, 0, 7)
        check_word(word)
        self._rooms[room][cell] = word

    def room(self, number):
        check_number(number, 0, 7)
        return list(self._rooms[number])

    def rooms(self):
        return tuple([tuple(words) for words in self._rooms])

    def twin(self):
        return PlainStore(self.rooms())


class PlainMachine:
    """An image that runs alone, with the log of what came to it and the trail of what its steps told."""

    def __init__(self, image):
        if not is_image(image):
            raise NoImage(image)
        rooms, blocks = image
        self._core = Core(blocks)
        self._store = PlainStore(rooms)
        self._log = []
        self._trail = []

    def step(self):
        row = self._core.step(self._store)
        if row is not None:
            self._trail.append(row)
        return row

    def arrive(self, kind, word):
        self._core.arrive(kind, word)
        self._log.append((self._core.time(), kind, word))

    def core(self):
        return self._core.twin()

    def store(self):
        return self._store.twin()

    def time(self):
        return self._core.time()

    def state(self):
        return self._core.state()

    def log(self):
        return list(self._log)

    def trail(self):
        return list(self._trail)

    def twin(self):
        return machine_of(self._core, self._store.rooms(), self._log, self._trail)


def is_log(thing):
    """Whether it is a list of at most 2,400 arrivals whose times never fall."""
    if not isinstance(thing, (list, tuple)) or len(thing) > LONGEST_LOG:
        return False
    if not all([is_arrival(row) for row in thing]):
        return False
    times = [row[0] for row in thing]
    return times == sorted(times)


def run_alone(image, log=(), *, end=100):
    """A machine of the image that ran by the log until it came to the end, stood still, or was idle."""
    machine = PlainMachine(image)
    if not is_log(log):
        raise NoLog(log)
    check_end(end)
    run_by(machine, log, end)
    return machine


def machine_of(core, rooms, log, trail):
    """A machine that stands so, with what came to it and what its steps told."""
    machine = PlainMachine(image_of())
    machine._core = core.twin()
    machine._store = PlainStore(rooms)
    machine._log = list(log)
    machine._trail = list(trail)
    return machine


def check_end(thing):
    """Refuses what is no end of a run alone."""
    check_number(thing, 0, LAST_END)


def run_by(machine, log, end):
    """Lets a machine run by a log until it has come to the end, stands still, or is idle."""
    come = arrived(machine, log, 0)
    while machine.time() < end and machine.state() == "runs":
        machine.step()
        come = arrived(machine, log, come)


def arrived(machine, log, come):
    """Lets all that is due of a log come to a machine, behind what came; tells how much has come then."""
    while come < len(log) and log[come][0] <= machine.time() and machine.state() not in ("ended", "fell"):
        _, kind, word = log[come]
        machine.arrive(kind, word)
        come += 1
    return come


def is_arrival(thing):
    """Whether it is a tuple of a time, a kind, and a word that may arrive so."""
    if not isinstance(thing, tuple) or len(thing) != 3:
        return False
    time, kind, word = thing
    return is_count(time) and is_kind(kind) and may_arrive(kind, word)
