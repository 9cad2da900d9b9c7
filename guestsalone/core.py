"""The core of a machine: all that it has but its rooms, which are in a store."""

from guestsalone.codes import OPS, difference, divided, entry_parts, parts_of, sum_of
from guestsalone.disk import Disk, disk_of
from guestsalone.errors import Ended, NoImage, NoKind, NoWord
from guestsalone.images import is_eight
from guestsalone.words import is_whole

LATENCY = 6
PLACES = 64
WORDS = 4096
NOTHING = 4095
KINDS = {"line": 127, "net": 4095}

LEADS_NOWHERE = 1
MAY_NOT_WRITE = 2
BY_NOUGHT = 3
CALLED = 4


def is_kind(thing):
    """Whether it is a kind of arrival."""
    return isinstance(thing, str) and thing in KINDS


def may_arrive(kind, word):
    """Whether it is a word that an arrival of this kind may bring."""
    return is_whole(word, 0, KINDS[kind])


def _way(core, store, place, write):
    """The room to which a place leads, and 0; or None, and the cause of the trap."""
    leads = entry_parts(store.read_cell(core._table, place // 8))
    if leads is None:
        return None, LEADS_NOWHERE
    room, may_write = leads
    if write and not may_write:
        return None, MAY_NOT_WRITE
    return room, 0


def _loaded(core, store, which, place):
    room, cause = _way(core, store, place, False)
    if cause > 0:
        return "trap", cause
    core._registers[which] = store.read_cell(room, place % 8)
    return "step", None


def _saved(core, store, which, place):
    room, cause = _way(core, store, place, True)
    if cause > 0:
        return "trap", cause
    store.write_cell(room, place % 8, core._registers[which])
    return "step", None


def _halt(core, store, which, rest):
    core._state = "ended"
    return "ended", None


def _set(core, store, which, rest):
    core._registers[which] = rest
    return "step", None


def _load(core, store, which, rest):
    return _loaded(core, store, which, rest)


def _save(core, store, which, rest):
    return _saved(core, store, which, rest)


def _from(core, store, which, rest):
    return _loaded(core, store, which, core._registers[rest % 4] % PLACES)


def _into(core, store, which, rest):
    return _saved(core, store, which, core._registers[rest % 4] % PLACES)


def _add(core, store, which, rest):
    core._registers[which] = sum_of(core._registers[which], core._registers[rest % 4])
    return "step", None


def _sub(core, store, which, rest):
    core._registers[which] = difference(core._registers[which], core._registers[rest % 4])
    return "step", None


def _part(core, store, which, rest):
    other = core._registers[rest % 4]
    if other == 0:
        return "trap", BY_NOUGHT
    quotient, left = divided(core._registers[which], other)
    core._registers[which] = quotient
    # The rest goes last: where both are one register, it is what stays.
    core._registers[rest % 4] = left
    return "step", None


def _jump(core, store, which, rest):
    first = core._registers[0]
    taken = [True, first == 0, first != 0, first < core._registers[1]]
    return ("jump", rest) if taken[which] else ("step", None)


def _base(core, store, which, rest):
    core._table = core._registers[which] % 8
    return "step", None


def _trap(core, store, which, rest):
    if which == 3:
        return "trap", CALLED
    if which == 1:
        core._trapped = False
        return "jump", core._back_to
    if which == 0:
        core._handler = rest
    else:
        core._registers[rest % 4] = core._cause
    return "step", None


def _clock(core, store, which, rest):
    time = core._time if rest % 2 == 0 else core._time // WORDS
    core._registers[which] = time % WORDS
    return "clock", time % WORDS


def _out(core, store, which, rest):
    word = core._registers[which]
    other = core._registers[(which + 1) % 4] % 8
    way = rest % 4
    if way == 0:
        core._told.append(word % 128)
        return "told", word % 128
    if way == 1:
        core._sent.append((other, word))
        return "sent", (other, word)
    kind = "read" if way == 2 else "write"
    return "asked", core._disk.ask(kind, word % 8, other, core._time + LATENCY)


def _in(core, store, which, rest):
    way = rest % 4
    if way < 2:
        queue = core._queues["line" if way == 0 else "net"]
        word = queue.pop(0) if queue else NOTHING
    elif way == 2:
        word = core._disk.asks_done() % WORDS
    else:
        word = len(core._disk.asks())
    core._registers[which] = word
    return "read", word


ACTIONS = (
    _halt, _set, _load, _save, _from, _into, _add, _sub,
    _part, _jump, _base, _trap, _clock, _out, _in,
)


class Core:
    """A machine without its rooms."""

    def __init__(self, blocks):
        if not is_eight(blocks):
            raise NoImage(blocks)
        self._registers = [0, 0, 0, 0]
        self._counter = 0
        self._table = 0
        self._time = 0
        self._handler = 0
        self._back_to = 0
        self._cause = 0
        self._trapped = False
        self._state = "runs"
        self._queues = {"line": [], "net": []}
        self._told = []
        self._sent = []
        self._disk = Disk(blocks)

    def step(self, store):
        """Does the next op; tells its row, or None where the machine is idle."""
        if self._state in ("ended", "fell"):
            raise Ended(self._state)
        self._state = "runs"
        time, place = self._time, self._counter
        served = self._disk.serve(time, store)
        kind, thing = self._act(store, served)
        if kind == "idle":
            self._state = "idle"
            return None
        self._time += 1
        if kind == "trap":
            return time, self._trap_by(thing), place, thing
        if kind == "jump":
            self._counter = thing
            return time, "step", place, None
        self._counter = (place + 1) % PLACES
        return time, kind, place, thing

    def _act(self, store, served):
        """Does the op at the counter's place: a tuple of what came of it and the thing told with it."""
        room, cause = _way(self, store, self._counter, False)
        if cause > 0:
            return "trap", cause
        op, which, rest = parts_of(store.read_cell(room, self._counter % 8))
        if OPS[op] == "wait":
            return self._wait(served)
        action = ACTIONS[op]
        return action(self, store, which, rest)

    def _wait(self, served):
        if not served and not self._queues["line"] and not self._queues["net"]:
            asks = self._disk.asks()
            if not asks:
                return "idle", None
            self._time = max(self._time, asks[0][4])
        return "waited", self._time + 1

    def _trap_by(self, cause):
        if self._trapped:
            self._state = "fell"
            return "fell"
        self._trapped = True
        self._cause = cause
        self._back_to = (self._counter + 1) % PLACES if cause == CALLED else self._counter
        self._counter = self._handler
        return "trap"

    def arrive(self, kind, word):
        """Puts a word behind the line's or the card's queue."""
        if not is_kind(kind):
            raise NoKind(kind)
        if not may_arrive(kind, word):
            raise NoWord(word)
        if self._state in ("ended", "fell"):
            raise Ended(self._state)
        self._queues[kind].append(word)
        self._state = "runs"

    def registers(self):
        return list(self._registers)

    def counter(self):
        return self._counter

    def table(self):
        return self._table

    def time(self):
        return self._time

    def handler(self):
        return self._handler

    def back_to(self):
        return self._back_to

    def cause(self):
        return self._cause

    def is_trapped(self):
        return self._trapped

    def state(self):
        return self._state

    def queue(self, kind):
        """The words that came by the line or the card and were not read."""
        if not is_kind(kind):
            raise NoKind(kind)
        return list(self._queues[kind])

    def told(self):
        return list(self._told)

    def sent(self):
        return list(self._sent)

    def blocks(self):
        return self._disk.blocks()

    def asks(self):
        return self._disk.asks()

    def due(self):
        """The numbers of the asks that are due."""
        return [ask[0] for ask in self._disk.asks() if ask[4] <= self._time]

    def asks_made(self):
        return self._disk.asks_made()

    def asks_done(self):
        return self._disk.asks_done()

    def stands(self):
        """How the machine stands: a tuple of seventeen."""
        return (
            tuple(self._registers), self._counter, self._table, self._time,
            self._handler, self._back_to, self._cause, self._trapped, self._state,
            tuple(self._queues["line"]), tuple(self._queues["net"]),
            len(self._told), len(self._sent),
            tuple([tuple(block) for block in self._disk.blocks()]),
            tuple(self._disk.asks()), self._disk.asks_made(), self._disk.asks_done(),
        )

    def twin(self):
        return core_of(self.stands(), self._told, self._sent)

    def __eq__(self, other):
        if not isinstance(other, Core):
            return False
        return self.stands() == other.stands() and self._told == other._told and self._sent == other._sent


def core_of(stands, told, sent):
    """A core that stands so and has told and sent this."""
    core = Core(stands[13])
    core._registers = list(stands[0])
    core._counter, core._table, core._time = stands[1:4]
    core._handler, core._back_to, core._cause, core._trapped, core._state = stands[4:9]
    core._queues = {"line": list(stands[9]), "net": list(stands[10])}
    core._told = list(told)
    core._sent = [tuple(pair) for pair in sent]
    core._disk = disk_of(stands[13], stands[14], stands[15], stands[16])
    return core
