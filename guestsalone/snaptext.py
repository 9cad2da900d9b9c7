"""Snapshots as texts."""

from guestsalone.core import core_of, may_arrive
from guestsalone.disk import MOST_ASKS
from guestsalone.errors import NoRow, NoText
from guestsalone.house import Guest, check_snapshot
from guestsalone.images import cut_rows, image_in, image_text
from guestsalone.plain import LONGEST_LOG
from guestsalone.words import number_in

# What stands behind a row's first word: numbers up to a bound, or one of some texts.
GUEST = (4095, 4095, 4095, 4095, 63, 7, 999999, 63, 63, 4095, 1, ("runs", "idle", "ended", "fell"), 999999, 999999)
SIGNS = (127,)
WORDS = (4095,)
SENT = (7, 4095)
ASK = (999999, ("read", "write"), 7, 7, 999999)
ARRIVAL = (999999, ("line", "net"), 4095)


def guest_text(guest):
    """The rows that tell a guest, all but its trail."""
    check_snapshot(guest)
    core = guest.core()
    rows = [
        _row("guest", _head(core)),
        _row("line", core.queue("line")),
        _row("net", core.queue("net")),
        _row("told", core.told()),
        _row("sent", [part for pair in core.sent() for part in pair]),
    ]
    rows.extend([_row("ask", ask) for ask in core.asks()])
    rows.extend([_row("log", arrival) for arrival in guest.log()])
    image = image_text((guest.rooms(), core.stands()[13]))
    return "\n".join(rows + ([] if image == "" else [image]))


def read_guest(text):
    """The guest that a text tells, without a trail."""
    if not isinstance(text, str):
        raise NoText(text)
    reader = RowReader(text)
    head = reader.row("guest", GUEST)
    made, done = head[12:]
    if not 0 <= made - done <= MOST_ASKS:
        raise NoRow(reader.last())
    line = reader.repeated("line", SIGNS)
    net = reader.repeated("net", WORDS)
    told = reader.repeated("told", SIGNS)
    ports = reader.repeated("sent", SENT)
    sent = list(zip(ports[::2], ports[1::2]))
    asks = _read_asks(reader, done, made)
    log = _read_log(reader)
    rooms, blocks = image_in(reader.left())
    stands = [tuple(head[:4])] + head[4:10] + [
        head[10] == 1, head[11], tuple(line), tuple(net), len(told), len(sent), blocks, tuple(asks), made, done,
    ]
    return Guest(core_of(tuple(stands), told, sent), rooms, log, ())


class RowReader:
    """The rows of a text, taken one by one."""

    def __init__(self, text):
        rows = text.split("\n")
        self._rows = cut_rows(rows)
        self._many = len(rows)
        self._taken = 0

    def row(self, word, bounds):
        """What the next row tells, which begins with this word and is as the bounds tell."""
        return self._read(self._words(word), bounds)

    def repeated(self, word, bounds):
        """What the next row tells, where the bounds hold again and again."""
        parts = self._words(word)
        times = (len(parts) + len(bounds) - 1) // len(bounds)
        return self._read(parts, bounds * times)

    def last(self):
        """The number of the row that was taken last."""
        return self._rows[self._taken - 1][0]

    def is_next(self, word):
        """Whether there is a next row, and it begins with this word."""
        return self._taken < len(self._rows) and self._rows[self._taken][1][0] == word

    def left(self):
        """All rows that were not taken."""
        return self._rows[self._taken:]

    def _words(self, word):
        """Takes the next row; tells its words behind the first one."""
        if self._taken == len(self._rows):
            raise NoRow(self._many)
        self._taken += 1
        parts = self._rows[self._taken - 1][1]
        if parts[0] != word:
            raise NoRow(self.last())
        return parts[1:]

    def _read(self, parts, bounds):
        if len(parts) != len(bounds):
            raise NoRow(self.last())
        told = [_thing_in(part, bound) for part, bound in zip(parts, bounds)]
        if None in told:
            raise NoRow(self.last())
        return told


def _row(word, things):
    return " ".join([word] + [str(thing) for thing in things])


def _head(core):
    return core.registers() + [
        core.counter(), core.table(), core.time(), core.handler(), core.back_to(), core.cause(),
        1 if core.is_trapped() else 0, core.state(), core.asks_made(), core.asks_done(),
    ]


def _thing_in(part, bound):
    if isinstance(bound, int):
        return number_in(part, most=bound)
    return part if part in bound else None


def _read_asks(reader, done, made):
    asks = []
    due = 0
    for number in range(done, made):
        ask = tuple(reader.row("ask", ASK))
        if ask[0] != number or ask[4] < due:
            raise NoRow(reader.last())
        due = ask[4]
        asks.append(ask)
    return asks


def _read_log(reader):
    log = []
    while reader.is_next("log") and len(log) < LONGEST_LOG:
        time, kind, word = reader.row("log", ARRIVAL)
        if not may_arrive(kind, word) or (log and time < log[-1][0]):
            raise NoRow(reader.last())
        log.append((time, kind, word))
    return log
