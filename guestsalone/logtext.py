"""Logs and trails as texts."""

from guestsalone.core import PLACES
from guestsalone.errors import NoLog, NoRow, NoText
from guestsalone.plain import LONGEST_LOG, is_arrival, is_log
from guestsalone.words import MOST, is_count, is_whole, long_number_in

LONGEST_TEXT = 200000
NO_THING = ("step", "ended")
# Of kinds whose thing is a number from a least to a most.
BOUNDS = {"trap": (1, 4), "fell": (1, 4), "told": (0, 127), "read": (0, 4095), "clock": (0, 4095)}
LAST_PORT = 7


def log_text(log):
    """The rows that tell a log."""
    if not is_log(log):
        raise NoLog(log)
    return "\n".join([joined(arrival) for arrival in log])


def trail_text(trail):
    """The rows that tell a trail."""
    if not _is_trail(trail):
        raise NoLog(trail)
    return "\n".join([trail_row(row) for row in trail])


def read_log(text):
    """The log that a text tells."""
    log = []
    for at, words in enumerate(_cut(text)):
        arrival = tuple(words)
        if at == LONGEST_LOG or not is_arrival(arrival) or (log and arrival[0] < log[-1][0]):
            raise NoRow(at)
        log.append(arrival)
    return log


def read_trail(text):
    """The trail that a text tells."""
    trail = []
    for at, words in enumerate(_cut(text)):
        row = _trail_row_of(words)
        if at == LONGEST_LOG or not _is_trail_row(row):
            raise NoRow(at)
        trail.append(row)
    return trail


def trail_row(row):
    """The row of text that tells a row of a trail."""
    time, kind, place, thing = row
    return joined([time, kind, place] + _parts_of(thing))


def joined(things):
    """Numbers and words with a blank between any two."""
    return " ".join([str(thing) for thing in things])


def check_long_text(thing):
    """Refuses what is no text of at most 200,000 signs."""
    if not isinstance(thing, str) or len(thing) > LONGEST_TEXT:
        raise NoText(thing)


def _cut(text):
    """The words of each row of a text, figures as numbers; what is no word stays, and is refused as such."""
    check_long_text(text)
    rows = [] if text == "" else text.split("\n")
    return [[_number_or_word(part) for part in row.split(" ")] for row in rows]


def _number_or_word(part):
    number = long_number_in(part)
    return part if number is None else number


def _parts_of(thing):
    if thing is None:
        return []
    return list(thing) if isinstance(thing, tuple) else [thing]


def _trail_row_of(words):
    """The tuple that words tell as a row of a trail, whether it is one or not."""
    parts = words[3:]
    thing = tuple(parts)
    if len(parts) < 2:
        thing = parts[0] if parts else None
    return tuple(words[:3] + [thing])


def _is_trail(thing):
    if not isinstance(thing, (list, tuple)) or len(thing) > LONGEST_LOG:
        return False
    return all([_is_trail_row(row) for row in thing])


def _is_trail_row(thing):
    """Whether it is, by itself, a row that a step tells."""
    if not isinstance(thing, tuple) or len(thing) != 4:
        return False
    time, kind, place, found = thing
    return is_count(time) and is_whole(place, 0, PLACES - 1) and isinstance(kind, str) and _is_thing(kind, found)


def _is_thing(kind, thing):
    """Whether a step tells it with this kind."""
    if kind in NO_THING:
        return thing is None
    if kind in BOUNDS:
        least, most = BOUNDS[kind]
        return is_whole(thing, least, most)
    if kind == "waited":
        return is_count(thing)
    if kind == "sent":
        return _is_sent(thing)
    return kind == "asked" and (thing is None or _is_ask(thing))


def _is_sent(thing):
    if not isinstance(thing, tuple) or len(thing) != 2:
        return False
    return is_whole(thing[0], 0, LAST_PORT) and is_whole(thing[1], 0, MOST)


def _is_ask(thing):
    if not isinstance(thing, tuple) or len(thing) != 4:
        return False
    number, kind, block, room = thing
    return is_count(number) and kind in ("read", "write") and is_whole(block, 0, 7) and is_whole(room, 0, 7)
