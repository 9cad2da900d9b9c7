"""The lines that a desk is told."""

from guestsalone.errors import NoLine
from guestsalone.words import number_in

# Any word stands for these, anything at all for TEXT; for all other capitals a number stands.
WORDS = ("NAME", "HOUSE", "IMAGE", "WORD")
GREATEST = 999999
FORMS = (
    "world HOUSE ROOMS LENGTH HOUSE ROOMS LENGTH",
    "world HOUSE ROOMS LENGTH HOUSE ROOMS LENGTH HOUSE ROOMS LENGTH",
    "image NAME TEXT",
    "come HOUSE NAME IMAGE PORT PROMISE CEILING",
    "keep NAME",
    "keep NAME whole",
    "say NAME TEXT",
    "fall HOUSE",
    "rise HOUSE",
    "up NAME HOUSE PROMISE CEILING",
    "move NAME HOUSE MOST PATIENCE PROMISE CEILING",
    "road NAME WORD",
    "road NAME WORD NUMBER",
    "turns HOUSE MANY",
    "undo",
    "where NAME",
    "phase NAME",
    "told NAME",
    "state NAME",
    "time NAME",
    "trail NAME MANY",
    "stops NAME",
    "letters NAME",
    "used HOUSE",
    "guests",
    "houses",
    "standing",
)


def read_line(line):
    """The words and numbers of a line."""
    if isinstance(line, str) and "\n" not in line:
        for form in FORMS:
            things = _read_as(line, form.split(" "))
            if None not in things:
                return tuple(things)
    raise NoLine(line)


def _read_as(line, form):
    """What a line tells by a form, with None for all that is not so."""
    parts = line.split(" ")
    last = len(form) - 1
    if form[last] == "TEXT" and len(parts) > last:
        parts = parts[:last] + [" ".join(parts[last:])]
    if len(parts) != len(form):
        return [None]
    return [_thing_in(part, kind) for part, kind in zip(parts, form)]


def _thing_in(part, kind):
    """What a part of a line tells, or None."""
    if kind == "TEXT":
        return part
    if kind in WORDS:
        return None if part == "" else part
    if kind.isupper():
        return number_in(part, most=GREATEST)
    return part if part == kind else None
