"""Images, what guests have at first, and their texts."""

from guestsalone.codes import OPS, code, entry, op_of, parts_of
from guestsalone.errors import NoImage, NoRow, NoText
from guestsalone.words import is_whole, is_word, number_in

EIGHT = 8
LAST = 7


def is_eight(thing):
    """Whether it is a tuple of eight tuples of eight words, as rooms or blocks are."""
    return isinstance(thing, tuple) and len(thing) == EIGHT and all([_is_row(row) for row in thing])


def is_image(thing):
    """Whether it is a tuple of rooms and blocks."""
    return isinstance(thing, tuple) and len(thing) == 2 and is_eight(thing[0]) and is_eight(thing[1])


def image_of(rooms=None, *, blocks=None):
    """An image of dicts from numbers to lists of words; what they leave out is 0."""
    for told in (rooms, blocks):
        if told is not None and not _is_told(told):
            raise NoImage(told)
    return _filled(rooms or {}), _filled(blocks or {})


def image_text(image):
    """The rows that tell an image, up to the last word that is not 0 of each room and block."""
    if not is_image(image):
        raise NoImage(image)
    rooms, blocks = image
    return "\n".join(_rows_of(rooms, "room", _code_row) + _rows_of(blocks, "block", _word_row))


def read_image(text):
    """The image that a text tells."""
    if not isinstance(text, str):
        raise NoText(text)
    return image_in(cut_rows(text.split("\n")))


def cut_rows(rows, *, first=0):
    """Of rows, numbered from the first one on, those that are not all blanks: tuples of number and words."""
    cut = []
    for at, row in enumerate(rows, start=first):
        parts = [part for part in row.split(" ") if part != ""]
        if parts:
            cut.append((at, parts))
    return cut


def image_in(rows):
    """The image that rows tell, tuples of the row's number and its words."""
    told = {"room": {}, "block": {}}
    words = None
    for at, parts in rows:
        number = _number_begun(parts)
        if number is not None:
            words = told[parts[0]].setdefault(number, [])
            continue
        word = _word_in(parts)
        if word is None or words is None or len(words) == EIGHT:
            raise NoRow(at)
        words.append(word)
    return _filled(told["room"]), _filled(told["block"])


def _is_row(thing):
    return isinstance(thing, tuple) and len(thing) == EIGHT and all([is_word(word) for word in thing])


def _is_told(thing):
    if not isinstance(thing, dict):
        return False
    return all([is_whole(number, 0, LAST) and _is_short(words) for number, words in thing.items()])


def _is_short(words):
    if not isinstance(words, (list, tuple)) or len(words) > EIGHT:
        return False
    return all([is_word(word) for word in words])


def _filled(told):
    """Eight rows of eight words, noughts where nothing is told."""
    rows = []
    for number in range(EIGHT):
        words = list(told.get(number, ()))
        rows.append(tuple(words + [0] * (EIGHT - len(words))))
    return tuple(rows)


def _rows_of(rooms, kind, written):
    """The rows of text that tell rooms or blocks, each word as `written` writes it."""
    rows = []
    for number, words in enumerate(rooms):
        told = [at + 1 for at, word in enumerate(words) if word != 0]
        if told:
            rows.append(f"{kind} {number}")
            rows.extend([written(word) for word in words[:told[-1]]])
    return rows


def _code_row(word):
    op, which, rest = parts_of(word)
    return f"{OPS[op]} {which} {rest}"


def _word_row(word):
    return f"word {word}"


def _number_begun(parts):
    """The number of the room or block that a row begins, or None."""
    if len(parts) != 2 or parts[0] not in ("room", "block"):
        return None
    return number_in(parts[1], most=LAST)


def _word_in(parts):
    """The word that a row tells, or None."""
    if parts == ["none"]:
        return 0
    if parts[0] == "leaf":
        return _entry_in(parts)
    if parts[0] == "word":
        return number_in(parts[1]) if len(parts) == 2 else None
    return _code_in(parts)


def _entry_in(parts):
    write = parts[2:] == ["write"]
    room = number_in(parts[1], most=LAST) if len(parts) == (3 if write else 2) else None
    return None if room is None else entry(room, write=write)


def _code_in(parts):
    if len(parts) != 3 or parts[0] not in OPS:
        return None
    which = number_in(parts[1], most=3)
    rest = number_in(parts[2], most=63)
    if which is None or rest is None:
        return None
    return code(op_of(parts[0]), which, rest)
