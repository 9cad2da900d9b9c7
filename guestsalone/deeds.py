"""The deeds of a world: done, written as a history, read and replayed."""

from guestsalone.errors import Barred, GuestError, Missing, NoDeed, NoRow, NoText, NoWorld
from guestsalone.images import cut_rows, image_in, image_text, read_image
from guestsalone.logtext import check_long_text, joined
from guestsalone.words import are_signs, is_name, long_number_in
from guestsalone.world import World, are_houses

# What stands behind each deed's word: the kinds of its things.
FORMS = {
    "come": ("name", "name", "image", "number", "number", "perhaps"),
    "keep": ("name", "truth"),
    "turns": ("name", "number"),
    "say": ("name", "signs"),
    "fall": ("name",),
    "rise": ("name",),
    "up": ("name", "name", "number", "perhaps"),
    "move": ("name", "name", "number", "number", "number", "perhaps"),
    "road": ("name", "name", "perhaps"),
}
IMAGE_AT = 3
AHEAD = "  "
NOTHING = "-"
TRUTHS = {"yes": True, "no": False}


def is_deed(thing):
    """Whether it is a tuple of the form of a deed of a World."""
    if not isinstance(thing, tuple) or len(thing) == 0:
        return False
    word, *things = thing
    if not isinstance(word, str) or word not in FORMS or len(things) != len(FORMS[word]):
        return False
    return all([_is_of(kind, found) for kind, found in zip(FORMS[word], things)])


def do(world, deed):
    """Does a deed in a World; tells what its method tells."""
    if not isinstance(world, World):
        raise NoWorld(world)
    if not is_deed(deed):
        raise NoDeed(deed)
    word, *things = deed
    action = ACTIONS[word]
    return action(world, *things)


def history_text(world):
    """The rows that tell a World's houses and deeds."""
    if not isinstance(world, World):
        raise NoWorld(world)
    rows = [joined(["world"] + [thing for house in world.made() for thing in house])]
    for deed in world.deeds():
        rows.extend(_rows_of(deed))
    return "\n".join(rows)


def read_history(text):
    """The houses and the deeds that a text tells."""
    houses, deeds = _history_in(text)
    return houses, [deed for _, deed in deeds]


def replayed(text):
    """A World of the houses that a text tells, in which all its deeds were done."""
    houses, deeds = _history_in(text)
    world = World(houses)
    for at, deed in deeds:
        try:
            do(world, deed)
        except (GuestError, Missing, Barred) as refusal:
            raise NoRow(at) from refusal
    return world


def _come(world, house, name, text, port, promise, ceiling):
    return world.come(house, name, read_image(text), port=port, promise=promise, ceiling=ceiling)


def _keep(world, name, whole):
    return world.keep(name, whole=whole)


def _turns(world, house, many):
    return world.turns(house, many)


def _say(world, name, signs):
    return world.say(name, signs)


def _fall(world, house):
    return world.fall(house)


def _rise(world, house):
    return world.rise(house)


def _up(world, name, house, promise, ceiling):
    return world.come_up(name, house, promise=promise, ceiling=ceiling)


def _move(world, name, house, most, patience, promise, ceiling):
    return world.move(name, house, most=most, patience=patience, promise=promise, ceiling=ceiling)


def _road(world, name, word, number):
    return world.move_deed(name, word, number)


ACTIONS = {
    "come": _come, "keep": _keep, "turns": _turns, "say": _say, "fall": _fall, "rise": _rise,
    "up": _up, "move": _move, "road": _road,
}


def _is_of(kind, thing):
    """Whether it is a thing of this kind."""
    if kind == "truth":
        return isinstance(thing, bool)
    if kind in ("number", "perhaps"):
        return _is_number(thing) or (kind == "perhaps" and thing is None)
    if not isinstance(thing, str):
        return False
    return kind != "image" or _tells_image(thing)


def _is_number(thing):
    return isinstance(thing, int) and not isinstance(thing, bool)


def _tells_image(text):
    try:
        read_image(text)
    except (NoText, NoRow):
        return False
    return True


def _rows_of(deed):
    """The rows that tell a deed; those of an image stand behind its own."""
    if deed[0] != "come":
        return [joined([_written(thing) for thing in deed])]
    head = [_written(thing) for thing in deed[:IMAGE_AT] + deed[IMAGE_AT + 1:]]
    text = deed[IMAGE_AT]
    image = [] if text == "" else text.split("\n")
    return [joined(head)] + [AHEAD + row for row in image] + ["end"]


def _written(thing):
    if thing is None:
        return NOTHING
    if isinstance(thing, bool):
        return "yes" if thing else "no"
    return str(thing)


def _history_in(text):
    """The houses, and of each deed the number of the row with which it begins, and the deed."""
    check_long_text(text)
    rows = text.split("\n")
    houses = _houses_in(rows[0])
    deeds = []
    at = 1
    while at < len(rows):
        deed = _deed_in(rows[at], at)
        deeds.append((at, deed))
        at += 1
        if deed[0] == "come":
            behind = _end_of_image(rows, at)
            told = image_text(image_in(cut_rows(rows[at:behind], first=at)))
            _check_end(rows, behind)
            deeds[-1] = (at - 1, deed[:IMAGE_AT] + (told,) + deed[IMAGE_AT:])
            at = behind + 1
    return houses, deeds


def _houses_in(row):
    """The houses that the first row tells."""
    word, *parts = row.split(" ")
    numbers = [long_number_in(part) for part in parts]
    houses = list(zip(parts[::3], numbers[1::3], numbers[2::3]))
    names = [name for name, _, _ in houses]
    if word != "world" or len(parts) != 3 * len(houses) or not are_houses(houses) or len(set(names)) != len(names):
        raise NoRow(0)
    return houses


def _deed_in(row, at):
    """The deed that a row tells, without the text of an image."""
    word, *parts = row.split(" ")
    if word not in FORMS:
        raise NoRow(at)
    kinds = [kind for kind in FORMS[word] if kind != "image"]
    if kinds[-1] == "signs" and len(parts) >= len(kinds):
        last = len(kinds) - 1
        parts = parts[:last] + [" ".join(parts[last:])]
    if len(parts) != len(kinds) or not all([_may_tell(part, kind) for part, kind in zip(parts, kinds)]):
        raise NoRow(at)
    return tuple([word] + [_thing_in(part, kind) for part, kind in zip(parts, kinds)])


def _may_tell(part, kind):
    """Whether a part of a row tells a thing of this kind."""
    if kind == "name":
        return is_name(part)
    if kind == "signs":
        return are_signs(part)
    if kind == "truth":
        return part in TRUTHS
    return long_number_in(part) is not None or (kind == "perhaps" and part == NOTHING)


def _thing_in(part, kind):
    if kind in ("name", "signs"):
        return part
    return TRUTHS[part] if kind == "truth" else long_number_in(part)


def _end_of_image(rows, first):
    """The number of the first row, from one on, that starts with fewer than two blanks, or of rows at all."""
    at = first
    while at < len(rows) and rows[at].startswith(AHEAD):
        at += 1
    return at


def _check_end(rows, at):
    if at == len(rows) or rows[at] != "end":
        raise NoRow(at)
