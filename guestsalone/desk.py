"""A desk: it is told lines, does what they tell, and answers with texts."""

from guestsalone.checks import check_name
from guestsalone.deeds import do
from guestsalone.errors import Barred, GuestError, Missing, NoImage, NoLog, NoWorld, Over
from guestsalone.images import image_text, read_image
from guestsalone.lines import read_line
from guestsalone.logtext import joined, trail_row
from guestsalone.papers import stops_of
from guestsalone.world import World

MOST_LINES = 60
NOTHING = "-"
WITHOUT_WORLD = ("world", "image", "undo")


class Desk:
    """A World, images by their names, and all that changed them.

    What a line changes is changed in twins, so that what was ahead of each
    line stays, and stands with it.
    """

    def __init__(self):
        self._world = None
        self._images = {}
        self._changes = []

    def say(self, line):
        """Does what a line tells; tells the answer."""
        word, *things = read_line(line)
        if self._world is None and word not in WITHOUT_WORLD:
            raise NoWorld(None)
        if word == "undo":
            return self._undo()
        if word in ANSWERS:
            answer = ANSWERS[word]
            return answer(self._world, *things)
        world, images, told = self._changed(word, things)
        self._changes.append((line, self._world, self._images))
        self._world, self._images = world, images
        return told

    def say_all(self, lines):
        """Does what all lines tell, or, where one is refused, nothing; tells the answers."""
        if not isinstance(lines, (list, tuple)) or len(lines) > MOST_LINES:
            raise NoLog(lines)
        world, images, changes = self._world, self._images, list(self._changes)
        answers = []
        try:
            for line in lines:
                answers.append(self.say(line))
        except (GuestError, Missing, Barred):
            self._world, self._images, self._changes = world, images, changes
            raise
        return answers

    def told(self):
        """The lines that changed the desk and are not undone."""
        return [line for line, _, _ in self._changes]

    def _undo(self):
        if not self._changes:
            raise Over()
        _, self._world, self._images = self._changes.pop()
        return "ok"

    def _changed(self, word, things):
        """The World and the images behind a line that changes them, and the answer."""
        if word == "world":
            return World(list(zip(things[::3], things[1::3], things[2::3]))), self._images, "ok"
        if word == "image":
            return self._world, _with_image(self._images, things), "ok"
        deed = _deed_of(word, things, self._images)
        world = self._world.twin()
        return world, self._images, _told_of(do(world, deed))


def _with_image(images, things):
    """The images with one more, as the text of what is read."""
    name, text = things
    check_name(name)
    more = dict(images)
    more[name] = image_text(read_image(text.replace(" / ", "\n")))
    return more


def _deed_of(word, things, images):
    """The deed that a line tells."""
    if word == "come":
        house, name, image, *numbers = things
        if image not in images:
            raise NoImage(image)
        return tuple([word, house, name, images[image]] + numbers)
    if word == "keep":
        return word, things[0], len(things) == 2
    if word == "road" and len(things) == 2:
        return word, things[0], things[1], None
    return tuple([word] + things)


def _told_of(told):
    """The answer to a deed that told this."""
    if told is None:
        return "ok"
    if isinstance(told, int):
        return str(told)
    return ", ".join([_turn_told(name, row) for name, row in told])


def _turn_told(name, row):
    if name is None:
        return NOTHING
    return f"{name} idle" if row is None else f"{name} {row[1]}"


def _or_nothing(text):
    return NOTHING if text == "" else text


def _words(things):
    return _or_nothing(joined(things))


def _rows(rows):
    return _or_nothing("; ".join(rows))


def _house_of(world, name):
    """The house where a guest is, or None."""
    house = world.where(name)
    return None if house is None else world.house(house)


def _where(world, name):
    house = world.where(name)
    return NOTHING if house is None else house


def _phase(world, name):
    phase = world.phase(name)
    return NOTHING if phase is None else phase


def _told(world, name):
    return _words(world.told(name))


def _state(world, name):
    house = _house_of(world, name)
    return NOTHING if house is None else house.core(name).state()


def _time(world, name):
    house = _house_of(world, name)
    return NOTHING if house is None else str(house.core(name).time())


def _trail(world, name, many):
    house = _house_of(world, name)
    rows = [] if house is None else house.trail(name)
    return _rows([trail_row(row) for row in rows[max(0, len(rows) - many):]])


def _stops(world, name):
    house = _house_of(world, name)
    return _rows([joined(stop) for stop in ([] if house is None else stops_of(house, name))])


def _letters(world, name):
    return _rows([joined([number, side, letter[0]]) for number, side, letter in world.letters(name)])


def _used(world, house):
    return _words(world.house(house).rooms().in_use())


def _guests(world):
    return _words(world.names())


def _houses(world):
    return _words(world.houses())


def _standing(world):
    return _words(world.standing())


ANSWERS = {
    "where": _where, "phase": _phase, "told": _told, "state": _state, "time": _time, "trail": _trail,
    "stops": _stops, "letters": _letters, "used": _used, "guests": _guests, "houses": _houses, "standing": _standing,
}
