"""Papers of runs: where trails and histories part, and how long guests stood still."""

from guestsalone.deeds import replayed
from guestsalone.errors import NoLog, NotKept
from guestsalone.house import check_house
from guestsalone.plain import LONGEST_LOG, PlainMachine, arrived, is_log


def walked(image, log, trail):
    """The number of the first thing in a trail that is not the row of the image's run alone, or None."""
    machine = PlainMachine(image)
    if not is_log(log):
        raise NoLog(log)
    if not isinstance(trail, (list, tuple)) or len(trail) > LONGEST_LOG:
        raise NoLog(trail)
    come = arrived(machine, log, 0)
    for at, thing in enumerate(trail):
        row = machine.step() if machine.state() == "runs" else None
        if row is None or not _is_same(thing, row):
            return at
        come = arrived(machine, log, come)
    return None


def parted(house, name, other, other_name):
    """Whether the trails of two guests are alike, or where they part."""
    return _told_of(_trail_of(house, name), _trail_of(other, other_name))


def pair_told(text, other, name):
    """Where the runs of a guest in two histories part, or that they are alike."""
    worlds = [replayed(text), replayed(other)]
    houses = [_house_of(world, name) for world in worlds]
    one, second = [world.image(name) for world in worlds]
    if one != second:
        return ("image",)
    time = min([house.core(name).time() for house in houses])
    one, second = [_ahead_of(time, house.log(name)) for house in houses]
    if one != second:
        return "log", _first_unlike(one, second)
    one, second = [_ahead_of(time, house.trail(name)) for house in houses]
    return _told_of(one, second)


def stops_of(house, name):
    """The times at which a guest went on behind turns at which it did no step, and how many those were."""
    check_house(house)
    stepped = house.stepped(name)
    rows = house.trail(name)
    first = len(rows) - len(stepped)
    stops = []
    for at in range(1, len(stepped)):
        many = stepped[at] - stepped[at - 1] - 1
        if many > 0:
            stops.append((rows[first + at][0], many))
    return stops


def greatest_stop(house, name):
    """The most turns for which a guest stood still, 0 where it never did."""
    return max([many for _, many in stops_of(house, name)], default=0)


def _is_same(thing, row):
    """Whether any thing is the same as a row, or a part of one."""
    if isinstance(row, tuple):
        if not isinstance(thing, tuple) or len(thing) != len(row):
            return False
        return all([_is_same(part, other) for part, other in zip(thing, row)])
    # A truth is equal to 0 or 1, but stands for no number.
    return not isinstance(thing, bool) and thing == row


def _trail_of(house, name):
    check_house(house)
    return house.trail(name)


def _house_of(world, name):
    """The house of a world where a guest is."""
    house = world.where(name)
    if house is None:
        raise NotKept(name)
    return world.house(house)


def _ahead_of(time, rows):
    """Of arrivals, or of rows of a trail, those of lesser times."""
    return [row for row in rows if row[0] < time]


def _first_unlike(one, other):
    """The least number at which two lists are unlike, or just one of them has a thing; None where there is none."""
    for at in range(max(len(one), len(other))):
        if one[at:at + 1] != other[at:at + 1]:
            return at
    return None


def _told_of(one, other):
    """What is told of two trails."""
    many = min(len(one), len(other))
    at = _first_unlike(one[:many], other[:many])
    return ("alike", many) if at is None else ("parted", at, one[at], other[at])
