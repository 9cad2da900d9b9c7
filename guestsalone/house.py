"""A house: guests whose turns, rooms and disks it deals out, and a guest as it leaves one."""

from guestsalone.checks import check_guest, check_name, check_number
from guestsalone.core import Core
from guestsalone.errors import Full, NoHouse, NoImage, NoLog, NoSnapshot
from guestsalone.images import is_eight, is_image
from guestsalone.plain import is_log
from guestsalone.queues import Queue
from guestsalone.rooms import Rooms
from guestsalone.shares import Shares

MOST_TURNS = 400
MOST_ARRIVALS = 400


class Guest:
    """All that a guest takes along: its core, its rooms, its log and its trail."""

    def __init__(self, core, rooms, log, trail):
        if not isinstance(core, Core):
            raise NoSnapshot(core)
        if not is_eight(rooms):
            raise NoImage(rooms)
        if not is_log(log):
            raise NoLog(log)
        self._core = core.twin()
        self._rooms = rooms
        self._log = list(log)
        self._trail = list(trail)

    def core(self):
        return self._core.twin()

    def rooms(self):
        return self._rooms

    def log(self):
        return list(self._log)

    def trail(self):
        return list(self._trail)

    def __eq__(self, other):
        if not isinstance(other, Guest):
            return False
        return (
            self._core == other._core and self._rooms == other._rooms
            and self._log == other._log and self._trail == other._trail
        )


def new_guest(image):
    """A guest of an image that did no step, and to which nothing came."""
    rooms, blocks = image
    return Guest(Core(blocks), rooms, (), ())


class Lodger:
    """What a house has of a guest beside its rooms, its shares and its place in the queue."""

    def __init__(self, core, log, trail, stopped):
        self._core = core
        self._log = log
        self._trail = trail
        self._stopped = stopped
        self._stepped = []

    def twin(self):
        other = Lodger(self._core.twin(), list(self._log), list(self._trail), self._stopped)
        other._stepped = list(self._stepped)
        return other


class House:
    """Guests that run turn by turn, each as if it were alone."""

    def __init__(self, rooms, *, length=12):
        self._rooms = Rooms(rooms)
        self._shares = Shares(length)
        self._queue = Queue()
        self._lodgers = {}
        self._passed = []

    def come(self, name, image, *, promise=1, ceiling=None):
        check_name(name)
        if not is_image(image):
            raise NoImage(image)
        self._take_in(name, new_guest(image), promise, ceiling)

    def bring(self, name, guest, *, promise=1, ceiling=None):
        """A guest comes that left a house, or was kept."""
        check_name(name)
        check_snapshot(guest)
        self._take_in(name, guest, promise, ceiling)

    def replace(self, name, guest):
        """A guest takes the place of one that is there."""
        stopped = self._lodger(name)._stopped
        check_snapshot(guest)
        self._queue.leave(name)
        self._rooms.replaced(name, guest.rooms())
        self._settle(name, guest, stopped)

    def leave(self, name):
        """A guest leaves; tells it with all that it has."""
        guest = self.snapshot(name)
        self._queue.leave(name)
        self._rooms.go(name)
        self._shares.go(name)
        del self._lodgers[name]
        return guest

    def snapshot(self, name):
        """What would leave, of a guest that stays."""
        lodger = self._lodger(name)
        return Guest(lodger._core, self._rooms.rooms_of(name), lodger._log, lodger._trail)

    def check_share(self, name, promise, ceiling):
        """Refuses what the shares would refuse of a guest that came with these."""
        self._shares.twin().come(name, promise, self._ceiling_of(ceiling))

    def stop(self, name):
        lodger = self._lodger(name)
        lodger._stopped = True

    def go_on(self, name):
        lodger = self._lodger(name)
        lodger._stopped = False

    def turns(self, many=1):
        """So many turns pass; tells of each whose it was and the row of its step."""
        check_number(many, 1, MOST_TURNS)
        return [self._pass_turn() for _ in range(many)]

    def arrive(self, name, kind, word):
        lodger = self._lodger(name)
        if len(lodger._log) >= MOST_ARRIVALS:
            # What the core itself refuses is due first, and nothing may come.
            lodger._core.twin().arrive(kind, word)
            raise Full(MOST_ARRIVALS)
        lodger._core.arrive(kind, word)
        lodger._log.append((lodger._core.time(), kind, word))

    def take_back(self, name, room):
        return self._rooms.take_back(name, room)

    def share(self):
        return self._rooms.share()

    def change(self, name, promise, ceiling):
        self._shares.change(name, promise, ceiling)

    def names(self):
        return list(self._lodgers)

    def turn(self):
        """How many turns have passed."""
        return len(self._passed)

    def core(self, name):
        return self._lodger(name)._core.twin()

    def rooms_of(self, name):
        return self._rooms.rooms_of(name)

    def log(self, name):
        return list(self._lodger(name)._log)

    def trail(self, name):
        return list(self._lodger(name)._trail)

    def stepped(self, name):
        """The turns at which a guest did a step since it came or was put back."""
        return list(self._lodger(name)._stepped)

    def is_ready(self, name):
        lodger = self._lodger(name)
        return lodger._core.state() == "runs" and not lodger._stopped and not self.is_held(name)

    def is_held(self, name):
        """Whether an ask of a guest is due that was not served."""
        due = self._lodger(name)._core.due()
        return any([number in due for number in self._queue.of(name)])

    def is_stopped(self, name):
        return self._lodger(name)._stopped

    def rooms(self):
        return self._rooms.twin()

    def shares(self):
        return self._shares.twin()

    def queue(self):
        return self._queue.twin()

    def passed(self):
        """All that the turns told."""
        return list(self._passed)

    def twin(self):
        other = House(1)
        other._rooms = self._rooms.twin()
        other._shares = self._shares.twin()
        other._queue = self._queue.twin()
        other._lodgers = {name: lodger.twin() for name, lodger in self._lodgers.items()}
        other._passed = list(self._passed)
        return other

    def _lodger(self, name):
        check_guest(name, self._lodgers)
        return self._lodgers[name]

    def _ceiling_of(self, ceiling):
        return self._shares.length() if ceiling is None else ceiling

    def _take_in(self, name, guest, promise, ceiling):
        self._shares.come(name, promise, self._ceiling_of(ceiling))
        self._rooms.come(name, guest.rooms())
        self._settle(name, guest, False)

    def _settle(self, name, guest, stopped):
        """Puts a guest in its place, and its asks under way behind those that wait."""
        core = guest.core()
        self._lodgers[name] = Lodger(core, guest.log(), guest.trail(), stopped)
        for ask in core.asks():
            self._queue.put(name, ask[0])

    def _pass_turn(self):
        self._queue.serve()
        name = self._shares.deal([name for name in self._lodgers if self.is_ready(name)])
        row = None if name is None else self._step(name)
        self._passed.append((name, row))
        return name, row

    def _step(self, name):
        lodger = self._lodgers[name]
        row = lodger._core.step(self._rooms.store(name))
        if row is None:
            return None
        lodger._trail.append(row)
        lodger._stepped.append(self.turn())
        if row[1] == "asked" and row[3] is not None:
            self._queue.put(name, row[3][0])
        return row


def check_house(thing):
    """Refuses what is no House."""
    if not isinstance(thing, House):
        raise NoHouse(thing)


def check_snapshot(thing):
    """Refuses what is no Guest."""
    if not isinstance(thing, Guest):
        raise NoSnapshot(thing)
