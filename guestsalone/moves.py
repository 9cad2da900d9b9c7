"""A move: a guest that goes from one house to another one while it runs."""

from guestsalone.checks import check_guest, check_number
from guestsalone.errors import Doubled, Full, NoHouse, NotMoving, TooMuch
from guestsalone.house import Guest, House, check_house
from guestsalone.images import EIGHT, image_of
from guestsalone.roads import Road
from guestsalone.rooms import NOUGHTS
from guestsalone.snaptext import guest_text, read_guest

SOURCE = 0
GOAL = 1
MOST_UNSURE = 8
MOST_PATIENCE = 60
NEVER = 0


class Move:
    """A guest's way from a house, the source, to another one, the goal.

    The source keeps of each room the round in which it was put last, its
    words of then, and the round that the last `have` told; and of each round
    while the guest was stopped the texts of its core and its rooms.
    """

    def __init__(self, source, goal, name, *, most=2, patience=8, promise=1, ceiling=None):
        check_house(source)
        check_house(goal)
        if source == goal:
            raise NoHouse(goal)
        check_guest(name, source.names())
        if name in goal.names():
            raise Doubled(name)
        check_number(most, 0, MOST_UNSURE)
        check_number(patience, 1, MOST_PATIENCE)
        goal.check_share(name, promise, ceiling)
        self._source = source
        self._name = name
        self._most = most
        self._patience = patience
        self._road = Road()
        self._goal = GoalSide(goal, name, promise, ceiling)
        self._phase = "rounds"
        self._rounds = 0
        self._put_in = [NEVER] * EIGHT
        self._put_words = list(image_of()[0])
        self._had = [NEVER] * EIGHT
        self._stopped_at = 0
        self._was_stopped = False
        self._cores = {}
        self._gone = None
        self._given = NEVER

    def one_round(self):
        """Puts the rooms that are not sure, and the core of a guest that is stopped; tells how many letters."""
        self._begin("rounds", "stopped")
        self._rounds += 1
        guest = self._source.snapshot(self._name)
        rooms = self.unsure()
        for room in rooms:
            self._put_in[room] = self._rounds
            self._put_words[room] = guest.rooms()[room]
            self._road.put(SOURCE, ("room", room, self._rounds, self._put_words[room]))
        if self._phase == "rounds":
            return len(rooms)
        text = _text_without_rooms(guest)
        self._cores[self._rounds] = (text, tuple(self._put_words))
        self._road.put(SOURCE, ("core", self._rounds, text, tuple(self._put_in)))
        return len(rooms) + 1

    def stop(self):
        """The source stops the guest, where few enough rooms are not sure."""
        self._begin("rounds")
        many = len(self.unsure())
        if many > self._most:
            raise TooMuch(many)
        self._was_stopped = self._source.is_stopped(self._name)
        self._stopped_at = self._source.turn()
        self._source.stop(self._name)
        self._phase = "stopped"

    def come(self, number):
        """A letter comes to the other side than put it."""
        self._begin()
        side, letter = self._road.come(number)
        if side == GOAL:
            for answer in self._goal.answers(letter, self._gone):
                self._road.put(GOAL, answer)
        else:
            self._hear(letter)

    def lose(self, number):
        self._begin()
        self._road.lose(number)

    def double(self, number):
        self._begin()
        self._road.double(number)

    def again(self):
        self._begin("given")
        self._put_go()

    def call_off(self):
        self._begin("rounds", "stopped")
        self._end_it()

    def look(self):
        self._begin()

    def phase(self):
        return self._phase

    def rounds(self):
        """The number of the round that was put last."""
        return self._rounds

    def stopped_for(self):
        """How many turns of the source have passed since the stop."""
        return self._source.turn() - self._stopped_at if self._phase == "stopped" else 0

    def letters(self):
        return self._road.under_way()

    def unsure(self):
        """The rooms of which the source does not know that the goal has them as they are."""
        if self._phase not in ("rounds", "stopped"):
            return []
        rooms = self._source.rooms_of(self._name)
        # Of a room that was never put no round is had, and the words of then are noughts.
        return [
            room for room in range(EIGHT)
            if self._had[room] != self._put_in[room] or self._put_words[room] != rooms[room]
        ]

    def runs_at(self):
        """The side that runs the guest, or None."""
        if self._phase in ("rounds", "off"):
            return SOURCE
        return GOAL if self._goal.has_begun() else None

    def between(self, source, goal):
        """A Move that stands as this one, between twins of its houses."""
        other = _spare_move(self._name)
        other._source = source
        other._goal = self._goal.within(goal)
        other._most = self._most
        other._patience = self._patience
        other._road = self._road.twin()
        other._phase = self._phase
        other._rounds = self._rounds
        other._put_in = list(self._put_in)
        other._put_words = list(self._put_words)
        other._had = list(self._had)
        other._stopped_at = self._stopped_at
        other._was_stopped = self._was_stopped
        other._cores = dict(self._cores)
        other._gone = self._gone
        other._given = self._given
        return other

    def _begin(self, *phases):
        """What goes ahead of a deed; no turn passes within one, so that nothing else would be seen behind it."""
        if self.stopped_for() > self._patience:
            self._end_it()
        if phases and self._phase not in phases:
            raise NotMoving(self._phase)

    def _end_it(self):
        if self._phase == "stopped" and not self._was_stopped:
            self._source.go_on(self._name)
        self._phase = "off"
        self._road.put(SOURCE, ("off",))

    def _hear(self, letter):
        """What a letter does that comes to the source."""
        if letter[0] == "have":
            self._had[letter[1]] = letter[2]
        elif letter[0] == "whole" and self._phase == "stopped":
            self._give(letter[1])
        elif letter[0] == "whole" and self._phase == "given":
            self._put_go()
        elif letter[0] == "runs" and self._phase == "given":
            self._phase = "done"

    def _give(self, which):
        """Lets the guest go, where it is still as it was put in this round, and the goal would take it."""
        guest = self._source.snapshot(self._name)
        if self._cores[which] != (_text_without_rooms(guest), guest.rooms()):
            return
        if not self._goal.would_take():
            self._end_it()
            return
        self._gone = self._source.leave(self._name)
        self._given = which
        self._phase = "given"
        self._put_go()

    def _put_go(self):
        self._road.put(SOURCE, ("go", self._given))


class GoalSide:
    """What the goal has of a guest that is on its way to it."""

    def __init__(self, house, name, promise, ceiling):
        self._house = house
        self._name = name
        self._promise = promise
        self._ceiling = ceiling
        self._rooms = {}
        self._core = None
        self._wholes = {}
        self._begun = False
        self._off = False

    def has_begun(self):
        return self._begun

    def would_take(self):
        """Whether the house would not refuse the guest now."""
        try:
            self._house.check_share(self._name, self._promise, self._ceiling)
        except (Doubled, Full, TooMuch):
            return False
        return True

    def within(self, house):
        """The same, of a twin of the house."""
        other = GoalSide(house, self._name, self._promise, self._ceiling)
        other._rooms = dict(self._rooms)
        other._core = self._core
        other._wholes = dict(self._wholes)
        other._begun = self._begun
        other._off = self._off
        return other

    def answers(self, letter, gone):
        """The letters that are put when this one comes; gone is the guest that left, if it did."""
        if letter[0] == "off":
            self._off = True
        if self._off:
            return []
        if letter[0] == "go":
            return self._go(letter[1], gone)
        if letter[0] == "room":
            return [self._take_room(letter)] + self._whole()
        self._take_core(letter)
        return self._whole()

    def _take_room(self, letter):
        _, room, which, words = letter
        if self._round_of(room) < which:
            self._rooms[room] = (which, words)
        return "have", room, self._round_of(room)

    def _take_core(self, letter):
        if self._core is None or self._core[1] < letter[1]:
            self._core = letter

    def _whole(self):
        """Tells that the guest is here as a whole, where it is, and keeps it so."""
        if self._core is None:
            return []
        _, which, text, rounds = self._core
        if [self._round_of(room) for room in range(EIGHT)] != list(rounds):
            return []
        rooms = [self._rooms[room][1] if room in self._rooms else NOUGHTS for room in range(EIGHT)]
        self._wholes[which] = (text, tuple(rooms))
        return [("whole", which)]

    def _go(self, which, gone):
        if not self._begun and which in self._wholes and self.would_take():
            text, rooms = self._wholes[which]
            read = read_guest(text)
            guest = Guest(read.core(), rooms, read.log(), gone.trail())
            self._house.bring(self._name, guest, promise=self._promise, ceiling=self._ceiling)
            self._begun = True
        return [("runs",)] if self._begun else []

    def _round_of(self, room):
        """The round of the letter that is here of a room, or 0."""
        return self._rooms[room][0] if room in self._rooms else NEVER


def _spare_move(name):
    """A Move of houses of its own, to be made another one."""
    source = House(1)
    source.come(name, image_of())
    return Move(source, House(1), name)


def _text_without_rooms(guest):
    return guest_text(Guest(guest.core(), image_of()[0], guest.log(), ()))
