"""A world: houses, the words that guests post to each other, what is kept of them, and their moves."""

from guestsalone.checks import check_guest, check_name, check_number
from guestsalone.errors import (
    Doubled, Ended, Fallen, Full, Moving, NoDeed, NoHouse, NoText, NotKept, NotMoving, NoTruth, NoWorld, Standing,
)
from guestsalone.house import MOST_ARRIVALS, MOST_TURNS, House
from guestsalone.images import image_text
from guestsalone.keeping import Keeping
from guestsalone.moves import Move
from guestsalone.queues import PORTS, Switch
from guestsalone.rooms import MOST_ROOMS
from guestsalone.shares import LONGEST, SHORTEST
from guestsalone.words import are_signs, is_name, is_whole

ALONE = ("round", "stop", "again", "off", "look")
NUMBERED = ("come", "lose", "double")


class World:
    """Houses by their names, None those that fell; guests by theirs; and all deeds that were done.

    Of each Move under way its source's and its goal's names stand with it.
    """

    def __init__(self, houses):
        if not are_houses(houses):
            raise NoWorld(houses)
        self._made = list(houses)
        self._houses = {}
        for name, rooms, length in houses:
            if name in self._houses:
                raise Doubled(name)
            self._houses[name] = House(rooms, length=length)
        self._switch = Switch()
        self._keepings = {}
        self._moves = {}
        self._deeds = []

    def come(self, house, name, image, *, port, promise=1, ceiling=None):
        there = self._standing(house)
        check_name(name)
        check_number(port, 0, PORTS - 1)
        if name in self._keepings:
            raise Doubled(name)
        if port in [keeping.port() for keeping in self._keepings.values()]:
            raise Doubled(port)
        there.come(name, image, promise=promise, ceiling=ceiling)
        self._keepings[name] = Keeping(image, port)
        self._deeds.append(("come", house, name, image_text(image), port, promise, ceiling))

    def keep(self, name, *, whole=False):
        """Keeps how a guest stands, and posts what it sent since it was kept last."""
        keeping = self._keeping(name)
        if not isinstance(whole, bool):
            raise NoTruth(whole)
        there = self._house_of(name)
        words = keeping.keep(there.core(name), there.log(name))
        if whole:
            keeping.keep_whole(there.snapshot(name))
        for port, word in words:
            self._post(port, word)
        self._deeds.append(("keep", name, whole))

    def turns(self, house, many=1):
        """So many turns pass in a house, the letters coming ahead of each."""
        there = self._standing(house)
        check_number(many, 1, MOST_TURNS)
        told = []
        for _ in range(many):
            self._bring_letters(there)
            told.extend(there.turns())
            self._look_from(house)
        self._deeds.append(("turns", house, many))
        return told

    def say(self, name, text):
        """A text comes to a guest, sign by sign."""
        self._keeping(name)
        if not are_signs(text):
            raise NoText(text)
        there = self._house_of(name)
        state = there.core(name).state()
        if state in ("ended", "fell"):
            raise Ended(state)
        if len(there.log(name)) + len(text) > MOST_ARRIVALS:
            raise Full(MOST_ARRIVALS)
        for sign in text:
            there.arrive(name, "line", ord(sign))
        self._deeds.append(("say", name, text))

    def fall(self, house):
        """A house falls with all that it had; the moves from it and to it are under way no more."""
        self._standing(house)
        for name, (move, source, goal) in list(self._moves.items()):
            if house in (source, goal):
                if move.phase() in ("rounds", "stopped"):
                    move.call_off()
                del self._moves[name]
        self._houses[house] = None
        self._deeds.append(("fall", house))

    def rise(self, house):
        self._check_house(house)
        if self._houses[house] is not None:
            raise Standing(house)
        for name, rooms, length in self._made:
            if name == house:
                self._houses[house] = House(rooms, length=length)
        self._deeds.append(("rise", house))

    def come_up(self, name, house, *, promise=1, ceiling=None):
        """A guest that is in no house comes to one, as it is kept."""
        keeping = self._keeping(name)
        there = self._standing(house)
        if self.where(name) is not None:
            raise Standing(name)
        if name in self._moves:
            raise Moving(name)
        there.bring(name, keeping.guest(), promise=promise, ceiling=ceiling)
        keeping.came_up()
        self._deeds.append(("up", name, house, promise, ceiling))

    def move(self, name, house, *, most=2, patience=8, promise=1, ceiling=None):
        """A guest sets out for another house."""
        self._keeping(name)
        goal = self._standing(house)
        if name in self._moves:
            raise Moving(name)
        source = self._house_of(name)
        if source == goal:
            raise NoHouse(house)
        move = Move(source, goal, name, most=most, patience=patience, promise=promise, ceiling=ceiling)
        self._moves[name] = (move, self.where(name), house)
        self._deeds.append(("move", name, house, most, patience, promise, ceiling))

    def move_deed(self, name, word, number=None):
        """Does a deed of a guest's Move; tells what that tells."""
        self._keeping(name)
        if word not in ALONE + NUMBERED or (word in ALONE and number is not None):
            raise NoDeed(word)
        told = _moved(self._move(name), word, number)
        self._forget_if_over(name)
        self._deeds.append(("road", name, word, number))
        return told

    def made(self):
        """The tuples of which the houses were made."""
        return list(self._made)

    def houses(self):
        return list(self._houses)

    def standing(self):
        """The names of the houses that stand."""
        return [name for name, there in self._houses.items() if there is not None]

    def names(self):
        """The names of all guests that ever came."""
        return list(self._keepings)

    def where(self, name):
        """The name of the house where a guest is, or None."""
        self._keeping(name)
        for house in self.standing():
            if name in self._houses[house].names():
                return house
        return None

    def port(self, name):
        return self._keeping(name).port()

    def image(self, name):
        """The image with which a guest came."""
        return self._keeping(name).image()

    def phase(self, name):
        """The phase of a guest's Move, or None."""
        self._keeping(name)
        return self._move(name).phase() if name in self._moves else None

    def told(self, name):
        """What a guest told, up to what is kept."""
        return self._keeping(name).told()

    def kept(self, name):
        return self._keeping(name).kept()

    def letters(self, name):
        """The letters under way of a guest's Move."""
        self._keeping(name)
        return self._move(name).letters()

    def house(self, name):
        return self._standing(name).twin()

    def posted(self, port):
        return self._switch.posted(port)

    def deeds(self):
        """All deeds that were not refused."""
        return list(self._deeds)

    def twin(self):
        houses = {name: None if there is None else there.twin() for name, there in self._houses.items()}
        other = World(self._made)
        other._houses = houses
        other._switch = self._switch.twin()
        other._keepings = {name: keeping.twin() for name, keeping in self._keepings.items()}
        other._moves = {
            name: (move.between(houses[source], houses[goal]), source, goal)
            for name, (move, source, goal) in self._moves.items()
        }
        other._deeds = list(self._deeds)
        return other

    def _keeping(self, name):
        check_guest(name, self._keepings)
        return self._keepings[name]

    def _check_house(self, name):
        if not is_name(name) or name not in self._houses:
            raise NoHouse(name)

    def _standing(self, name):
        """The house of this name, which stands."""
        self._check_house(name)
        if self._houses[name] is None:
            raise Fallen(name)
        return self._houses[name]

    def _house_of(self, name):
        """The house where a guest is."""
        house = self.where(name)
        if house is None:
            raise NotKept(name)
        return self._houses[house]

    def _move(self, name):
        if name not in self._moves:
            raise NotMoving(name)
        return self._moves[name][0]

    def _post(self, port, word):
        try:
            self._switch.post(port, word)
        except Full:
            # The word is lost.
            return

    def _bring_letters(self, there):
        """The next letter comes to each guest of a house, where there is one, and it may come."""
        for name in there.names():
            keeping = self._keepings[name]
            word = self._switch.letter(keeping.port(), keeping.how_many_came())
            if word is not None and _came(there, name, word):
                keeping.letter_came()

    def _look_from(self, house):
        """All Moves from this house look."""
        for name, (move, source, _) in list(self._moves.items()):
            if source == house:
                move.look()
                self._forget_if_over(name)

    def _forget_if_over(self, name):
        if self._move(name).phase() in ("done", "off"):
            del self._moves[name]


def are_houses(thing):
    """Whether it is a list of two or three tuples, each as houses may be made of."""
    if not isinstance(thing, (list, tuple)) or not 2 <= len(thing) <= 3:
        return False
    return all([_is_house(told) for told in thing])


def _is_house(thing):
    if not isinstance(thing, tuple) or len(thing) != 3:
        return False
    name, rooms, length = thing
    return is_name(name) and is_whole(rooms, 1, MOST_ROOMS) and is_whole(length, SHORTEST, LONGEST)


def _came(there, name, word):
    """Whether a letter came to a guest, which may have ended, or have a full log."""
    try:
        there.arrive(name, "net", word)
    except (Ended, Full):
        return False
    return True


def _moved(move, word, number):
    """Does a deed of a Move by its word."""
    match word:
        case "round":
            return move.one_round()
        case "stop":
            return move.stop()
        case "again":
            return move.again()
        case "off":
            return move.call_off()
        case "look":
            return move.look()
        case "come":
            return move.come(number)
        case "lose":
            return move.lose(number)
        case _:
            return move.double(number)
