"""The rooms of a house, and the rooms of guests that lie in them."""

from guestsalone.checks import check_number, check_word
from guestsalone.errors import Doubled, Full, NoGuest, NoImage, NoName
from guestsalone.images import is_eight
from guestsalone.words import is_name

MOST_ROOMS = 64
MOST_GUESTS = 6
NOUGHTS = (0, 0, 0, 0, 0, 0, 0, 0)


class Rooms:
    """A house's rooms.

    A guest's room is kept as None where it is blank, as the number of the
    house's room in which it lies, or, where it is away, as the tuple of its
    words.
    """

    def __init__(self, many):
        check_number(many, 1, MOST_ROOMS)
        self._cells = [list(NOUGHTS) for _ in range(many)]
        self._given = [0] * many
        self._givings = 0
        self._guests = {}

    def come(self, name, rooms):
        if not is_name(name):
            raise NoName(name)
        if not is_eight(rooms):
            raise NoImage(rooms)
        if name in self._guests:
            raise Doubled(name)
        if len(self._guests) == MOST_GUESTS:
            raise Full(MOST_GUESTS)
        self._guests[name] = _places(rooms)

    def go(self, name):
        """A guest goes; tells the rooms that it had."""
        rooms = self.rooms_of(name)
        del self._guests[name]
        return rooms

    def replaced(self, name, rooms):
        """A guest's rooms give way to others."""
        self._check_guest(name)
        if not is_eight(rooms):
            raise NoImage(rooms)
        self._guests[name] = _places(rooms)

    def read_cell(self, name, room, cell):
        self._check_guest(name)
        check_number(room, 0, 7)
        check_number(cell, 0, 7)
        if self._guests[name][room] is None:
            return 0
        return self._cells[self._brought(name, room)][cell]

    def write_cell(self, name, room, cell, word):
        self._check_guest(name)
        check_number(room, 0, 7)
        check_number(cell, 0, 7)
        check_word(word)
        number = self._brought(name, room)
        if len(self.lying(number)) > 1:
            # Away for a moment, so that its old room may be the one that is taken back.
            self._guests[name][room] = tuple(self._cells[number])
            number = self._brought(name, room)
        self._cells[number][cell] = word

    def store(self, name):
        """A store of a guest: it works with these rooms, by the guest's name."""
        self._check_guest(name)
        return RoomsStore(self, name)

    def take_back(self, name, room):
        """Lays a guest's room aside; tells whether it lay in a room of the house."""
        number = self.way(name, room)
        if not isinstance(number, int):
            return False
        self._guests[name][room] = tuple(self._cells[number])
        return True

    def share(self):
        """Lets equal rooms lie in one; tells how many rooms became free."""
        firsts = {}
        many = 0
        for number in self.in_use():
            words = tuple(self._cells[number])
            if words in firsts:
                self._put(number, firsts[words])
                many += 1
            else:
                firsts[words] = number
        return many

    def how_many(self):
        return len(self._cells)

    def shared(self):
        """How many rooms of the house are shared."""
        return len([number for number in self.in_use() if len(self.lying(number)) > 1])

    def names(self):
        return list(self._guests)

    def in_use(self):
        """The rooms of the house in which something lies."""
        return sorted({place for places in self._guests.values() for place in places if isinstance(place, int)})

    def way(self, name, room):
        """Where a guest's room is: blank, away, or the number of a room of the house."""
        self._check_guest(name)
        check_number(room, 0, 7)
        place = self._guests[name][room]
        if place is None:
            return "blank"
        return place if isinstance(place, int) else "away"

    def words(self, name, room):
        """The words of a guest's room, wherever it is."""
        self._check_guest(name)
        check_number(room, 0, 7)
        return list(self._words_at(self._guests[name][room]))

    def rooms_of(self, name):
        self._check_guest(name)
        return tuple([tuple(self._words_at(place)) for place in self._guests[name]])

    def lying(self, number):
        """What lies in a room of the house: tuples of a guest's name and its room's number."""
        check_number(number, 0, len(self._cells) - 1)
        found = []
        for name, places in self._guests.items():
            found.extend([(name, room) for room, place in enumerate(places) if place == number])
        return found

    def twin(self):
        other = Rooms(len(self._cells))
        other._cells = [list(words) for words in self._cells]
        other._given = list(self._given)
        other._givings = self._givings
        other._guests = {name: list(places) for name, places in self._guests.items()}
        return other

    def _check_guest(self, name):
        if not is_name(name) or name not in self._guests:
            raise NoGuest(name)

    def _words_at(self, place):
        if place is None:
            return NOUGHTS
        return self._cells[place] if isinstance(place, int) else place

    def _brought(self, name, room):
        """The room of the house in which a guest's room lies; one is given to it where it lies in none."""
        place = self._guests[name][room]
        if isinstance(place, int):
            return place
        number = self._free_room()
        self._cells[number] = list(self._words_at(place))
        self._guests[name][room] = number
        self._givings += 1
        self._given[number] = self._givings
        return number

    def _free_room(self):
        """The least room that is free; or that which was given longest ago, taken back."""
        used = self.in_use()
        for number in range(len(self._cells)):
            if number not in used:
                return number
        oldest = self._given.index(min(self._given))
        self._put(oldest, tuple(self._cells[oldest]))
        return oldest

    def _put(self, number, place):
        """All that lie in a room of the house are at this place then."""
        for name, room in self.lying(number):
            self._guests[name][room] = place


class RoomsStore:
    """A store of a guest: its rooms as they lie in a house."""

    def __init__(self, rooms, name):
        self._rooms = rooms
        self._name = name

    def read_cell(self, room, cell):
        return self._rooms.read_cell(self._name, room, cell)

    def write_cell(self, room, cell, word):
        self._rooms.write_cell(self._name, room, cell, word)


def _places(rooms):
    """Rooms as they come to a house: blank where they have noughts, else away."""
    return [None if words == NOUGHTS else words for words in rooms]
