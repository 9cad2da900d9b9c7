"""Roads that bear letters between two sides, lose some, and double some."""

from guestsalone.checks import check_number
from guestsalone.errors import NotOnRoad
from guestsalone.words import is_count


class Road:
    """The letters that are under way, by their numbers: the side that put each, and the letter."""

    def __init__(self):
        self._letters = {}
        self._given = 0

    def put(self, side, letter):
        """Puts a letter of a side under way; tells its number."""
        check_number(side, 0, 1)
        self._given += 1
        self._letters[self._given] = (side, copied(letter))
        return self._given

    def come(self, number):
        """A letter comes: tells the side to which it comes, and the letter."""
        return self._take(number)

    def lose(self, number):
        """A letter is lost; tells the side to which it would have come, and the letter."""
        return self._take(number)

    def double(self, number):
        """Another letter like this one is under way, too; tells its number."""
        self._check(number)
        side, letter = self._letters[number]
        return self.put(side, letter)

    def under_way(self):
        """All letters under way, by their numbers, with the sides that put them."""
        return [(number, side, copied(letter)) for number, (side, letter) in self._letters.items()]

    def __len__(self):
        return len(self._letters)

    def twin(self):
        other = Road()
        other._letters = dict(self._letters)
        other._given = self._given
        return other

    def _take(self, number):
        self._check(number)
        side, letter = self._letters.pop(number)
        # Twins may bear the same letter still.
        return 1 - side, copied(letter)

    def _check(self, number):
        if not is_count(number) or number not in self._letters:
            raise NotOnRoad(number)


def copied(thing):
    """A copy of lists, tuples and dicts, inner ones too; other things are borne themselves."""
    if isinstance(thing, list):
        return [copied(inner) for inner in thing]
    if isinstance(thing, tuple):
        return tuple([copied(inner) for inner in thing])
    if isinstance(thing, dict):
        return {key: copied(inner) for key, inner in thing.items()}
    return thing
