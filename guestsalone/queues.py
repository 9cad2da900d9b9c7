"""A queue of what guests ask of the disk, and a switch of what they post."""

from guestsalone.checks import check_name, check_number, check_word
from guestsalone.errors import Doubled, Full, NoAsk, NoNumber
from guestsalone.words import is_count

MOST_WAITING = 60
PORTS = 8
MOST_POSTED = 200


class Queue:
    """Asks of guests, served one at a time, the guests in turn.

    The asks stand as they were put; the row has the guests of whom one
    waits, in the order in which they are served.
    """

    def __init__(self):
        self._asks = []
        self._row = []

    def put(self, name, number):
        check_name(name)
        _check_count(number)
        if (name, number) in self._asks:
            raise Doubled((name, number))
        if len(self._asks) == MOST_WAITING:
            raise Full(MOST_WAITING)
        self._asks.append((name, number))
        if name not in self._row:
            self._row.append(name)

    def serve(self):
        """The first ask of the first guest in the row, which waits no more; or None."""
        if not self._row:
            return None
        name = self._row.pop(0)
        numbers = self.of(name)
        self._asks.remove((name, numbers[0]))
        if len(numbers) > 1:
            self._row.append(name)
        return name, numbers[0]

    def leave(self, name):
        """A guest leaves with all its asks; tells their numbers."""
        numbers = self.of(name)
        self._asks = [ask for ask in self._asks if ask[0] != name]
        self._row = [other for other in self._row if other != name]
        return numbers

    def of(self, name):
        """The numbers of a guest's asks, as they were put."""
        check_name(name)
        return [ask[1] for ask in self._asks if ask[0] == name]

    def waiting(self):
        """All asks, as they were put."""
        return list(self._asks)

    def comes_at(self, name, number):
        """How many servings there will be up to this ask's, its own counted."""
        if not is_count(number) or (name, number) not in self._asks:
            raise NoAsk((name, number))
        ahead = self.twin()
        many = 1
        while ahead.serve() != (name, number):
            many += 1
        return many

    def __len__(self):
        return len(self._asks)

    def twin(self):
        other = Queue()
        other._asks = list(self._asks)
        other._row = list(self._row)
        return other


class Switch:
    """Words that are posted for ports, and stay."""

    def __init__(self):
        self._posted = [[] for _ in range(PORTS)]

    def post(self, port, word):
        words = self._words(port)
        check_word(word)
        if len(words) == MOST_POSTED:
            raise Full(MOST_POSTED)
        words.append(word)

    def posted(self, port):
        return list(self._words(port))

    def how_many(self, port):
        return len(self._words(port))

    def letter(self, port, number):
        """The word of this number that was posted for the port, or None beyond them."""
        words = self._words(port)
        _check_count(number)
        return words[number] if number < len(words) else None

    def twin(self):
        other = Switch()
        other._posted = [list(words) for words in self._posted]
        return other

    def _words(self, port):
        check_number(port, 0, PORTS - 1)
        return self._posted[port]


def _check_count(thing):
    if not is_count(thing):
        raise NoNumber(thing)
