"""The shares by which a house deals its turns."""

from guestsalone.checks import check_guest, check_name, check_number
from guestsalone.errors import Doubled, Full, NoGuest, NoLog, NoName, NoNumber, NoShare, TooMuch
from guestsalone.rooms import MOST_GUESTS
from guestsalone.words import is_name

SHORTEST = 4
LONGEST = 60
MOST_DEALT = 400


class Shares:
    """Turns, cut into stretches, that are dealt by promises and ceilings.

    What a guest was told last may not count yet; what counts in this
    stretch is kept apart from it.
    """

    def __init__(self, length):
        check_number(length, SHORTEST, LONGEST)
        self._length = length
        self._told = {}
        self._counts = {}
        self._used = {}
        self._passed = 0
        self._dealt = []

    def come(self, name, promise, ceiling):
        check_name(name)
        self._check_share(promise, ceiling)
        if name in self._told:
            raise Doubled(name)
        if len(self._told) == MOST_GUESTS:
            raise Full(MOST_GUESTS)
        self._check_promised(self.promised() + promise)
        self._told[name] = (promise, ceiling)
        # A promise holds for whole stretches alone.
        self._counts[name] = (promise if self._passed == 0 else 0, ceiling)
        self._used[name] = 0

    def go(self, name):
        check_guest(name, self._told)
        del self._told[name]
        del self._counts[name]
        del self._used[name]

    def change(self, name, promise, ceiling):
        check_guest(name, self._told)
        self._check_share(promise, ceiling)
        self._check_promised(self.promised() - self.promise(name) + promise)
        self._told[name] = (promise, ceiling)
        if self._passed == 0:
            self._counts[name] = (promise, ceiling)

    def deal(self, ready):
        """Deals a turn among the names that are ready; tells who gets it, or None."""
        if not isinstance(ready, (list, tuple)):
            raise NoGuest(ready)
        for name in ready:
            check_guest(name, self._told)
        among = [name for name in self._told if name in ready]
        chosen = self._by_promise(among)
        if chosen is None:
            chosen = self._by_ceiling(among)
        if chosen is not None:
            self._used[chosen] += 1
        self._dealt.append(chosen)
        self._passed += 1
        if self._passed == self._length:
            self._begin_stretch()
        return chosen

    def length(self):
        return self._length

    def names(self):
        return list(self._told)

    def promise(self, name):
        check_guest(name, self._told)
        return self._told[name][0]

    def ceiling(self, name):
        check_guest(name, self._told)
        return self._told[name][1]

    def counting(self, name):
        """The promise and the ceiling that count in this stretch."""
        check_guest(name, self._told)
        return self._counts[name]

    def used(self, name):
        """How many turns of this stretch a guest used since it came."""
        check_guest(name, self._told)
        return self._used[name]

    def passed(self):
        """How many turns of this stretch have passed."""
        return self._passed

    def promised(self):
        """How many turns of a stretch are promised together, as told last."""
        return sum([promise for promise, _ in self._told.values()])

    def dealt(self):
        """All that were dealt: names, and None for each turn that nobody got."""
        return list(self._dealt)

    def twin(self):
        other = Shares(self._length)
        other._told = dict(self._told)
        other._counts = dict(self._counts)
        other._used = dict(self._used)
        other._passed = self._passed
        other._dealt = list(self._dealt)
        return other

    def _check_share(self, promise, ceiling):
        check_number(promise, 0, self._length)
        check_number(ceiling, max(1, promise), self._length)

    def _check_promised(self, many):
        if many > self._length:
            raise TooMuch(many)

    def _by_promise(self, among):
        """Of those that used fewer turns than promised the first that used the least part, or None."""
        chosen = None
        for name in among:
            used, promise = self._used[name], self._counts[name][0]
            if used >= promise:
                continue
            if chosen is None or used * self._counts[chosen][0] < self._used[chosen] * promise:
                chosen = name
        return chosen

    def _by_ceiling(self, among):
        """Of those that used fewer turns than their ceiling the first that used fewest, or None."""
        chosen = None
        for name in among:
            if self._used[name] >= self._counts[name][1]:
                continue
            if chosen is None or self._used[name] < self._used[chosen]:
                chosen = name
        return chosen

    def _begin_stretch(self):
        self._passed = 0
        self._counts = dict(self._told)
        self._used = {name: 0 for name in self._told}


def first_broken(length, guests, ready, dealt):
    """The first stretch and guest whose shares a told run does not keep, or None."""
    check_number(length, SHORTEST, LONGEST)
    if not _may_come(length, guests):
        raise NoShare(guests)
    if not _is_list(ready, MOST_DEALT) or not all([_is_names(names, guests) for names in ready]):
        raise NoLog(ready)
    if not _is_list(dealt, MOST_DEALT) or len(dealt) != len(ready):
        raise NoLog(dealt)
    if not all([name is None or _is_one_of(name, guests) for name in dealt]):
        raise NoLog(dealt)
    for first in range(0, len(ready), length):
        behind = first + length
        for name, share in guests.items():
            if _is_broken(name, share, ready[first:behind], dealt[first:behind], behind <= len(ready)):
                return first // length, name
    return None


def _may_come(length, guests):
    """Whether it is a dict of names and shares with which guests may come, in this order."""
    if not isinstance(guests, dict):
        return False
    shares = Shares(length)
    for name, share in guests.items():
        if not isinstance(share, tuple) or len(share) != 2:
            return False
        try:
            shares.come(name, share[0], share[1])
        except (NoName, NoNumber, Full, TooMuch):
            return False
    return True


def _is_list(thing, most):
    return isinstance(thing, (list, tuple)) and len(thing) <= most


def _is_names(thing, guests):
    return isinstance(thing, (list, tuple)) and all([_is_one_of(name, guests) for name in thing])


def _is_one_of(thing, guests):
    return is_name(thing) and thing in guests


def _is_broken(name, share, ready, dealt, whole):
    """Whether the turns of one stretch do not keep a guest's promise and ceiling."""
    promise, ceiling = share
    was_ready = [name in names for names in ready]
    got = [was_ready[at] for at, who in enumerate(dealt) if who == name]
    if not all(got) or len(got) > ceiling:
        return True
    return whole and all(was_ready) and len(got) < promise
