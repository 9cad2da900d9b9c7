"""What a world has of a guest, wherever it is, or nowhere."""

from guestsalone.house import new_guest
from guestsalone.snapshots import gone_on


class Keeping:
    """A guest's image, its port, how many letters came to it, and what is kept of it.

    Kept are its time, its log, what it told, how many words it sent, and how
    many letters had come, none of which changes but all at once; and the
    guest as it was kept whole last, None where it never was.
    """

    def __init__(self, image, port):
        self._image = image
        self._port = port
        self._come = 0
        self._kept = (0, (), (), 0, 0)
        self._snapshot = None

    def image(self):
        return self._image

    def port(self):
        return self._port

    def how_many_came(self):
        return self._come

    def letter_came(self):
        self._come += 1

    def keep(self, core, log):
        """Keeps how the guest stands; tells what it sent since it was kept last."""
        sent = core.sent()
        fresh = sent[self._kept[3]:]
        self._kept = (core.time(), tuple(log), tuple(core.told()), len(sent), self._come)
        return fresh

    def keep_whole(self, guest):
        self._snapshot = guest

    def kept(self):
        """Time, log, and how many words were told, sent, and came."""
        time, log, told, sent, come = self._kept
        return time, list(log), len(told), sent, come

    def told(self):
        return list(self._kept[2])

    def guest(self):
        """The guest as it is kept, gone on from when it was kept whole, or from its image."""
        time, log = self._kept[:2]
        first = new_guest(self._image) if self._snapshot is None else self._snapshot
        return gone_on(first, log[len(first.log()):], time)

    def came_up(self):
        """It goes on from what is kept: what came later did not come to it."""
        self._come = self._kept[4]

    def twin(self):
        other = Keeping(self._image, self._port)
        other._come = self._come
        other._kept = self._kept
        other._snapshot = self._snapshot
        return other
