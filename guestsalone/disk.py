"""A machine's disk: its blocks, and what was asked of it."""

MOST_ASKS = 8


class Disk:
    """Eight blocks of eight words, and the asks under way, in the order in which they were asked."""

    def __init__(self, blocks):
        self._blocks = [list(block) for block in blocks]
        self._asks = []
        self._made = 0
        self._done = 0

    def ask(self, kind, block, room, due):
        """The number, kind, block and room of a new ask, or None where eight are under way."""
        if len(self._asks) == MOST_ASKS:
            return None
        number = self._made
        self._asks.append((number, kind, block, room, due))
        self._made += 1
        return number, kind, block, room

    def serve(self, time, store):
        """Does the asks that are due; tells whether there were any."""
        ready = [ask for ask in self._asks if ask[4] <= time]
        if not ready:
            return False
        self._asks = [ask for ask in self._asks if ask[4] > time]
        for ask in ready:
            self._do(ask[1], ask[2], ask[3], store)
        self._done += len(ready)
        return True

    def _do(self, kind, block, room, store):
        if kind == "write":
            self._blocks[block] = [store.read_cell(room, cell) for cell in range(8)]
            return
        for cell, word in enumerate(self._blocks[block]):
            store.write_cell(room, cell, word)

    def blocks(self):
        return [list(block) for block in self._blocks]

    def asks(self):
        return list(self._asks)

    def asks_made(self):
        return self._made

    def asks_done(self):
        return self._done


def disk_of(blocks, asks, made, done):
    """A disk that stands so."""
    disk = Disk(blocks)
    disk._asks = [tuple(ask) for ask in asks]
    disk._made = made
    disk._done = done
    return disk
