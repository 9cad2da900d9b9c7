"""A second machine, written straight along points 31 to 35, to hold the program's own against.

It keeps its rooms in itself, and shares no code with the package.
"""

OPS = "halt set load save from into add sub part jump base trap time out in wait".split()


class Trap(Exception):
    pass


class Idle(Exception):
    pass


class Oracle:
    def __init__(self, image):
        rooms, blocks = image
        self.rooms = [list(room) for room in rooms]
        self.blocks = [list(block) for block in blocks]
        self.r = [0] * 4
        self.counter = self.table = self.time = self.handler = self.back = self.cause = 0
        self.trapped, self.state = False, "runs"
        self.queues = {"line": [], "net": []}
        self.told, self.sent, self.asks = [], [], []
        self.made = self.done = 0
        self.log, self.trail = [], []

    def where(self, place, write=False):
        e = self.rooms[self.table][place // 8]
        if e & 1 == 0:
            raise Trap(1)
        if write and e & 2 == 0:
            raise Trap(2)
        return (e >> 2) & 7, place % 8

    def get(self, place):
        room, cell = self.where(place)
        return self.rooms[room][cell]

    def put(self, place, word):
        room, cell = self.where(place, True)
        self.rooms[room][cell] = word

    def step(self):
        self.state = "runs"
        time, counter = self.time, self.counter
        served = False
        while self.asks and self.asks[0][4] <= time:
            _, kind, block, room, _ = self.asks.pop(0)
            if kind == "read":
                self.rooms[room] = list(self.blocks[block])
            else:
                self.blocks[block] = list(self.rooms[room])
            self.done += 1
            served = True
        self.after = None
        try:
            kind, thing = self.act(self.get(counter), served)
        except Idle:
            self.state = "idle"
            return None
        except Trap as trap:
            kind, thing = "trap", trap.args[0]
            if self.trapped:
                kind, self.state, self.after = "fell", "fell", counter
            else:
                self.trapped, self.cause, self.after = True, thing, self.handler
                self.back = (counter + (thing == 4)) % 64
        self.time += 1
        self.counter = (counter + 1) % 64 if self.after is None else self.after
        if kind == "waited":
            thing = self.time
        self.trail.append((time, kind, counter, thing))
        return self.trail[-1]

    def act(self, word, served):
        name, a, b = OPS[word >> 8], (word >> 6) & 3, word & 63
        c, r = b & 3, self.r
        if name == "halt":
            self.state = "ended"
            return "ended", None
        if name == "set":
            r[a] = b
        elif name == "load":
            r[a] = self.get(b)
        elif name == "save":
            self.put(b, r[a])
        elif name == "from":
            r[a] = self.get(r[c] & 63)
        elif name == "into":
            self.put(r[c] & 63, r[a])
        elif name == "add":
            r[a] = (r[a] + r[c]) & 4095
        elif name == "sub":
            r[a] = (r[a] - r[c]) & 4095
        elif name == "part":
            if r[c] == 0:
                raise Trap(3)
            x, y = r[a], r[c]
            r[a] = x // y
            r[c] = x % y
        elif name == "jump":
            if a == 0 or (a == 1 and r[0] == 0) or (a == 2 and r[0] != 0) or (a == 3 and r[0] < r[1]):
                self.after = b
        elif name == "base":
            self.table = r[a] & 7
        elif name == "trap":
            if a == 0:
                self.handler = b
            elif a == 1:
                self.trapped, self.after = False, self.back
            elif a == 2:
                r[c] = self.cause
            else:
                raise Trap(4)
        elif name == "time":
            r[a] = (self.time >> (12 if b & 1 else 0)) & 4095
            return "clock", r[a]
        elif name == "out":
            return self.out(a, c)
        elif name == "in":
            queue = self.queues["net" if c == 1 else "line"]
            r[a] = [(queue + [4095])[0], (queue + [4095])[0], self.done & 4095, len(self.asks)][c]
            if c < 2:
                del queue[:1]
            return "read", r[a]
        else:
            if not (served or self.queues["line"] or self.queues["net"]):
                if not self.asks:
                    raise Idle
                self.time = max(self.time, self.asks[0][4])
            return "waited", None
        return "step", None

    def out(self, a, c):
        word, d = self.r[a], self.r[(a + 1) & 3]
        if c == 0:
            self.told.append(word & 127)
            return "told", word & 127
        if c == 1:
            self.sent.append((d & 7, word))
            return "sent", (d & 7, word)
        if len(self.asks) == 8:
            return "asked", None
        ask = (self.made, "read" if c == 2 else "write", word & 7, d & 7)
        self.asks.append(ask + (self.time + 6,))
        self.made += 1
        return "asked", ask

    def arrive(self, kind, word):
        self.queues[kind].append(word)
        self.log.append((self.time, kind, word))
        self.state = "runs"

    def run(self, log, end):
        left = list(log)
        while self.state not in ("ended", "fell"):
            while left and left[0][0] <= self.time:
                self.arrive(*left.pop(0)[1:])
            if self.time >= end or self.state == "idle":
                break
            self.step()
        return self

    def stands(self):
        return (
            tuple(self.r), self.counter, self.table, self.time, self.handler, self.back, self.cause, self.trapped,
            self.state, tuple(self.queues["line"]), tuple(self.queues["net"]), len(self.told), len(self.sent),
            tuple(map(tuple, self.blocks)), tuple(self.asks), self.made, self.done,
        )
