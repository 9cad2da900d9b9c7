"""Points 51 to 56 over long runs of deeds by chance, held against a model that keeps them otherwise."""

import random

from guestsalone.errors import NoGuest
from guestsalone.rooms import Rooms
from tests.helpers import Case, rows
from tests.test_rooms import everything

NAMES = ["ann", "bob", "cid", "dan", "eve", "fay", "gil"]


class Model:
    """Each room of a house is a list of those that lie in it; the givings stand in a row, the eldest first."""

    def __init__(self, many):
        self.many = many
        self.guests = []
        self.words = {}
        self.lies = {number: [] for number in range(many)}
        self.row = []
        self.blank = set()

    def come(self, name, rooms):
        self.guests.append(name)
        self.put(name, rooms)

    def put(self, name, rooms):
        for room in range(8):
            self.words[name, room] = list(rooms[room])
            self.leave(name, room)
            self.blank.discard((name, room))
            if not any(rooms[room]):
                self.blank.add((name, room))

    def go(self, name):
        for room in range(8):
            self.leave(name, room)
        self.guests.remove(name)

    def leave(self, name, room):
        for number, lying in self.lies.items():
            if (name, room) in lying:
                lying.remove((name, room))
                if not lying:
                    self.row.remove(number)
                return True
        return False

    def at(self, name, room):
        found = [number for number, lying in self.lies.items() if (name, room) in lying]
        return found[0] if found else None

    def give(self, name, room):
        free = [number for number in range(self.many) if number not in self.row]
        number = free[0] if free else self.row.pop(0)
        self.lies[number] = [(name, room)]
        self.row.append(number)
        self.blank.discard((name, room))

    def read(self, name, room, cell):
        if self.at(name, room) is None and (name, room) not in self.blank:
            self.give(name, room)
        return self.words[name, room][cell]

    def write(self, name, room, cell, word):
        number = self.at(name, room)
        if number is None:
            self.give(name, room)
        elif len(self.lies[number]) > 1:
            self.leave(name, room)
            self.give(name, room)
        self.words[name, room][cell] = word

    def share(self):
        freed = 0
        for number in sorted(self.row):
            for lesser in range(number):
                if self.lies[number] and self.lies[lesser] and self.had(number) == self.had(lesser):
                    self.lies[lesser] += self.lies[number]
                    self.lies[number] = []
                    self.row.remove(number)
                    freed += 1
        return freed

    def had(self, number):
        return self.words[self.lies[number][0]]

    def everything(self):
        def way(name, room):
            number = self.at(name, room)
            return "blank" if (name, room) in self.blank else "away" if number is None else number

        order = {name: at for at, name in enumerate(self.guests)}
        return (
            self.many, self.guests, sorted(self.row), len([1 for lying in self.lies.values() if len(lying) > 1]),
            [sorted(self.lies[number], key=lambda found: (order[found[0]], found[1])) for number in range(self.many)],
            [(name, room, way(name, room), self.words[name, room]) for name in self.guests for room in range(8)],
            [tuple(tuple(self.words[name, room]) for room in range(8)) for name in self.guests],
        )


def any_rooms(chance):
    return rows({room: [chance.choice([0, 0, 1])] * 8 for room in range(8) if chance.random() < 0.8})


class ModelTest(Case):
    def deed(self, chance, rooms, model):
        """Does one deed with both; tells what both tell of it."""
        there = model.guests
        name = chance.choice(NAMES)
        room, cell, word = chance.randrange(8), chance.randrange(8), chance.choice([0, 1, 1, 1, 2])
        kind = chance.choice(["come", "go", "put", "back", "share"] + ["read"] * 8 + ["write"] * 10)
        if kind == "share":
            return rooms.share(), model.share()
        if name not in there:
            if kind == "come" and len(there) < 6:
                told = any_rooms(chance)
                return rooms.come(name, told), model.come(name, told)
            self.refused_found(NoGuest, name, rooms.read_cell, name, room, cell)
            return None, None
        if kind == "go" and chance.random() < 0.3:
            told = tuple(tuple(model.words[name, at]) for at in range(8))
            model.go(name)
            return rooms.go(name), told
        if kind == "put":
            told = any_rooms(chance)
            return rooms.replaced(name, told), model.put(name, told)
        if kind == "back":
            return rooms.take_back(name, room), model.leave(name, room)
        if kind == "write":
            return rooms.write_cell(name, room, cell, word), model.write(name, room, cell, word)
        return rooms.read_cell(name, room, cell), model.read(name, room, cell)

    def test_runs_by_chance(self):
        for number in range(60):
            chance = random.Random(number)
            many = chance.choice([1, 2, 3, 5, 8, 20, 64])
            rooms, model = Rooms(many), Model(many)
            for _ in range(150):
                one, other = self.deed(chance, rooms, model)
                self.assertEqual(one, other)
                self.assertEqual(everything(rooms), model.everything())
                if chance.random() < 0.05:
                    rooms = rooms.twin()
