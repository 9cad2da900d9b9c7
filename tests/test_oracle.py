"""Points 31 to 35 and 43, held against a second machine that was written apart."""

from guestsalone.plain import run_alone
from guestsalone.rooms import Rooms
from tests.chance import any_image, any_log, chance_of
from tests.helpers import Case
from tests.oracle import Oracle


class OracleTest(Case):
    def test_runs_are_alike(self):
        kinds = {}
        for number in range(800):
            chance = chance_of(number)
            image, log, end = any_image(chance), any_log(chance), chance.randrange(400)
            plain, other = run_alone(image, log, end=end), Oracle(image).run(log, end)
            core = plain.core()
            self.assertEqual(plain.trail(), other.trail, number)
            self.assertEqual(core.stands(), other.stands(), number)
            self.assertEqual((core.told(), core.sent(), plain.log()), (other.told, other.sent, other.log))
            self.assertEqual(plain.store().rooms(), tuple(map(tuple, other.rooms)))
            for row in plain.trail() + [(0, plain.state())]:
                kinds[row[1]] = kinds.get(row[1], 0) + 1
        # The programs by chance come to everything that a step may tell.
        every = "step trap fell told sent asked read clock waited ended idle runs".split()
        self.assertEqual(sorted(kinds), sorted(every))
        self.assertGreater(min(kinds.values()), 20)

    def test_runs_in_a_house_are_those_alone(self):
        """Points 53 and 56: guests that take each other's rooms back run as with a store of their own."""
        for number in range(60):
            chance = chance_of(number)
            rooms = Rooms(chance.randrange(1, 9))
            guests = {}
            for name in ("ann", "bob", "cid"):
                image = any_image(chance)
                rooms.come(name, image[0])
                guests[name] = (run_alone(image, end=0), run_alone(image, end=0).core(), rooms.store(name))
            for _ in range(150):
                name = chance.choice(["ann", "bob", "cid"])
                plain, core, store = guests[name]
                if chance.random() < 0.05:
                    rooms.share()
                if chance.random() < 0.05:
                    rooms.take_back(name, chance.randrange(8))
                if core.state() == "runs":
                    self.assertEqual(core.step(store), plain.step())
            for name, (plain, core, _) in guests.items():
                self.assertEqual(core, plain.core())
                self.assertEqual(rooms.rooms_of(name), plain.store().rooms())
