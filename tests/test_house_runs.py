"""Points 8, 9 and 86: whatever a house does, each guest runs as if it were alone."""

from guestsalone.house import House
from guestsalone.plain import run_alone
from guestsalone.shares import first_broken
from tests.chance import any_log, chance_of, some_image
from tests.helpers import Case
from tests.test_guest import guest_of
from tests.test_house import everything
from tests.test_rooms import SIX


def alone(image, log, core):
    """The image run alone up to where a core stands."""
    # An idle machine did one step more, which told nothing and took no time.
    return run_alone(image, log, end=core.time() + (1 if core.state() == "idle" else 0))


class Keeper:
    """Does deeds by chance with a house, and knows the images of its guests."""

    def __init__(self, chance, house):
        self.chance, self.house = chance, house
        self.images = {}
        self.gone = []

    def come(self, name):
        house, chance = self.house, self.chance
        image = some_image(chance)
        promise = chance.randrange(min(3, house.shares().length() - house.shares().promised()) + 1)
        ceiling = chance.choice([None, None, chance.randrange(max(1, promise), house.shares().length() + 1)])
        if self.gone and chance.random() < 0.5:
            image, guest = self.gone.pop()
            house.bring(name, guest, promise=promise, ceiling=ceiling)
        elif chance.random() < 0.3:
            guest = guest_of(run_alone(image, any_log(chance, 6, 40), end=chance.randrange(30)))
            house.bring(name, guest, promise=promise, ceiling=ceiling)
        else:
            house.come(name, image, promise=promise, ceiling=ceiling)
        self.images[name] = image

    def deed(self):
        house, chance = self.house, self.chance
        name = chance.choice(SIX)
        if name not in self.images:
            return self.come(name)
        kind = chance.choice(["arrive"] * 3 + ["turns"] * 8 + ["back"] * 2 + ["share", "stop", "on", "on", "leave",
                                                                              "replace", "change"])
        if kind == "arrive" and house.core(name).state() in ("runs", "idle"):
            way = chance.choice(["line", "net"])
            house.arrive(name, way, chance.randrange(128 if way == "line" else 4096))
        elif kind == "turns":
            house.turns(chance.randrange(1, 30))
        elif kind == "back":
            house.take_back(name, chance.randrange(8))
        elif kind == "share":
            house.share()
        elif kind == "stop":
            house.stop(name)
        elif kind == "on":
            house.go_on(name)
        elif kind == "change":
            house.change(name, 0, chance.randrange(1, house.shares().length() + 1))
        elif kind == "leave" and chance.random() < 0.4:
            self.gone.append((self.images.pop(name), house.leave(name)))
        elif kind == "replace" and chance.random() < 0.4:
            image = self.images[name]
            end = chance.randrange(house.core(name).time() + 1)
            house.replace(name, guest_of(run_alone(image, house.log(name), end=end)))
        return None


class AloneTest(Case):
    def look(self, keeper):
        house = keeper.house
        for name, image in keeper.images.items():
            machine = alone(image, house.log(name), house.core(name))
            self.assertEqual(house.trail(name), machine.trail())
            self.assertEqual((house.core(name), house.rooms_of(name)), (machine.core(), machine.store().rooms()))
            held = set(house.core(name).due()) & set(house.queue().of(name))
            self.assertEqual(house.is_held(name), bool(held))
            self.assertEqual(house.is_ready(name), house.core(name).state() == "runs" and not held
                             and not house.is_stopped(name))
            self.assertLessEqual(set(house.queue().of(name)), {ask[0] for ask in house.core(name).asks()})
        rooms = house.rooms()
        self.assertEqual(rooms.in_use(), [at for at in range(rooms.how_many()) if rooms.lying(at)])
        self.assertEqual((rooms.names(), house.shares().names()), (house.names(),) * 2)

    def test_each_guest_runs_as_if_it_were_alone(self):
        steps = 0
        for seed in range(90):
            chance = chance_of(seed)
            keeper = Keeper(chance, House(chance.choice([1, 2, 3, 5, 9, 64]), length=chance.choice([4, 7, 12, 60])))
            for _ in range(50):
                keeper.deed()
                if chance.random() < 0.2:
                    self.look(keeper)
                if chance.random() < 0.05:
                    keeper.house = keeper.house.twin()
            self.look(keeper)
            steps += len([1 for _, row in keeper.house.passed() if row is not None])
        self.assertGreater(steps, 5000)

    def test_what_the_turns_told_is_what_the_trails_have(self):
        for seed in range(30):
            chance = chance_of(seed)
            keeper = Keeper(chance, House(chance.choice([1, 4, 20])))
            for name in SIX[:4]:
                keeper.images[name] = some_image(chance)
                keeper.house.come(name, keeper.images[name])
            house = keeper.house
            house.turns(200)
            for name in SIX[:4]:
                self.assertEqual([row for who, row in house.passed() if who == name and row], house.trail(name))
                self.assertEqual([at for at, (who, row) in enumerate(house.passed()) if who == name and row],
                                 house.stepped(name))
            self.assertEqual([who for who, _ in house.passed()], house.shares().dealt())

    def test_shares_are_kept(self):
        for seed in range(30):
            chance = chance_of(seed)
            house, guests = House(5, length=10), {}
            for name in SIX:
                promise = chance.randrange(min(4, 10 - house.shares().promised()) + 1)
                guests[name] = (promise, chance.randrange(max(1, promise), 11))
                house.come(name, some_image(chance), promise=promise, ceiling=guests[name][1])
            ready = []
            for _ in range(100):
                # The queue serves ahead of the dealing, so that one held by its first ask is ready then.
                served = house.queue()
                served.serve()
                ready.append([name for name in SIX if self.would_be_ready(house, served, name)])
                house.turns(1)
            self.assertIsNone(first_broken(10, guests, ready, house.shares().dealt()))

    def would_be_ready(self, house, queue, name):
        held = set(house.core(name).due()) & set(queue.of(name))
        return house.core(name).state() == "runs" and not held

    def test_no_guest_learns_of_the_others(self):
        seen = 0
        for seed in range(60):
            chance = chance_of(seed)
            image, log = some_image(chance), any_log(chance, 10, 60)
            told = []
            for _ in range(2):
                house = House(chance.choice([1, 3, 30]), length=chance.choice([4, 9]))
                for name in SIX[:chance.randrange(6)]:
                    house.come(name, some_image(chance), promise=0)
                house.come("me", image)
                come = 0
                for _ in range(250):
                    while come < len(log) and log[come][0] <= house.core("me").time() and (
                            house.core("me").state() in ("runs", "idle")):
                        house.arrive("me", *log[come][1:])
                        come += 1
                    house.turns(1)
                    house.share()
                told.append((house.core("me").time(), house.trail("me"), house.log("me")))
            time = min(told[0][0], told[1][0])
            one, other = [[row for row in trail if row[0] < time] for _, trail, _ in told]
            self.assertEqual(one, other)
            seen += len(one)
        self.assertGreater(seen, 400)

    def test_with_all_names_called_otherwise_all_is_told_likewise(self):
        for seed in range(20):
            told = []
            for names in (SIX, ["zoe", "y", "xxxxxxxx", "w", "v", "u"]):
                keeper = Keeper(chance_of(seed), House(4))
                other = dict(zip(SIX, names))
                house = keeper.house
                for name in SIX:
                    house.come(other[name], some_image(keeper.chance))
                for _ in range(20):
                    house.turns(keeper.chance.randrange(1, 20))
                    house.take_back(other[keeper.chance.choice(SIX)], 0)
                    house.share()
                back = {new: old for old, new in other.items()}
                told.append(([(back.get(name), row) for name, row in house.passed()],
                             [(house.core(other[name]), house.trail(other[name])) for name in SIX],
                             house.rooms().in_use()))
            self.assertEqual(told[0], told[1])

    def test_made_alike_told_alike(self):
        one, other = [Keeper(chance_of(7), House(3)) for _ in range(2)]
        for _ in range(80):
            one.deed()
            other.deed()
        self.assertEqual(everything(one.house), everything(other.house))
