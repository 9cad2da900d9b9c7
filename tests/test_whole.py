"""Points 8 and 9, sentence by sentence, over the whole program."""

from guestsalone.deeds import history_text, replayed
from guestsalone.errors import Barred, GuestError, Missing
from guestsalone.house import House
from guestsalone.moves import Move
from guestsalone.papers import pair_told
from guestsalone.shares import first_broken
from guestsalone.snapshots import cloned, put_back, run_on, snapshot_of
from guestsalone.snaptext import guest_text, read_guest
from guestsalone.world import World
from tests.chance import chance_of, lively_image, some_image
from tests.helpers import NOUGHTS, Case
from tests.test_rooms import SIX
from tests.test_world_runs import speaking_image
from tests.worlds import SEVEN, THREE, TWO, Ruler, everything, moved, oracle_of


class Keeper:
    """Does by chance all that may be done with two Houses and their guests."""

    def __init__(self, chance):
        self.chance = chance
        self.houses = [House(chance.choice([1, 3, 8, 30]), length=chance.choice([4, 9, 12])) for _ in range(2)]
        self.images = {}
        self.snapshots = []
        self.move = None

    def where(self, name):
        return [house for house in self.houses if name in house.names()]

    def deed(self):
        """Some deed, unless it is refused."""
        chance = self.chance
        name, house = chance.choice(SIX), chance.choice(self.houses)
        there = self.where(name)
        moving = self.move is not None and self.move.phase() not in ("done", "off")
        kind = chance.choice(["turns"] * 5 + ["come", "arrive", "arrive", "back", "share", "snapshot", "clone", "put",
                                              "move", "on"] + ["road"] * (12 if moving else 0))
        try:
            if kind == "turns":
                house.turns(chance.randrange(1, 12))
                if self.move is not None:
                    self.move.look()
            elif kind == "come" and not there and not moving:
                self.images[name] = some_image(chance)
                house.come(name, self.images[name], promise=chance.randrange(2))
            elif kind == "road":
                self.road()
            elif there:
                self.with_guest(kind, name, there[0], moving)
        except (GuestError, Missing, Barred):
            return

    def with_guest(self, kind, name, house, moving):
        chance = self.chance
        if kind == "arrive" and house.core(name).state() in ("runs", "idle"):
            house.arrive(name, "net", chance.randrange(4096))
        elif kind == "back":
            house.take_back(name, chance.randrange(8))
        elif kind == "share":
            house.share()
        elif kind == "snapshot":
            self.snapshots.append((name, self.images[name], snapshot_of(house, name)))
        elif kind == "put" and not moving:
            for other, image, guest in self.snapshots[-3:]:
                if other == name and image == self.images[name]:
                    put_back(house, name, guest)
        elif kind == "clone" and not moving and self.snapshots:
            _, image, guest = chance.choice(self.snapshots)
            other = chance.choice(SIX)
            if not self.where(other):
                cloned(house, guest, other, promise=0)
                self.images[other] = image
        elif kind == "on" and not moving:
            guest = house.snapshot(name)
            put_back(house, name, run_on(guest, end=min(20000, guest.core().time() + chance.randrange(9))))
        elif kind == "move" and not moving:
            goal = self.houses[1 - self.houses.index(house)]
            self.move = Move(house, goal, name, most=8, patience=chance.choice([3, 60]), promise=0)

    def road(self):
        move, letters = self.move, self.move.letters()
        if letters and self.chance.random() < 0.85:
            self.chance.choice([move.come] * 9 + [move.lose, move.double])(self.chance.choice(letters)[0])
        else:
            self.chance.choice([move.one_round, move.one_round, move.stop, move.again])()


class WholeTest(Case):
    def test_each_run_is_that_of_the_plain_machine(self):
        rows = 0
        for seed in range(60):
            keeper = Keeper(chance_of(seed))
            for at in range(120):
                keeper.deed()
                if at % 12 == 0:
                    self.look(keeper)
            self.look(keeper)
            rows += sum(len(house.trail(name)) for house in keeper.houses for name in house.names())
        self.assertGreater(rows, 4000)

    def look(self, keeper):
        for house in keeper.houses:
            for name in house.names():
                core = house.core(name)
                alone = oracle_of(keeper.images[name], house.log(name), core)
                self.assertEqual((house.trail(name), core.told(), core.sent()), (alone.trail, alone.told, alone.sent))
                self.assertEqual(house.rooms_of(name), tuple(map(tuple, alone.rooms)))
                self.assertEqual(core.stands()[:8] + core.stands()[9:], alone.stands()[:8] + alone.stands()[9:])
            rooms = house.rooms()
            lying = [number for number in range(rooms.how_many()) if rooms.lying(number)]
            self.assertEqual(rooms.in_use(), lying)
        for name in keeper.images:
            self.assertLessEqual(len(keeper.where(name)), 1)

    def test_no_guest_learns_of_another_one(self):
        alike, steps = 0, 0
        for seed in range(40):
            chance = chance_of(seed)
            image = lively_image(chance)
            says = {chance.randrange(40): chance.choice("ab") for _ in range(4)}
            both = [self.lonely(chance, image, says, others) for others in (0, chance.randrange(1, 6))]
            told = pair_told(*[history_text(world) for world in both], "me")
            houses = [world.house(world.where("me")) for world in both]
            time = min(house.core("me").time() for house in houses)
            if told[0] == "log":
                # Its own words came back to it, at other own times: it is told the same up to then.
                unlike = [house.log("me")[told[1]:told[1] + 1] for house in houses]
                time = min(row[0] for rows in unlike for row in rows)
            one, other = [[row for row in house.trail("me") if row[0] < time] for house in houses]
            self.assertEqual(one, other)
            alike, steps = alike + (told == ("alike", len(one))), steps + len(one)
        self.assertGreater(alike, 25)
        self.assertGreater(steps, 500)

    def lonely(self, chance, image, says, others):
        """A world in which signs are said to one guest at certain own times, whatever the others do."""
        world = World([("east", chance.randrange(1, 20), chance.randrange(4, 20)), ("west", 5, 5)])
        for port, name in enumerate(SIX[:others], start=1):
            world.come("east", name, some_image(chance), port=port, promise=0)
        world.come("east", "me", image, port=0)
        said = set()
        for _ in range(250):
            core = world.house("east").core("me")
            for time in sorted(says):
                if time <= core.time() and time not in said and core.state() in ("runs", "idle"):
                    said.add(time)
                    world.say("me", says[time])
            world.turns("east")
        if chance.random() < 0.5:
            world.keep("me", whole=True)
            world.fall("east")
            world.come_up("me", "west")
            world.turns("west", 20)
        return world

    def test_a_step_changes_no_other_guest(self):
        changed = 0
        for seed in range(25):
            chance = chance_of(seed)
            house = House(chance.choice([1, 2, 5, 20]))
            for name in SIX[:4]:
                house.come(name, some_image(chance))
            for _ in range(80):
                before = {name: (house.rooms_of(name), house.core(name), house.log(name)) for name in house.names()}
                (who, _), = house.turns(1)
                if chance.random() < 0.2:
                    house.share()
                for name in house.names():
                    behind = (house.rooms_of(name), house.core(name), house.log(name))
                    if name != who:
                        self.assertEqual(behind, before[name])
                    changed += behind[0] != before[name][0]
        self.assertGreater(changed, 50)

    def test_a_room_that_is_given_again_shows_nothing_of_what_was_in_it(self):
        for seed in range(40):
            chance = chance_of(seed)
            house = House(1)
            house.come("ann", some_image(chance))
            house.turns(chance.randrange(1, 30))
            house.leave("ann")
            house.come("bob", (((NOUGHTS,) * 8), ((NOUGHTS,) * 8)))
            rooms = house.rooms()
            self.assertEqual(rooms.rooms_of("bob"), (NOUGHTS,) * 8)
            rooms.write_cell("bob", 3, 2, 7)
            self.assertEqual(rooms.words("bob", 3), [0, 0, 7, 0, 0, 0, 0, 0])
            self.assertEqual([rooms.read_cell("bob", 3, cell) for cell in range(8)], [0, 0, 7, 0, 0, 0, 0, 0])

    def test_promised_shares_and_ceilings(self):
        for seed in range(25):
            chance = chance_of(seed)
            length = chance.randrange(4, 13)
            world, guests = World([("east", 6, length), ("west", 1, 4)]), {}
            for port, name in enumerate(SIX):
                promise = chance.randrange(min(3, length - sum(share[0] for share in guests.values())) + 1)
                guests[name] = (promise, chance.randrange(max(1, promise), length + 1))
                world.come("east", name, speaking_image(chance), port=port, promise=promise, ceiling=guests[name][1])
            ready, dealt = [], []
            for _ in range(120):
                # Who is ready at a turn is told by a twin whose queue served as it will.
                house = world.twin().house("east")
                queue = house.queue()
                queue.serve()
                ready.append([name for name in SIX if house.core(name).state() == "runs"
                              and not set(house.core(name).due()) & set(queue.of(name))])
                dealt.append(world.turns("east")[0][0])
            self.assertIsNone(first_broken(length, guests, ready, dealt))
            self.assertGreater(len([name for name in dealt if name]), 10)

    def test_a_snapshot_put_back_goes_on_as_the_guest_would_have(self):
        asked = 0
        for seed in range(60):
            chance = chance_of(seed)
            image = lively_image(chance)
            house = House(chance.choice([1, 5, 20]))
            house.come("ann", image)
            house.come("bob", some_image(chance))
            house.turns(chance.randrange(1, 90))
            guest = snapshot_of(house, "ann")
            if chance.random() < 0.5:
                read = read_guest(guest_text(guest))
                self.assertEqual((read.core(), read.rooms(), read.log()), (guest.core(), guest.rooms(), guest.log()))
            house.turns(60)
            would = (house.trail("ann"), house.core("ann").blocks(), house.core("ann").asks_done())
            time = house.core("ann").time()
            put_back(house, "ann", guest)
            self.assertEqual(house.queue().of("ann"), [ask[0] for ask in guest.core().asks()])
            while house.core("ann").time() < time and house.core("ann").state() not in ("idle", "ended", "fell"):
                house.turns(1)
            self.assertEqual(house.trail("ann")[:len(would[0])], would[0][:len(house.trail("ann"))])
            if house.core("ann").time() == time:
                self.assertEqual((house.trail("ann"), house.core("ann").blocks(), house.core("ann").asks_done()), would)
            asked += len(guest.core().asks())
            done = [row[3][0] for row in house.trail("ann") if row[1] == "asked" and row[3] is not None]
            self.assertEqual(done, list(range(len(done))))
        self.assertGreater(asked, 10)

    def test_a_move_loses_and_doubles_nothing(self):
        for seed in range(40):
            chance = chance_of(seed)
            image = lively_image(chance)
            world = World(THREE)
            world.come("east", "me", image, port=0)
            world.come("east", "other", speaking_image(chance), port=1)
            for goal in ("west", "north", "east", "west"):
                world.turns(world.where("me"), chance.randrange(1, 20))
                if world.house(world.where("me")).core("me").state() in ("runs", "idle"):
                    world.say("me", chance.choice(["", "a", "bc"]))
                source = world.where("me")
                before = world.house(source).snapshot("me") if goal != source else None
                if before is None:
                    continue
                moved(world, "me", goal, most=8, patience=5)
                self.assertEqual((world.where("me"), "me" in world.house(source).names()), (goal, False))
                self.assertTrue(world.house(goal).snapshot("me") == before)

    def test_the_stop_is_at_most_the_told_one_or_all_is_as_before(self):
        for patience in (1, 4, 9):
            world = World(TWO)
            world.come("east", "me", lively_image(chance_of(3)), port=0)
            world.turns("east", 5)
            other = world.twin()
            world.move("me", "west", most=8, patience=patience)
            world.move_deed("me", "stop")
            world.turns("east", patience)
            self.assertEqual((world.phase("me"), len(world.house("east").trail("me"))), ("stopped", 5))
            world.turns("east", 1)
            self.assertEqual((world.phase("me"), world.where("me")), (None, "east"))
            self.assertTrue(world.house("east").snapshot("me") == other.house("east").snapshot("me"))
            world.turns("east", 20)
            other.turns("east", 20)
            self.assertEqual(world.house("east").trail("me"), other.house("east").trail("me"))

    def test_when_a_house_falls_all_that_was_told_as_kept_stands(self):
        for seed in range(40):
            ruler = Ruler(chance_of(7000 + seed), houses=TWO, images=speaking_image)
            for _ in range(60):
                ruler.deed()
            world = ruler.world
            told = [(name, world.kept(name), world.told(name)) for name in world.names()]
            posted = [world.posted(port) for port in range(8)]
            for house in world.standing():
                world.fall(house)
            self.assertEqual([(name, world.kept(name), world.told(name)) for name in world.names()], told)
            self.assertEqual([world.posted(port) for port in range(8)], posted)
            world.rise("east")
            for name in world.names()[:6]:
                world.come_up(name, "east", promise=0)
                house = world.house("east")
                alone = oracle_of(ruler.images[name], house.log(name), house.core(name))
                self.assertEqual((house.core(name).time(), house.trail(name)), (world.kept(name)[0], alone.trail))
            world.turns("east", 60)
            for name in world.names()[:6]:
                house = world.house("east")
                alone = oracle_of(ruler.images[name], house.log(name), house.core(name))
                self.assertEqual(house.trail(name), alone.trail)

    def test_a_history_that_is_written_and_read_back_replays_the_whole(self):
        for seed in range(8):
            ruler = Ruler(chance_of(8000 + seed), images=speaking_image)
            for _ in range(120):
                ruler.deed()
            text = history_text(ruler.world)
            self.assertEqual(everything(replayed(text)), everything(ruler.world))
            self.assertEqual(history_text(replayed(text)), text)

    def test_with_all_names_called_otherwise_all_is_told_likewise(self):
        names = ["zoe", "y", "xxxxxxxx", "w", "east", "u", "west"]
        for seed in range(8):
            told = []
            for called in (SEVEN, names):
                ruler = Ruler(chance_of(9000 + seed), houses=TWO, images=speaking_image, names=called)
                for _ in range(80):
                    ruler.deed()
                world = ruler.world
                told.append([(world.where(name), world.phase(name), world.told(name), world.kept(name))
                             for name in called[:len(world.names())]])
            self.assertEqual(told[0], told[1])
