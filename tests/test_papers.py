"""Points 131 to 134: trails walked, runs that part, and stops."""

from guestsalone.core import Core
from guestsalone.deeds import history_text
from guestsalone.errors import NoGuest, NoHouse, NoImage, NoLog, NoRow, NotKept, NoText
from guestsalone.house import Guest, House
from guestsalone.papers import greatest_stop, pair_told, parted, stops_of, walked
from guestsalone.plain import run_alone
from guestsalone.snapshots import put_back, snapshot_of
from guestsalone.world import World
from tests.chance import any_image, any_log, chance_of, lively_image, some_image
from tests.helpers import GREATEST, NO_ROOMS, Case, op
from tests.test_guest import ASKER
from tests.test_house import WRITER, house_of
from tests.test_images import EMPTY, NO_IMAGES
from tests.test_plain import ECHO, LOOP, NO_LOGS, image_with
from tests.test_rooms import NO_NAMES, SIX
from tests.test_snapshots import NO_HOUSES
from tests.worlds import TWO, world_of

HALT = image_with([op("set", 0, 5), op("halt")])
SENDS = image_with([op("set", 1, 5), op("out", 1, 1), op("out", 1, 3), op("time", 0), op("wait"), op("halt")])


class WalkedTest(Case):
    def test_a_run_as_it_is(self):
        for seed in range(60):
            chance = chance_of(seed)
            image, log = chance.choice([any_image, some_image])(chance), any_log(chance)
            trail = run_alone(image, log, end=300).trail()
            self.assertIsNone(walked(image, log, trail))
            self.assertIsNone(walked(image, tuple(log), tuple(trail[:7])))
            for at in {0, len(trail) // 2, len(trail) - 1} if trail else ():
                for other in ((trail[at][0] + 1,) + trail[at][1:], trail[at][:1] + ("other",) + trail[at][2:], None):
                    self.assertEqual(walked(image, log, trail[:at] + [other] + trail[at + 1:]), at)
                # No two rows have the same time.
                self.assertEqual(walked(image, log, trail[:at] + trail[at:at + 1] + trail[at:]), at + 1)
                if at + 1 < len(trail):
                    self.assertEqual(walked(image, log, trail[:at] + trail[at + 1:]), at)

    def test_no_rows_and_more_than_the_run_has(self):
        self.assertIsNone(walked(ECHO, (), []))
        self.assertIsNone(walked(image=ECHO, log=(), trail=()))
        trail = run_alone(HALT).trail()
        self.assertIsNone(walked(HALT, (), trail))
        for more in (None, trail[-1], (2, "step", 2, None), "x"):
            self.assertEqual(walked(HALT, (), trail + [more]), 2)
        # An idle machine is over, whatever would come later.
        self.assertEqual(walked(ECHO, [(5, "line", 1)], [(0, "waited", 0, 1)]), 0)
        self.assertIsNone(walked(ECHO, [(0, "line", 1)], [(0, "waited", 0, 1)]))

    def test_however_long_it_runs(self):
        waiter = image_with([op("out", 0, 3), op("wait"), op("wait"), op("jump", 0, 0)])
        trail = run_alone(waiter, end=20000).trail()[:2400]
        self.assertEqual(len(trail), 2400)
        self.assertIsNone(walked(waiter, (), trail))
        self.assertGreater(trail[-1][0], 4000)
        # What comes late makes the run another one, from then on.
        log = [(trail[2000][0], "line", 7)]
        self.assertIsNone(walked(waiter, log, trail[:2001]))
        self.assertEqual(walked(waiter, log, trail), 2001)

    def test_2400_things_and_one_more(self):
        trail = [(at, "step", 0, None) for at in range(2400)]
        image = image_with([op("jump", 0, 0)])
        self.assertIsNone(walked(image, (), trail))
        trail[2399] = None
        self.assertEqual(walked(image, (), trail), 2399)
        trail.append(None)
        self.refused_found(NoLog, trail, walked, image, (), trail)

    def test_truths_and_lists_stand_for_no_numbers_and_tuples(self):
        trail = run_alone(SENDS, end=100).trail()
        self.assertEqual([row[1] for row in trail], ["step", "sent", "asked", "clock", "waited", "ended"])
        for at, row in enumerate(trail):
            things = [list(row), row[:3], row + (None,), row[:3] + ((row[3],),), None, "row", at, True, {}, []]
            for part in range(4):
                for other in (True, False, None, "", "step", [], (), [row[part]], GREATEST):
                    if other is not row[part] and (other != row[part] or isinstance(other, bool)):
                        things.append(row[:part] + (other,) + row[part + 1:])
            if isinstance(row[3], tuple):
                things.extend([row[:3] + (list(row[3]),), row[:3] + (row[3] + (0,),), row[:3] + (row[3][:-1],),
                               row[:3] + (row[3][:-1] + (False,),), row[:3] + ((True,) + row[3][1:],)])
            for thing in things:
                self.assertEqual(walked(SENDS, (), trail[:at] + [thing] + trail[at + 1:]), at, thing)
        # Here 0 and 1 stand in the rows themselves.
        self.assertEqual(walked(LOOP, (), [(False, "step", 0, None)]), 0)
        self.assertEqual(walked(LOOP, (), [(0, "step", False, None)]), 0)
        self.assertEqual(walked(LOOP, (), [(0, "step", 0, None), (True, "step", 1, None)]), 1)
        self.assertEqual(walked(EMPTY, (), [(0, "trap", 0, True)]), 0)
        self.assertIsNone(walked(EMPTY, (), [(0, "trap", 0, 1)]))

    def test_objects_of_the_package_are_no_rows(self):
        for thing in (Core(NO_ROOMS), House(1), run_alone(LOOP)):
            self.assertEqual(walked(LOOP, (), [thing]), 0)
            self.assertEqual(walked(LOOP, (), [(thing, "step", 0, None)]), 0)
            self.assertEqual(walked(LOOP, (), [(0, thing, 0, None)]), 0)

    def test_refusals_in_their_order(self):
        for thing in NO_IMAGES:
            self.refused_found(NoImage, thing, walked, thing, None, None)
        for thing in NO_LOGS:
            self.refused_found(NoLog, thing, walked, LOOP, thing, None)
        for thing in (None, True, 0, GREATEST, "", "rows", {}, {0: 1}, Core(NO_ROOMS)):
            self.refused_found(NoLog, thing, walked, LOOP, (), thing)

    def test_what_is_handed_in_stays(self):
        log, trail = [(0, "line", 5)], [(0, "waited", 0, 1), 5]
        self.assertEqual(walked(ECHO, log, trail), 1)
        self.assertEqual((log, trail), ([(0, "line", 5)], [(0, "waited", 0, 1), 5]))


class PartedTest(Case):
    def test_alike(self):
        house, other = house_of(("ann", LOOP), ("bob", LOOP)), house_of(("cid", LOOP))
        self.assertEqual(parted(house, "ann", other, "cid"), ("alike", 0))
        house.turns(7)
        other.turns(9)
        self.assertEqual(parted(house, "ann", other, "cid"), ("alike", 4))
        self.assertEqual(parted(house=other, name="cid", other=house, other_name="bob"), ("alike", 3))
        self.assertEqual(parted(house, "ann", house, "bob"), ("alike", 3))
        self.assertEqual(parted(house, "ann", house, "ann"), ("alike", 4))

    def test_parted(self):
        house = house_of(("ann", LOOP), ("bob", HALT), ("cid", ECHO))
        house.arrive("cid", "line", 1)
        house.turns(12)
        self.assertEqual(parted(house, "ann", house, "bob"), ("parted", 1, (1, "step", 1, None), (1, "ended", 1, None)))
        self.assertEqual(parted(house, "bob", house, "ann"), ("parted", 1, (1, "ended", 1, None), (1, "step", 1, None)))
        self.assertEqual(parted(house, "cid", house, "ann"), ("parted", 0, (0, "waited", 0, 1), (0, "step", 0, None)))

    def test_the_least_number(self):
        house, other = house_of(("ann", ECHO)), house_of(("ann", ECHO))
        for told, word in ((house, 5), (other, 6)):
            told.arrive("ann", "line", 7)
            told.turns(4)
            told.arrive("ann", "line", word)
            told.turns(8)
        self.assertEqual(parted(house, "ann", other, "ann"), ("parted", 5, (5, "read", 1, 5), (5, "read", 1, 6)))

    def test_refusals_in_their_order(self):
        house, empty = house_of(("ann", LOOP)), House(1)
        for thing in NO_HOUSES:
            self.refused_found(NoHouse, thing, parted, thing, None, None, None)
            self.refused_found(NoHouse, thing, parted, house, "ann", thing, None)
        for thing in NO_NAMES + ["bob"]:
            self.refused_found(NoGuest, thing, parted, house, thing, None, None)
            self.refused_found(NoGuest, thing, parted, house, "ann", house, thing)
        self.refused_found(NoGuest, "ann", parted, house, "ann", empty, "ann")


class PairTest(Case):
    def pair(self, *both, name="ann"):
        return pair_told(*[history_text(world) for world in both], name)

    def told_in(self, image=ECHO, houses=None, others=(), says=(), turns=60):
        """A world in which words were said to ann, each behind so many turns."""
        world = World(houses or TWO)
        for port, (name, other) in enumerate(others, start=1):
            world.come("east", name, other, port=port)
        world.come("east", "ann", image, port=0)
        for many, text in says:
            if many:
                world.turns("east", many)
            world.say("ann", text)
        if turns:
            world.turns("east", turns)
        return world

    def test_alike(self):
        one = self.told_in(says=[(0, "ab")], others=[("bob", LOOP)], turns=30)
        other = self.told_in(says=[(0, "ab")], turns=9, houses=[("east", 1, 60), ("b", 1, 4)])
        times = [world.house("east").core("ann").time() for world in (one, other)]
        many = len([row for row in one.house("east").trail("ann") if row[0] < min(times)])
        self.assertEqual(self.pair(one, other), ("alike", many))
        self.assertEqual(self.pair(other, one), ("alike", many))
        self.assertGreater(many, 5)
        self.assertEqual(pair_told(text=history_text(one), other=history_text(one), name="ann")[0], "alike")

    def test_unlike_images(self):
        self.assertEqual(self.pair(self.told_in(), self.told_in(image=LOOP)), ("image",))
        changed = image_with([op("wait"), op("in", 0, 0), op("out", 0, 0), op("jump", 0, 0)], blocks={7: [0] * 7 + [1]})
        self.assertEqual(self.pair(self.told_in(), self.told_in(image=changed, says=[(0, "a")])), ("image",))

    def test_unlike_arrivals(self):
        for says, number in (([(0, "ax")], 1), ([(0, "b")], 0), ([(0, "a")], 1), ([], 0), ([(0, "abc")], 2)):
            one, other = self.told_in(says=[(0, "ab")]), self.told_in(says=says)
            time = min(world.house("east").core("ann").time() for world in (one, other))
            told = ("log", number) if time else ("alike", 0)
            self.assertEqual(self.pair(one, other), told)
            self.assertEqual(self.pair(other, one), told)

    def test_the_same_word_at_another_time_or_of_another_kind(self):
        one = self.told_in(image=LOOP, says=[(3, "a"), (4, "b")])
        other = self.told_in(image=LOOP, says=[(3, "a"), (5, "b")])
        self.assertEqual(self.pair(one, other), ("log", 1))
        both = []
        for say in (True, False):
            world = world_of(("east", "ann", LOOP), ("west", "bob", image_with([op("set", 1, 33), op("out", 1, 1)])))
            world.turns("west", 2)
            world.keep("bob")
            world.turns("east", 9) if not say else (world.say("ann", "!"), world.turns("east", 9))
            both.append(world)
        self.assertEqual([world.house("east").log("ann")[0] for world in both], [(0, "line", 33), (0, "net", 33)])
        self.assertEqual(self.pair(*both), ("log", 0))

    def test_own_times_of_0(self):
        one, other = self.told_in(turns=0), self.told_in(says=[(0, "ab")], turns=0)
        self.assertEqual(self.pair(one, other), ("alike", 0))
        self.assertEqual(self.pair(one, self.told_in(says=[(0, "x")], turns=20)), ("alike", 0))

    def test_an_arrival_that_just_one_has_below_both_times_and_at_them(self):
        for at, told in ((7, ("log", 0)), (8, ("alike", 8)), (9, ("alike", 8))):
            one = self.told_in(image=LOOP, turns=8)
            other = self.told_in(image=LOOP, says=[(at, "x")], turns=4)
            self.assertEqual(one.house("east").core("ann").time(), 8)
            self.assertEqual(self.pair(one, other), told)
            self.assertEqual(self.pair(other, one), told)

    def test_an_arrival_at_the_own_time_of_both(self):
        one = self.told_in(image=LOOP, says=[(8, "x")], turns=0)
        other = self.told_in(image=LOOP, says=[(8, "y")], turns=0)
        self.assertEqual(self.pair(one, other), ("alike", 8))

    def test_never_parted(self):
        """With other guests, houses and orders, where the arrivals are alike so are the rows."""
        kinds = {}
        for seed in range(50):
            chance = chance_of(seed)
            image = lively_image(chance)
            says = [(chance.randrange(1, 12), chance.choice(["a", "bc", ""])) for _ in range(3)]
            both = []
            for _ in range(2):
                if chance.random() < 0.2:
                    says = says[:2]
                others = [(name, some_image(chance)) for name in SIX[1:chance.randrange(1, 4)]]
                houses = [("east", chance.randrange(1, 9), chance.randrange(4, 20)), ("b", 1, 4)]
                # Words said at times of the house are alike in own times just where ann is alone.
                both.append(self.told_in(image, houses, others if chance.random() < 0.4 else (), says,
                                         chance.randrange(1, 90)))
            told = self.pair(*both)
            kinds[told[0]] = kinds.get(told[0], 0) + 1
            self.assertIn(told[0], ("alike", "log"))
            self.assertEqual(told[0], self.pair(*both[::-1])[0])
        self.assertGreater(min(kinds["alike"], kinds["log"]), 5)

    def test_in_the_house_where_it_is(self):
        one = self.told_in(says=[(0, "abc")], turns=14)
        other = self.told_in(says=[(0, "abc")], turns=14)
        other.keep("ann")
        other.turns("east", 9)
        other.fall("east")
        other.come_up("ann", "west")
        self.assertEqual(self.pair(one, other), ("alike", 12))

    def test_refusals_in_their_order(self):
        good, empty = history_text(self.told_in()), history_text(World(TWO))
        gone = self.told_in()
        gone.fall("east")
        fallen = history_text(gone)
        for thing in (None, True, 0, GREATEST, [], (good,), {}, World(TWO)):
            self.refused_found(NoText, thing, pair_told, thing, None, None)
            self.refused_found(NoText, thing, pair_told, good, thing, None)
        risen = good + "\nrise east"
        for text, at in (("", 0), (empty + "\nx", 1), (empty + "\nrise east", 1), (risen, len(good.split("\n")))):
            self.refused_row(at, text, None, None)
            self.refused_row(at, good, text, None)
        # The first one is replayed ahead of the second one.
        self.refused_row(1, empty + "\nrise east", "x", None)
        for thing in NO_NAMES + ["bob"]:
            self.refused_found(NoGuest, thing, pair_told, good, good, thing)
            self.refused_found(NoGuest, thing, pair_told, fallen, empty, thing)
        self.refused_found(NoGuest, "ann", pair_told, empty, fallen, "ann")
        self.refused_found(NotKept, "ann", pair_told, fallen, empty, "ann")
        self.refused_found(NotKept, "ann", pair_told, fallen, good, "ann")
        self.refused_found(NoGuest, "ann", pair_told, good, empty, "ann")
        self.refused_found(NotKept, "ann", pair_told, good, fallen, "ann")

    def refused_row(self, at, *args):
        self.refused(NoRow, {"at": at}, pair_told, *args)


class StopsTest(Case):
    def held(self, house, name):
        """The stops, reckoned from all that the turns of the house told."""
        turns = [at for at, (who, row) in enumerate(house.passed()) if who == name and row is not None]
        rows = [row for who, row in house.passed() if who == name and row is not None]
        return [(rows[at][0], turns[at] - turns[at - 1] - 1) for at in range(1, len(turns))
                if turns[at] - turns[at - 1] > 1]

    def test_none_yet_and_idle_ones_alone(self):
        house = house_of(("ann", ECHO))
        self.assertEqual((stops_of(house, "ann"), greatest_stop(house, "ann")), ([], 0))
        house.turns(9)
        self.assertEqual((stops_of(house, "ann"), greatest_stop(house, "ann")), ([], 0))
        house.arrive("ann", "line", 7)
        house.turns(1)
        self.assertEqual((stops_of(house=house, name="ann"), greatest_stop(house=house, name="ann")), ([], 0))
        house.turns(3)
        house.turns(5)
        house.arrive("ann", "line", 7)
        house.turns(1)
        self.assertEqual((stops_of(house, "ann"), greatest_stop(house, "ann")), ([(4, 5)], 5))

    def test_guests_with_unlike_promises(self):
        for seed in range(30):
            chance = chance_of(seed)
            house = House(chance.choice([2, 9, 40]), length=chance.choice([4, 7, 12]))
            for name in SIX[:chance.randrange(2, 6)]:
                left = house.shares().length() - house.shares().promised()
                house.come(name, chance.choice([LOOP, WRITER, ASKER, ECHO, lively_image(chance)]),
                           promise=chance.randrange(min(3, left) + 1))
            for _ in range(30):
                name = chance.choice(house.names())
                chance.choice([house.stop, house.go_on, house.go_on])(name)
                house.turns(chance.randrange(1, 12))
            for name in house.names():
                self.assertEqual(stops_of(house, name), self.held(house, name))
                self.assertEqual(greatest_stop(house, name), max([many for _, many in self.held(house, name)] + [0]))

    def test_since_it_was_put_back_last(self):
        house = house_of(("ann", LOOP), ("bob", LOOP))
        house.turns(8)
        guest = snapshot_of(house, "ann")
        self.assertEqual(stops_of(house, "ann"), [(1, 1), (2, 1), (3, 1)])
        put_back(house, "ann", guest)
        self.assertEqual((stops_of(house, "ann"), greatest_stop(house, "ann")), ([], 0))
        house.turns(7)
        self.assertEqual(stops_of(house, "ann"), [(5, 1), (6, 1), (7, 1)])

    def test_one_that_was_brought_amid(self):
        machine = run_alone(LOOP, end=10)
        guest = Guest(machine.core(), machine.store().rooms(), machine.log(), machine.trail())
        house = house_of(("bob", LOOP), ("cid", LOOP))
        house.turns(9)
        house.bring("ann", guest)
        house.turns(12)
        self.assertEqual(stops_of(house, "ann"), self.held(house, "ann"))
        self.assertGreater(min([time for time, _ in stops_of(house, "ann")]), 10)
        # Also one that came without its trail.
        other = House(4)
        other.come("bob", LOOP)
        other.bring("ann", Guest(machine.core(), machine.store().rooms(), (), ()))
        other.turns(6)
        self.assertEqual(stops_of(other, "ann"), [(11, 1), (12, 1)])

    def test_no_stop_beyond_twice_what_the_length_has_more_than_the_promise(self):
        greatest = 0
        for seed in range(40):
            chance = chance_of(seed)
            length = chance.randrange(4, 16)
            house = House(4, length=length)
            promise = chance.randrange(1, length + 1)
            house.come("ann", LOOP, promise=promise)
            for name in SIX[1:]:
                left = length - house.shares().promised()
                house.come(name, LOOP, promise=chance.randrange(left + 1))
            house.turns(300)
            self.assertLessEqual(greatest_stop(house, "ann"), 2 * (length - promise))
            greatest = max(greatest, greatest_stop(house, "ann"))
        self.assertGreater(greatest, 6)

    def test_told_new_each_time(self):
        house = house_of(("ann", LOOP), ("bob", LOOP))
        house.turns(8)
        stops_of(house, "ann").append(1)
        self.assertEqual((len(stops_of(house, "ann")), type(stops_of(house, "ann")[0])), (3, tuple))

    def test_refusals(self):
        house = house_of(("ann", LOOP))
        for ask in (stops_of, greatest_stop):
            for thing in NO_HOUSES:
                self.refused_found(NoHouse, thing, ask, thing, None)
            for thing in NO_NAMES + ["bob"]:
                self.refused_found(NoGuest, thing, ask, house, thing)
