"""Points 111 to 117, and 8: worlds in which all deeds are done by chance."""

from guestsalone.deeds import do, history_text, read_history, replayed
from guestsalone.errors import Barred, GuestError, Missing
from guestsalone.world import World
from tests.chance import chance_of, lively_image
from tests.helpers import Case
from tests.worlds import SEVEN, THREE, TWO, Ruler, answerer, everything, oracle_of, sender


def speaking_image(chance):
    """A lively one, or one that speaks with others."""
    if chance.random() < 0.5:
        return lively_image(chance)
    return chance.choice([sender, answerer])(chance.randrange(8))


class RunsTest(Case):
    def look(self, ruler):
        """What holds at each moment."""
        world = ruler.world
        houses = {house: world.house(house) for house in world.standing()}
        self.assertEqual([world.posted(port) for port in range(8)], ruler.posted)
        for name in world.names():
            there = [house for house in houses if name in houses[house].names()]
            self.assertEqual(there, [world.where(name)] if world.where(name) else [])
            self.assertEqual(world.kept(name), ruler.kept[name])
            time, log, told, sent, come = world.kept(name)
            as_kept = oracle_of(ruler.images[name], log, Ended(time))
            self.assertEqual(world.told(name), as_kept.told)
            self.assertEqual((len(as_kept.told), len(as_kept.sent)), (told, sent))
            self.assertEqual([word for _, kind, word in log if kind == "net"],
                             world.posted(world.port(name))[:come])
            for house in there:
                self.look_at(ruler, houses[house], name)

    def look_at(self, ruler, house, name):
        """A guest in a house runs as if it were alone, and the words posted for it came in order."""
        core, log = house.core(name), house.log(name)
        alone = oracle_of(ruler.images[name], log, core)
        self.assertEqual(house.trail(name), alone.trail)
        self.assertEqual(house.rooms_of(name), tuple(map(tuple, alone.rooms)))
        self.assertEqual((core.told(), core.sent(), core.stands()), (alone.told, alone.sent, alone.stands()))
        came = [word for _, kind, word in log if kind == "net"]
        self.assertEqual(came, ruler.world.posted(ruler.world.port(name))[:len(came)])

    def test_each_guest_runs_as_if_it_were_alone(self):
        told, whole, refused, came = 0, 0, 0, 0
        for seed in range(50):
            ruler = Ruler(chance_of(seed), images=speaking_image)
            words = {}
            for at in range(240):
                ruler.deed()
                if at % 25 == 0:
                    self.look(ruler)
                for name in ruler.world.names():
                    before = words.get(name, [])
                    self.assertEqual(ruler.world.told(name)[:len(before)], before)
                    words[name] = ruler.world.told(name)
            self.look(ruler)
            told += sum(map(len, words.values()))
            came += sum(ruler.world.kept(name)[4] for name in ruler.world.names())
            whole, refused = whole + ruler.whole, refused + ruler.refused
        self.assertGreater(told, 1200)
        self.assertGreater(came, 500)
        self.assertGreater(whole, 60)
        self.assertGreater(refused, 1000)

    def test_histories_replay_the_whole(self):
        for seed in range(12):
            ruler = Ruler(chance_of(1000 + seed), images=speaking_image)
            then = []
            for _ in range(60):
                if ruler.deed() is not None:
                    then.append(everything(ruler.world))
            text = history_text(ruler.world)
            houses, deeds = read_history(text)
            self.assertEqual((houses, deeds), (ruler.world.made(), ruler.world.deeds()))
            self.assertEqual(everything(replayed(text)), then[-1])
            other = World(houses)
            for at, deed in enumerate(deeds):
                do(other, deed)
                self.assertEqual(everything(other), then[at])
                if at % 9 == 0:
                    self.assertEqual(everything(replayed(history_text(other))), then[at])

    def test_a_replayed_world_goes_on_alike(self):
        for seed in range(10):
            ruler = Ruler(chance_of(2000 + seed), images=speaking_image)
            for _ in range(80):
                ruler.deed()
            others = [ruler.world.twin(), replayed(history_text(ruler.world)), ruler.world.twin().twin()]
            for _ in range(40):
                deed = ruler.any_deed()
                told = [self.outcome(world, deed) for world in others]
                self.assertEqual(told, [self.outcome(ruler.world, deed)] * 3)
                self.assertEqual([everything(world) for world in others], [everything(ruler.world)] * 3)

    def outcome(self, world, deed):
        try:
            return do(world, deed)
        except (GuestError, Missing, Barred) as refusal:
            return type(refusal), vars(refusal)

    def test_a_twin_goes_its_own_way(self):
        for seed in range(25):
            ruler = Ruler(chance_of(3000 + seed), images=speaking_image)
            for _ in range(30 + 4 * seed):
                ruler.deed()
            first, before = ruler.world, everything(ruler.world)
            ruler.world = first.twin()
            self.assertEqual(everything(ruler.world), before)
            for _ in range(40):
                ruler.deed()
            self.assertEqual(everything(first), before)
            behind = everything(ruler.world)
            first.turns(first.standing()[0], 3) if first.standing() else first.rise("east")
            self.assertEqual(everything(ruler.world), behind)

    def test_what_is_refused_changes_nothing(self):
        refused = 0
        for seed in range(10):
            ruler = Ruler(chance_of(4000 + seed), images=speaking_image)
            for _ in range(80):
                before = everything(ruler.world)
                if ruler.deed() is None:
                    self.assertEqual(everything(ruler.world), before)
                    refused += 1
        self.assertGreater(refused, 100)

    def test_with_all_names_called_otherwise_all_is_told_likewise(self):
        names = ["zoe", "y", "xxxxxxxx", "w", "east", "u", "west"]
        for seed in range(12):
            one = Ruler(chance_of(5000 + seed), houses=THREE, images=speaking_image)
            other = Ruler(chance_of(5000 + seed), houses=[("zz", 6, 12), ("ann", 4, 8), ("b", 64, 60)],
                          images=speaking_image, names=names)
            called = dict(zip([name for name, _, _ in THREE] + SEVEN, ["zz", "ann", "b"] + names))
            for _ in range(80):
                one.deed()
                other.deed()
            self.assertEqual(self.renamed(everything(one.world), called), everything(other.world))
            self.assertGreater(len(one.world.deeds()), 30)

    def renamed(self, thing, called):
        """All names in what was told called otherwise."""
        if isinstance(thing, (list, tuple)):
            if thing[:1] == ("say",):
                return thing[:1] + (called[thing[1]],) + thing[2:]
            return type(thing)(self.renamed(part, called) for part in thing)
        return called.get(thing, thing) if isinstance(thing, str) else thing

    def test_made_alike_told_alike(self):
        for houses in (TWO, THREE):
            one, other = [Ruler(chance_of(7), houses=houses) for _ in range(2)]
            for _ in range(100):
                self.assertEqual(one.deed(), other.deed())
            self.assertEqual(everything(one.world), everything(other.world))


class Ended:
    """A core of which just its time is asked."""

    def __init__(self, time):
        self.at = time

    def time(self):
        return self.at

    def state(self):
        return "runs"
