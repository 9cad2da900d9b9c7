"""Points 114 to 117: moves in a world."""

from guestsalone.deeds import do
from guestsalone.errors import (
    Barred, Fallen, Full, GuestError, Missing, Moving, NoDeed, NoGuest, NoHouse, NoNumber, NotKept, NotMoving, NotOnRoad,
    Standing, TooMuch,
)
from guestsalone.moves import Move
from tests import test_house
from tests.chance import chance_of
from tests.helpers import GREATEST, NOT_NUMBERS, Case, beyond
from tests.test_house import WRITER
from tests.test_plain import ECHO, LOOP
from tests.test_rooms import SIX
from tests.test_world import NO_GUESTS, NO_HOUSES
from tests.worlds import LISTENER, THREE, all_come, everything, moved, oracle_of, sender, world_of

ALONE = ["round", "stop", "again", "off", "look"]
NUMBERED = ["come", "lose", "double"]
NO_WORDS = [None, True, 0, GREATEST, "", "Round", "rounds", "call_off", "one_round", [], ["round"], ("round",), {}]


def in_phase(phase, image=LOOP, houses=THREE):
    """A world whose guest ann is on her way from east to west, in this phase."""
    world = world_of(("east", "ann", image), ("east", "bob", LOOP), ("west", "cid", LOOP), houses=houses)
    world.turns("east", 3)
    world.keep("ann", whole=True)
    world.turns("east", 2)
    world.move("ann", "west", most=8)
    if phase == "rounds":
        return world
    world.move_deed("ann", "round")
    all_come(world, "ann")
    world.move_deed("ann", "stop")
    if phase == "stopped":
        return world
    world.move_deed("ann", "round")
    while world.phase("ann") == "stopped":
        world.move_deed("ann", "come", world.letters("ann")[0][0])
    if phase == "given":
        return world
    # The goal has begun, its `runs` is under way.
    while world.where("ann") is None:
        world.move_deed("ann", "come", world.letters("ann")[0][0])
    if phase == "begun":
        return world
    all_come(world, "ann")
    return world


def words(world):
    return [letter[0] for _, _, letter in world.letters("ann")]


class MoveTest(Case):
    def test_it_sets_out(self):
        world = world_of(("east", "ann", LOOP))
        before = [test_house.everything(world.house(house)) for house in world.houses()]
        self.assertIsNone(world.move("ann", "west"))
        self.assertEqual((world.phase("ann"), world.letters("ann"), world.where("ann")), ("rounds", [], "east"))
        self.assertEqual([test_house.everything(world.house(house)) for house in world.houses()], before)
        self.assertEqual(world.deeds()[-1], ("move", "ann", "west", 2, 8, 1, None))

    def test_by_names(self):
        world = world_of(("east", "ann", LOOP))
        world.move(name="ann", house="west", most=0, patience=60, promise=3, ceiling=4)
        self.assertEqual(world.deeds()[-1], ("move", "ann", "west", 0, 60, 3, 4))
        world.move_deed(name="ann", word="off")
        self.assertRaises(TypeError, world.move, "ann", "west", 2)

    def test_refusals_in_their_order(self):
        world = world_of(("east", "ann", LOOP), ("north", "bob", LOOP), ("west", "cid", LOOP), ("east", "dan", LOOP),
                         houses=THREE)
        world.move("dan", "west", promise=5)
        world.fall("north")
        before = everything(world)
        for thing in NO_GUESTS:
            self.refused_found(NoGuest, thing, world.move, thing, None, most=None)
        for thing in NO_HOUSES:
            self.refused_found(NoHouse, thing, world.move, "bob", thing, most=None)
        for name in ("ann", "bob", "dan"):
            self.refused_found(Fallen, "north", world.move, name, "north", most=None)
        for house in ("east", "west"):
            self.refused_found(Moving, "dan", world.move, "dan", house, most=None)
            self.refused_found(NotKept, "bob", world.move, "bob", house, most=None)
        self.refused_found(NoHouse, "east", world.move, "ann", "east", most=None)
        self.refused_found(NoHouse, "west", world.move, "cid", "west", most=None)
        for thing in beyond(0, 8):
            self.refused_found(NoNumber, thing, world.move, "ann", "west", most=thing, patience=None)
        for thing in beyond(1, 60):
            self.refused_found(NoNumber, thing, world.move, "ann", "west", patience=thing, promise=None)
        for thing in beyond(0, 8):
            self.refused_found(NoNumber, thing, world.move, "ann", "west", promise=thing, ceiling="")
        for thing in beyond(3, 8):
            if thing is not None:
                self.refused_found(NoNumber, thing, world.move, "ann", "west", promise=3, ceiling=thing)
        self.refused(TooMuch, {"many": 9}, world.move, "ann", "west", promise=8)
        self.assertEqual(everything(world), before)

    def test_a_house_that_is_full(self):
        world = world_of(("east", "ann", LOOP), *[("west", name, LOOP) for name in SIX[1:] + ["gus"]])
        before = everything(world)
        self.refused(Full, {"many": 6}, world.move, "ann", "west")
        self.assertEqual(everything(world), before)

    def test_while_the_guest_is_nowhere(self):
        world = in_phase("given")
        for house in world.houses():
            self.refused_found(Moving, "ann", world.move, "ann", house)


class DeedTest(Case):
    def test_a_whole_move(self):
        world = world_of(("east", "ann", WRITER))
        world.turns("east", 7)
        trail = world.house("east").trail("ann")
        world.move("ann", "west", promise=2, ceiling=5)
        self.assertEqual(world.move_deed("ann", "round"), 4)
        self.assertEqual(words(world), ["room"] * 4)
        for number in range(1, 5):
            self.assertIsNone(world.move_deed("ann", "come", number))
        all_come(world, "ann")
        self.assertIsNone(world.move_deed("ann", "stop"))
        self.assertEqual((world.phase("ann"), world.house("east").is_stopped("ann")), ("stopped", True))
        self.assertEqual(world.move_deed("ann", "round"), 1)
        self.assertIsNone(world.move_deed("ann", "come", world.letters("ann")[0][0]))
        self.assertIsNone(world.move_deed("ann", "come", world.letters("ann")[0][0]))
        self.assertEqual((world.phase("ann"), words(world), world.where("ann")), ("given", ["go"], None))
        self.assertIsNone(world.move_deed("ann", "again"))
        self.assertEqual(words(world), ["go", "go"])
        first, second = [number for number, _, _ in world.letters("ann")]
        self.assertIsNone(world.move_deed("ann", "lose", first))
        self.assertIsNone(world.move_deed("ann", "double", second))
        self.assertIsNone(world.move_deed("ann", "look"))
        self.assertIsNone(world.move_deed("ann", "come", second))
        self.assertEqual((world.phase("ann"), words(world), world.where("ann")), ("given", ["go", "runs"], "west"))
        self.assertIsNone(world.move_deed("ann", "come", world.letters("ann")[1][0]))
        # It is done: under way no more, and the other `go` is forgotten.
        self.assertIsNone(world.phase("ann"))
        self.refused_found(NotMoving, "ann", world.letters, "ann")
        self.assertEqual((world.house("west").trail("ann"), world.house("east").names()), (trail, []))
        self.assertEqual((world.house("west").shares().promise("ann"), world.house("west").shares().ceiling("ann")),
                         (2, 5))
        self.assertEqual([deed[1:] for deed in world.deeds() if deed[0] == "road"][:6], [
            ("ann", "round", None), ("ann", "come", 1), ("ann", "come", 2), ("ann", "come", 3), ("ann", "come", 4),
            ("ann", "come", 5)])

    def test_called_off(self):
        for phase in ("rounds", "stopped"):
            world = in_phase(phase)
            world.move_deed("ann", "round")
            self.assertIsNone(world.move_deed("ann", "off"))
            self.assertEqual((world.phase("ann"), world.where("ann")), (None, "east"))
            self.assertFalse(world.house("east").is_stopped("ann"))
            self.refused_found(NotMoving, "ann", world.letters, "ann")
            self.refused_found(NotMoving, "ann", world.move_deed, "ann", "look")
            world.move("ann", "north")
            self.assertEqual((world.phase("ann"), world.letters("ann")), ("rounds", []))

    def test_two_moves_at_once(self):
        world = world_of(("east", "ann", LOOP), ("west", "bob", LOOP), ("east", "cid", LOOP))
        world.move("ann", "west", most=8)
        world.move("bob", "east", most=8)
        world.move("cid", "west", most=8)
        for name in ("ann", "bob", "cid"):
            world.move_deed(name, "round")
        for name in ("bob", "cid", "ann"):
            all_come(world, name)
            world.move_deed(name, "stop")
            world.move_deed(name, "round")
            all_come(world, name)
        self.assertEqual([world.where(name) for name in ("ann", "bob", "cid")], ["west", "east", "west"])
        self.assertEqual((world.house("east").names(), world.house("west").names()), (["bob"], ["cid", "ann"]))

    def test_a_goal_that_refuses_it_on_its_way(self):
        world = in_phase("given", houses=THREE)
        for port, name in enumerate(["dan", "eve", "fay", "gus", "hal"], start=3):
            world.come("west", name, LOOP, port=port, promise=0)
        world.move_deed("ann", "come", world.letters("ann")[0][0])
        self.assertEqual((world.phase("ann"), words(world), world.where("ann")), ("given", [], None))
        self.refused_found(Moving, "ann", world.come_up, "ann", "north")
        world.move("hal", "north", most=8)
        world.move_deed("hal", "round")
        all_come(world, "hal")
        world.move_deed("hal", "stop")
        world.move_deed("hal", "round")
        all_come(world, "hal")
        world.move_deed("ann", "again")
        all_come(world, "ann")
        self.assertEqual((world.where("ann"), world.phase("ann")), ("west", None))

    def test_each_deed_as_the_move_does_it(self):
        """A Move of two Houses beside, to which the same is done."""
        ends = {}
        for seed in range(60):
            chance = chance_of(seed)
            world = world_of(("east", "ann", chance.choice([LOOP, WRITER, ECHO])), ("west", "bob", LOOP))
            world.turns("east", chance.randrange(1, 20))
            houses = {house: world.house(house) for house in world.houses()}
            told = {"most": 8, "patience": chance.choice([1, 2, 20])}
            world.move("ann", "west", **told)
            move = Move(houses["east"], houses["west"], "ann", **told)
            for _ in range(60):
                if world.phase("ann") is None:
                    break
                if chance.random() < 0.25:
                    house = chance.choice(["east", "west"])
                    self.assertEqual(world.turns(house), houses[house].turns())
                    move.look()
                else:
                    self.both(chance, world, move)
                if world.phase("ann") is not None:
                    self.assertEqual((world.phase("ann"), world.letters("ann")), (move.phase(), move.letters()))
                for house in world.houses():
                    self.assertEqual(test_house.everything(world.house(house)), test_house.everything(houses[house]))
            if world.phase("ann") is None:
                self.assertIn(move.phase(), ("done", "off"))
            ends[move.phase()] = ends.get(move.phase(), 0) + 1

        self.assertGreater(min(ends.get("done", 0), ends.get("off", 0)), 10)

    def both(self, chance, world, move):
        """Does the same deed twice, and holds what is told, or refused."""
        letters = world.letters("ann")
        word, number = chance.choice(["round", "stop", "again", "look"]), None
        if letters and chance.random() < 0.8:
            word, number = chance.choice(["come"] * 8 + ["lose", "double"]), chance.choice(letters)[0]
        call = {"round": move.one_round, "stop": move.stop, "again": move.again, "look": move.look, "come": move.come,
                "lose": move.lose, "double": move.double}[word]
        outcomes = []
        for deed, args in ((world.move_deed, ("ann", word, number)), (call, () if number is None else (number,))):
            try:
                outcomes.append(deed(*args))
            except (NotMoving, TooMuch) as refusal:
                outcomes.append((type(refusal), vars(refusal)))
        self.assertEqual(*outcomes)

    def test_refusals_in_their_order(self):
        world = in_phase("rounds")
        world.move_deed("ann", "round")
        before = everything(world)
        for thing in NO_GUESTS:
            self.refused_found(NoGuest, thing, world.move_deed, thing, None, None)
        for name in ("ann", "bob"):
            for thing in NO_WORDS:
                for number in (None, 1, "x"):
                    self.refused_found(NoDeed, thing, world.move_deed, name, thing, number)
            for word in ALONE:
                for number in [thing for thing in NOT_NUMBERS if thing is not None] + [0, 1, GREATEST]:
                    self.refused_found(NoDeed, word, world.move_deed, name, word, number)
        for word in ALONE:
            self.refused_found(NotMoving, "bob", world.move_deed, "bob", word)
        for word in NUMBERED:
            for number in (None, 0, 1, "x"):
                self.refused_found(NotMoving, "bob", world.move_deed, "bob", word, number)
            for number in NOT_NUMBERS + [0, 99, -1, GREATEST]:
                self.refused_found(NotOnRoad, number, world.move_deed, "ann", word, number)
            with self.assertRaises(NotOnRoad) as caught:
                world.move_deed("ann", word)
            self.assertEqual(vars(caught.exception), {"found": None})
        self.assertEqual(everything(world), before)

    def test_refusals_of_a_phase(self):
        for phase, words_barred in (("rounds", ["again"]), ("stopped", ["again", "stop"]),
                                    ("given", ["round", "stop", "off"]), ("begun", ["round", "stop", "off"])):
            world = in_phase(phase)
            before = everything(world)
            for word in words_barred:
                self.refused_found_equal(NotMoving, world.phase("ann"), world.move_deed, "ann", word)
            self.assertEqual(everything(world), before)
        world = world_of(("east", "ann", LOOP))
        world.turns("east", 3)
        world.move("ann", "west", most=0)
        self.refused(TooMuch, {"many": 2}, world.move_deed, "ann", "stop")

    def refused_found_equal(self, error, found, call, *args):
        with self.assertRaises(error) as caught:
            call(*args)
        self.assertEqual((type(caught.exception), vars(caught.exception)), (error, {"found": found}))


class LookTest(Case):
    def test_too_long_at_the_stop(self):
        world = in_phase("stopped", image=ECHO)
        self.assertEqual(len(world.turns("west", 30)), 30)
        world.turns("north", 30)
        self.assertEqual(world.phase("ann"), "stopped")
        world.turns("east", 8)
        self.assertEqual((world.phase("ann"), world.house("east").is_stopped("ann")), ("stopped", True))
        world.turns("east", 1)
        self.assertEqual((world.phase("ann"), world.house("east").is_stopped("ann")), (None, False))
        self.assertEqual(world.where("ann"), "east")

    def test_it_looks_behind_each_turn(self):
        """The guest goes on within the turns in which its Move is called off."""
        world = in_phase("stopped")
        told = world.turns("east", 20)
        self.assertEqual([name for name, _ in told[:9]], ["bob"] * 9)
        self.assertIn("ann", [name for name, _ in told[9:12]])
        self.assertIsNone(world.phase("ann"))

    def test_just_those_from_this_house(self):
        world = in_phase("stopped")
        world.move("cid", "east", most=8)
        world.move_deed("cid", "stop")
        world.turns("west", 9)
        self.assertEqual((world.phase("ann"), world.phase("cid")), ("stopped", None))

    def test_what_comes_while_it_is_stopped_is_with_it_in_the_goal(self):
        world = world_of(("east", "ann", LISTENER), ("west", "bob", sender(0)))
        world.turns("west", 30)
        world.keep("bob")
        world.turns("east", 2)
        world.move("ann", "west", most=8, patience=60)
        world.move_deed("ann", "round")
        all_come(world, "ann")
        world.move_deed("ann", "stop")
        world.move_deed("ann", "round")
        world.turns("east", 2)
        all_come(world, "ann")
        # What came behind the round makes it another guest than was put.
        self.assertEqual((world.phase("ann"), len(world.house("east").log("ann"))), ("stopped", 4))
        world.move_deed("ann", "round")
        all_come(world, "ann")
        self.assertEqual((world.phase("ann"), len(world.house("west").log("ann"))), (None, 4))
        world.turns("west", 60)
        house = world.house("west")
        self.assertEqual([word for _, _, word in house.log("ann")], world.posted(0))
        self.assertEqual(house.trail("ann"), oracle_of(LISTENER, house.log("ann"), house.core("ann")).trail)


class TwinTest(Case):
    def outcome(self, world, deed):
        try:
            return do(world, deed)
        except (GuestError, Missing, Barred) as refusal:
            return type(refusal), vars(refusal)

    def any_deed(self, chance, world):
        letters = world.letters("ann") if world.phase("ann") else []
        if letters and chance.random() < 0.75:
            return "road", "ann", chance.choice(["come"] * 8 + ["lose", "double"]), chance.choice(letters)[0]
        if chance.random() < 0.2:
            return "turns", chance.choice(["east", "west"]), chance.randrange(1, 3)
        return "road", "ann", chance.choice(["round", "round", "stop", "stop", "again", "look"]), None

    def test_a_twin_goes_on_likewise_in_each_phase(self):
        phases = {}
        for seed in range(120):
            chance = chance_of(seed)
            world = world_of(("east", "ann", chance.choice([LOOP, WRITER, LISTENER])), ("west", "bob", LOOP))
            world.turns("east", chance.randrange(1, 9))
            world.move("ann", "west", most=chance.randrange(4), patience=chance.choice([1, 2, 20]), promise=chance.randrange(3),
                       ceiling=chance.randrange(3, 9))
            for _ in range(chance.randrange(45)):
                self.outcome(world, self.any_deed(chance, world))
            phases[world.phase("ann"), world.where("ann")] = phases.get((world.phase("ann"), world.where("ann")), 0) + 1
            before = everything(world)
            twin, other = world.twin(), world.twin()
            for _ in range(40):
                deed = self.any_deed(chance, world)
                self.assertEqual(self.outcome(twin, deed), self.outcome(world, deed))
                self.assertEqual(everything(twin), everything(world))
            # What the twin of it did changed nothing in the other one.
            self.assertEqual(everything(other), before)
        for phase, where in (("rounds", "east"), ("stopped", "east"), ("given", None), ("given", "west"), (None, "west")):
            self.assertGreater(phases.get((phase, where), 0), 2, (phase, where, phases))


class FallTest(Case):
    def test_the_goal_falls(self):
        for phase, where in (("rounds", "east"), ("stopped", "east"), ("given", None), ("begun", None), ("done", None)):
            world = in_phase(phase)
            world.fall("west")
            self.assertEqual((world.phase("ann"), world.where("ann")), (None, where), phase)
            self.refused_found(NotMoving, "ann", world.letters, "ann")
            if where is not None:
                self.assertFalse(world.house("east").is_stopped("ann"))
                self.refused_found(Standing, "ann", world.come_up, "ann", "north")
                world.turns("east", 3)
            else:
                world.come_up("ann", "north")
                self.assertEqual(world.house("north").core("ann").time(), world.kept("ann")[0])
            world.rise("west")
            moved(world, "ann", "west", most=8)
            self.assertEqual(world.where("ann"), "west")

    def test_the_source_falls(self):
        for phase, where in (("rounds", None), ("stopped", None), ("given", None), ("begun", "west"), ("done", "west")):
            world = in_phase(phase)
            time = 0 if where is None else world.house("west").core("ann").time()
            world.fall("east")
            self.assertEqual((world.phase("ann"), world.where("ann")), (None, where), phase)
            self.refused_found(NotMoving, "ann", world.letters, "ann")
            if where is None:
                self.assertNotIn("ann", world.house("west").names())
                world.come_up("ann", "west")
                self.assertEqual(world.house("west").core("ann").time(), world.kept("ann")[0])
            else:
                self.assertEqual((world.house("west").core("ann").time(), time > world.kept("ann")[0]), (time, True))
                self.assertFalse(world.house("west").is_stopped("ann"))
            world.turns("west", 4)

    def test_another_house_falls(self):
        for phase in ("rounds", "stopped", "given", "begun"):
            world = in_phase(phase)
            letters, before = world.letters("ann"), world.phase("ann")
            world.fall("north")
            self.assertEqual((world.letters("ann"), world.phase("ann")), (letters, before))

    def test_the_other_guests_moves_stay(self):
        world = in_phase("rounds")
        world.move("bob", "north", most=8)
        world.move("cid", "east", most=8)
        world.fall("west")
        self.assertEqual([world.phase(name) for name in ("ann", "bob", "cid")], [None, "rounds", None])

    def test_coming_up_while_a_move_is_under_way(self):
        world = in_phase("given")
        before = everything(world)
        for house in world.houses():
            self.refused_found(Moving, "ann", world.come_up, "ann", house, promise=None)
        self.assertEqual(everything(world), before)
        self.refused_found(NotKept, "ann", world.keep, "ann")
        self.refused_found(NotKept, "ann", world.say, "ann", "a")
        for phase in ("rounds", "stopped", "begun"):
            world = in_phase(phase)
            self.refused_found(Standing, "ann", world.come_up, "ann", "north", promise=None)

    def test_kept_within_a_move(self):
        for phase in ("rounds", "stopped", "begun"):
            world = in_phase(phase)
            world.keep("ann")
            house = world.house(world.where("ann"))
            self.assertEqual(world.kept("ann")[0], house.core("ann").time())
            self.assertGreater(world.kept("ann")[0], 1)
