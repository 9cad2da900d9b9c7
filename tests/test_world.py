"""Points 111 to 117: a world, deed by deed; the moves in it are in test_world_moves.py."""

from guestsalone.errors import (
    Doubled, Ended, Fallen, Full, NoGuest, NoHouse, NoImage, NoName, NoNumber, NoText, NotKept, NoTruth, NoWorld,
    Standing, TooMuch,
)
from guestsalone.house import House
from guestsalone.images import image_text
from guestsalone.plain import run_alone
from guestsalone.world import World
from tests import test_house
from tests.helpers import GREATEST, NOT_NUMBERS, Case, beyond, op
from tests.test_guest import ASKER
from tests.test_house import WRITER
from tests.test_images import NO_IMAGES
from tests.test_plain import ECHO, LOOP, image_with
from tests.test_rooms import NO_NAMES, SIX
from tests.worlds import (
    FALLEN, HALT, LISTENER, SPEAKER, THREE, TWO, everything, moved, sender, talking, world_of,
)

NO_WORLDS = NOT_NUMBERS + [
    TWO[:1], THREE + [("south", 1, 4)], [list(TWO[0]), TWO[1]], [TWO[0], None], [TWO[0], ("b", 1)],
    [TWO[0], ("b", 1, 4, 4)], dict(enumerate(TWO)), "ab", World(TWO), TWO[0],
]
NO_HOUSES = NO_NAMES + ["nowhere", "ann"]
NO_GUESTS = NO_NAMES + ["zoe", "east"]
NO_TEXTS = [None, True, 0, GREATEST, [], ["a"], ("a",), {}, "a\n", "\t", "\x7f", "\x1f", "a\u00e9"]


class MadeTest(Case):
    def test_of_two_and_of_three(self):
        for houses in (TWO, THREE, tuple(TWO), [("a", 1, 4), ("b", 64, 60)]):
            world = World(houses)
            self.assertEqual((world.made(), type(world.made())), (list(houses), list))
            self.assertEqual(world.houses(), [name for name, _, _ in houses])
            self.assertEqual(world.standing(), world.houses())
            self.assertEqual((world.names(), world.deeds()), ([], []))
            self.assertEqual([world.posted(port) for port in range(8)], [[]] * 8)
            for name, rooms, length in houses:
                self.assertEqual(test_house.everything(world.house(name)),
                                 test_house.everything(House(rooms, length=length)))

    def test_refusals(self):
        for thing in NO_WORLDS:
            self.refused_found(NoWorld, thing, World, thing)
        for name in NO_NAMES:
            thing = [("a", 1, 4), (name, 1, 4)]
            self.refused_found(NoWorld, thing, World, thing)
        for rooms in beyond(1, 64):
            thing = [("a", rooms, 4), ("b", 1, 4)]
            self.refused_found(NoWorld, thing, World, thing)
        for length in beyond(4, 60):
            thing = [("a", 1, 4), ("b", 1, length)]
            self.refused_found(NoWorld, thing, World, thing)

    def test_a_name_twice(self):
        first, again = "ab" * 2, "".join(["ab", "ab"])
        self.refused_found(Doubled, again, World, [(first, 1, 4), (again, 2, 5)])
        self.refused_found(Doubled, again, World, [("a", 1, 4), (first, 1, 4), (again, 2, 5)])
        self.refused_found(Doubled, again, World, [(first, 1, 4), ("a", 1, 4), (again, 2, 5)])
        thing = [("a", 1, 4), ("a", 1, 4), ("b", 0, 4)]
        self.refused_found(NoWorld, thing, World, thing)

    def test_what_is_handed_in_is_copied(self):
        houses = list(TWO)
        world = World(houses)
        houses.append(THREE[2])
        world.made().append(1)
        world.houses().append(1)
        self.assertEqual((world.made(), world.houses()), (TWO, ["east", "west"]))


class ComeTest(Case):
    def test_a_guest_comes(self):
        world = World(TWO)
        self.assertIsNone(world.come("west", "ann", ECHO, port=3))
        self.assertIsNone(world.come("west", "bob", LOOP, port=0, promise=2, ceiling=5))
        house = House(4, length=8)
        house.come("ann", ECHO)
        house.come("bob", LOOP, promise=2, ceiling=5)
        self.assertEqual(test_house.everything(world.house("west")), test_house.everything(house))
        self.assertEqual((world.names(), world.where("ann"), world.where("bob")), (["ann", "bob"], "west", "west"))
        self.assertEqual((world.port("ann"), world.port("bob"), world.phase("ann")), (3, 0, None))
        self.assertEqual(world.deeds(), [
            ("come", "west", "ann", image_text(ECHO), 3, 1, None), ("come", "west", "bob", image_text(LOOP), 0, 2, 5)])

    def test_kept_is_at_once(self):
        world = world_of(("east", "ann", ECHO))
        self.assertEqual((world.kept("ann"), world.told("ann")), ((0, [], 0, 0, 0), []))
        world.turns("east", 5)
        self.assertEqual((world.kept("ann"), world.told("ann")), ((0, [], 0, 0, 0), []))

    def test_by_names(self):
        world = World(houses=TWO)
        world.come(house="east", name="ann", image=ECHO, port=1, promise=0, ceiling=3)
        self.assertEqual((world.port(name="ann"), world.where(name="ann")), (1, "east"))
        self.assertRaises(TypeError, world.come, "east", "bob", ECHO, 2)

    def test_refusals_in_their_order(self):
        world = world_of(("east", "ann", ECHO), ("west", "bob", LOOP))
        world.fall("west")
        before = everything(world)
        for thing in NO_HOUSES:
            self.refused_found(NoHouse, thing, world.come, thing, None, None, port=None, promise=None)
        west = "".join(["we", "st"])
        self.refused_found(Fallen, west, world.come, west, None, None, port=None, promise=None)
        for thing in NO_NAMES:
            self.refused_found(NoName, thing, world.come, "east", thing, None, port=None, promise=None)
        for thing in beyond(0, 7):
            self.refused_found(NoNumber, thing, world.come, "east", "ann", None, port=thing, promise=None)
        for name in ("ann", "bob"):
            self.refused_found(Doubled, name, world.come, "east", name, None, port=0, promise=None)
        for port in (0, 1):
            self.refused_found(Doubled, port, world.come, "east", "cid", None, port=port, promise=None)
        for thing in NO_IMAGES:
            self.refused_found(NoImage, thing, world.come, "east", "cid", thing, port=2, promise=None)
        for thing in beyond(0, 12):
            self.refused_found(NoNumber, thing, world.come, "east", "cid", ECHO, port=2, promise=thing, ceiling="")
        for thing in beyond(3, 12):
            if thing is not None:
                self.refused_found(NoNumber, thing, world.come, "east", "cid", ECHO, port=2, promise=3, ceiling=thing)
        self.refused(TooMuch, {"many": 13}, world.come, "east", "cid", ECHO, port=2, promise=12)
        self.assertEqual(everything(world), before)

    def test_a_name_and_a_port_are_taken_wherever_the_guest_is(self):
        world = world_of(("east", "ann", ECHO))
        world.move("ann", "west")
        self.refused_found(Doubled, "ann", world.come, "west", "ann", ECHO, port=1)
        world.fall("east")
        self.refused_found(Doubled, "ann", world.come, "west", "ann", ECHO, port=1)
        self.refused_found(Doubled, 0, world.come, "west", "bob", ECHO, port=0)

    def test_six_guests_of_a_house_and_eight_of_a_world(self):
        world = world_of(*[("east", name, LOOP) for name in SIX])
        before = everything(world)
        self.refused(Full, {"many": 6}, world.come, "east", "gus", LOOP, port=6)
        self.assertEqual(everything(world), before)
        world.come("west", "gus", LOOP, port=6)
        world.come("west", "hal", LOOP, port=7)
        for port in range(8):
            self.refused_found(Doubled, port, world.come, "west", "ike", LOOP, port=port)


class KeepTest(Case):
    def test_what_is_kept(self):
        world = world_of(("east", "ann", SPEAKER), ("west", "bob", ECHO))
        world.say("bob", "hi")
        world.turns("east", 30)
        world.turns("west", 12)
        self.assertIsNone(world.keep("ann"))
        self.assertIsNone(world.keep("bob", whole=True))
        ann, bob = world.house("east"), world.house("west")
        told, sent = ann.core("ann").told(), ann.core("ann").sent()
        self.assertGreater(min(len(told), len(sent)), 3)
        self.assertEqual(world.kept("ann"), (ann.core("ann").time(), [], len(told), len(sent), 0))
        self.assertEqual(world.told("ann"), told)
        self.assertEqual(world.kept("bob"), (bob.core("bob").time(), [(0, "line", 104), (0, "line", 105)], 2, 0, 0))
        self.assertEqual(world.told("bob"), [104, 105])
        self.assertEqual(world.posted(1), [word for _, word in sent])
        self.assertEqual(world.deeds()[-2:], [("keep", "ann", False), ("keep", "bob", True)])

    def test_words_are_posted_once_each_for_its_port(self):
        world = world_of(("east", "ann", image_with([
            op("set", 1, 1), op("add", 2, 1), op("add", 3, 1), op("out", 2, 1), op("jump", 0, 1)])))
        sent = []
        for many in (0, 13, 1, 40, 0):
            if many:
                world.turns("east", many)
            world.keep("ann")
            sent = world.house("east").core("ann").sent()
            for port in range(8):
                self.assertEqual(world.posted(port), [word for to, word in sent if to == port])
        self.assertGreater(len(sent), 9)

    def test_nothing_is_posted_ahead_of_it(self):
        world = world_of(("east", "ann", SPEAKER), ("west", "bob", LISTENER))
        world.turns("east", 40)
        world.turns("west", 40)
        self.assertEqual((world.posted(1), world.house("west").log("bob")), ([], []))

    def test_one_kept_that_sent_nothing_since(self):
        world = talking()
        posted = world.posted(1)
        world.keep("ann")
        world.keep("ann", whole=True)
        self.assertEqual((world.posted(1), len(posted)), (posted, world.kept("ann")[3]))

    def test_words_that_the_switch_refuses_as_full_are_lost_and_count_as_sent(self):
        world = world_of(("east", "ann", image_with([
            op("set", 1, 1), op("add", 2, 1), op("out", 2, 1), op("jump", 0, 2)])), houses=[("east", 8, 60), TWO[1]])
        for _ in range(2):
            world.turns("east", 400)
            world.keep("ann")
        # Every fourth step sends 1 and on to port 0 itself, up to word 200 and beyond.
        sent = [word for _, word in world.house("east").core("ann").sent()]
        self.assertGreater(len(sent), 200)
        self.assertEqual((world.posted(0), world.kept("ann")[3]), (sent[:200], len(sent)))
        world.turns("east", 40)
        world.keep("ann")
        more = world.house("east").core("ann").sent()
        self.assertGreater(len(more), len(sent))
        self.assertEqual((world.posted(0), world.kept("ann")[3]), (sent[:200], len(more)))

    def test_kept_of_one_that_ended_or_fell(self):
        world = world_of(("east", "ann", HALT), ("east", "bob", FALLEN))
        world.turns("east", 10)
        world.keep("ann")
        world.keep("bob", whole=True)
        self.assertEqual((world.kept("ann"), world.kept("bob")), ((1, [], 0, 0, 0), (2, [], 0, 0, 0)))
        world.fall("east")
        world.come_up("ann", "west")
        world.come_up("bob", "west")
        self.assertEqual([world.house("west").core(name).state() for name in ("ann", "bob")], ["ended", "fell"])

    def test_refusals(self):
        world = world_of(("east", "ann", ECHO), ("west", "bob", ECHO))
        world.fall("west")
        before = everything(world)
        for thing in NO_GUESTS:
            self.refused_found(NoGuest, thing, world.keep, thing, whole=None)
        for thing in (None, 0, 1, "", "yes", "whole", [], (), {}, GREATEST):
            self.refused_found(NoTruth, thing, world.keep, "bob", whole=thing)
        for whole in (True, False):
            self.refused_found(NotKept, "bob", world.keep, "bob", whole=whole)
        self.assertRaises(TypeError, world.keep, "ann", True)
        self.assertEqual(everything(world), before)


class TurnsTest(Case):
    def test_told_is_what_the_house_tells(self):
        world = world_of(("east", "ann", LOOP), ("east", "bob", WRITER), ("west", "cid", LOOP))
        house = world.house("east")
        self.assertEqual(world.turns("east", 30), house.turns(30))
        self.assertEqual(world.turns("east"), house.turns())
        self.assertEqual(world.turns(house="west", many=2), [("cid", (0, "step", 0, None)), ("cid", (1, "step", 1, None))])
        self.assertEqual((world.house("east").turn(), world.house("west").turn()), (31, 2))
        self.assertEqual(world.deeds()[-3:], [("turns", "east", 30), ("turns", "east", 1), ("turns", "west", 2)])
        self.assertEqual(len(world.turns("west", 400)), 400)

    def test_nobody_is_there(self):
        self.assertEqual(World(TWO).turns("east", 2), [(None, None)] * 2)

    def test_one_letter_comes_ahead_of_each_turn(self):
        world = talking()
        posted = world.posted(1)
        many = len(posted)
        self.assertGreater(many, 3)
        self.assertEqual([word for _, _, word in world.house("west").log("bob")], posted)
        world.turns("east", 20)
        world.keep("ann")
        posted = world.posted(1)
        for at in range(many, len(posted) + 2):
            log = world.house("west").log("bob")
            self.assertEqual([row[1:] for row in log], [("net", word) for word in posted[:at]])
            time = world.house("west").core("bob").time()
            world.turns("west")
            if at < len(posted):
                self.assertEqual(world.house("west").log("bob")[-1], (time, "net", posted[at]))

    def test_it_comes_ahead_of_the_dealing(self):
        world = world_of(("east", "ann", sender(1)), ("west", "bob", LISTENER))
        world.turns("west", 4)
        self.assertEqual(world.house("west").core("bob").state(), "idle")
        world.turns("east", 5)
        world.keep("ann")
        self.assertEqual(world.turns("west"), [("bob", (2, "waited", 2, 3))])

    def test_to_each_guest_of_the_house_and_of_no_other(self):
        both = image_with([op("set", 1, 1), op("set", 3, 1), op("out", 1, 1), op("out", 2, 1), op("set", 3, 2),
                           op("out", 2, 1), op("halt")])
        world = world_of(("east", "ann", both), ("west", "bob", LISTENER), ("west", "cid", LOOP), ("east", "dan", LOOP))
        world.turns("east", 20)
        world.keep("ann")
        self.assertEqual([world.posted(port) for port in range(4)], [[1], [0], [0], []])
        world.turns("west", 3)
        self.assertEqual([len(world.house("west").log(name)) for name in ("bob", "cid")], [1, 1])
        self.assertEqual(world.house("east").log("dan"), [])

    def test_also_its_own_ones(self):
        world = world_of(("east", "ann", sender(0)))
        world.turns("east", 20)
        world.keep("ann")
        world.turns("east", 20)
        self.assertEqual([word for _, _, word in world.house("east").log("ann")], world.posted(0))

    def test_none_comes_to_one_that_ended_or_fell(self):
        for image in (HALT, FALLEN):
            world = world_of(("east", "ann", sender(1)), ("west", "bob", image))
            world.turns("west", 3)
            world.turns("east", 30)
            world.keep("ann")
            world.turns("west", 5)
            self.assertEqual((world.house("west").log("bob"), world.kept("bob")[4]), ([], 0))
            self.assertGreater(len(world.posted(1)), 3)

    def test_none_comes_beyond_four_hundred_arrivals(self):
        for many in (398, 399, 400):
            world = world_of(("east", "ann", sender(1)), ("west", "bob", LOOP))
            world.say("bob", "x" * many)
            world.turns("east", 30)
            world.keep("ann")
            self.assertGreater(len(world.posted(1)), 3)
            world.turns("west", 4)
            world.keep("bob")
            self.assertEqual((len(world.house("west").log("bob")), world.kept("bob")[4]), (400, 400 - many))

    def test_who_comes_later_has_the_letters_of_its_port(self):
        world = world_of(("east", "ann", sender(5)))
        world.turns("east", 30)
        world.keep("ann")
        world.come("west", "bob", ECHO, port=5)
        world.turns("west", 40)
        self.assertEqual([word for _, _, word in world.house("west").log("bob")], world.posted(5))

    def test_a_port_of_a_guest_in_no_house(self):
        world = world_of(("east", "ann", sender(1)), ("west", "bob", LISTENER))
        world.fall("west")
        world.turns("east", 30)
        world.keep("ann")
        self.assertGreater(len(world.posted(1)), 3)
        world.rise("west")
        world.turns("west", 3)
        world.come_up("bob", "west")
        world.turns("west", 40)
        self.assertEqual([word for _, _, word in world.house("west").log("bob")], world.posted(1))

    def test_refusals(self):
        world = world_of(("east", "ann", LOOP))
        world.fall("west")
        before = everything(world)
        for thing in NO_HOUSES:
            self.refused_found(NoHouse, thing, world.turns, thing, 0)
        self.refused_found(Fallen, "west", world.turns, "west", 0)
        for thing in beyond(1, 400):
            self.refused_found(NoNumber, thing, world.turns, "east", thing)
        self.assertEqual(everything(world), before)


class SayTest(Case):
    def test_each_sign_is_an_arrival(self):
        world = world_of(("east", "ann", ECHO))
        self.assertIsNone(world.say("ann", "Hi ~!"))
        world.turns("east", 3)
        world.say(name="ann", text=" ")
        house = world.house("east")
        self.assertEqual(house.log("ann"), [(0, "line", word) for word in (72, 105, 32, 126, 33)] + [(3, "line", 32)])
        self.assertEqual(world.deeds()[1:], [("say", "ann", "Hi ~!"), ("turns", "east", 3), ("say", "ann", " ")])

    def test_a_text_without_signs(self):
        world = world_of(("east", "ann", ECHO))
        world.say("ann", "")
        self.assertEqual((world.house("east").log("ann"), world.deeds()[-1]), ([], ("say", "ann", "")))

    def test_signs_at_both_bounds(self):
        world = world_of(("east", "ann", ECHO))
        world.say("ann", "".join(map(chr, range(32, 127))))
        self.assertEqual([word for _, _, word in world.house("east").log("ann")], list(range(32, 127)))
        for sign in ("\x1f", "\x7f", "\n"):
            for text in (sign, "a" + sign, sign + "a"):
                self.refused_found(NoText, text, world.say, "ann", text)

    def test_four_hundred_and_one_more(self):
        world = world_of(("east", "ann", ECHO))
        before = everything(world)
        self.refused(Full, {"many": 400}, world.say, "ann", "a" * 401)
        self.assertEqual(everything(world), before)
        world.say("ann", "a" * 399)
        self.refused(Full, {"many": 400}, world.say, "ann", "ab")
        world.say("ann", "b")
        self.refused(Full, {"many": 400}, world.say, "ann", "c")
        self.assertIsNone(world.say("ann", ""))
        self.assertEqual(world.house("east").log("ann"), [(0, "line", 97)] * 399 + [(0, "line", 98)])

    def test_to_one_that_ended_or_fell(self):
        for image, state in ((HALT, "ended"), (FALLEN, "fell")):
            world = world_of(("east", "ann", image))
            world.turns("east", 3)
            before = everything(world)
            for text in ("", "a", "a" * 401):
                with self.assertRaises(Ended) as caught:
                    world.say("ann", text)
                self.assertEqual(vars(caught.exception), {"found": state})
            self.assertEqual(everything(world), before)

    def test_refusals_in_their_order(self):
        world = world_of(("east", "ann", ECHO), ("west", "bob", ECHO))
        world.fall("west")
        before = everything(world)
        for thing in NO_GUESTS:
            self.refused_found(NoGuest, thing, world.say, thing, None)
        for thing in NO_TEXTS:
            self.refused_found(NoText, thing, world.say, "bob", thing)
            self.refused_found(NoText, thing, world.say, "ann", thing)
        self.refused_found(NotKept, "bob", world.say, "bob", "a" * 401)
        self.assertEqual(everything(world), before)


class FallTest(Case):
    def test_lost_is_all_that_it_had(self):
        world = world_of(("east", "ann", LOOP), ("west", "bob", LOOP), ("east", "cid", LOOP))
        world.turns("east", 9)
        west = test_house.everything(world.house("west"))
        self.assertIsNone(world.fall("east"))
        self.assertEqual((world.standing(), world.houses()), (["west"], ["east", "west"]))
        self.assertEqual([world.where(name) for name in ("ann", "bob", "cid")], [None, "west", None])
        self.assertEqual((world.names(), world.deeds()[-1]), (["ann", "bob", "cid"], ("fall", "east")))
        self.assertEqual(test_house.everything(world.house("west")), west)
        self.refused_found(Fallen, "east", world.house, "east")
        self.assertIsNone(world.rise("east"))
        self.assertEqual((world.standing(), world.deeds()[-1]), (["east", "west"], ("rise", "east")))
        self.assertEqual(test_house.everything(world.house("east")), test_house.everything(House(6, length=12)))
        self.assertIsNone(world.where("ann"))

    def test_all_houses_fall(self):
        world = world_of(("east", "ann", LOOP), houses=THREE)
        for house in ("west", "north", "east"):
            world.fall(house=house)
        self.assertEqual(world.standing(), [])
        for house in ("north", "east"):
            world.rise(house=house)
        self.assertEqual(world.standing(), ["east", "north"])

    def test_refusals(self):
        world = World(TWO)
        world.fall("east")
        before = everything(world)
        for thing in NO_HOUSES:
            self.refused_found(NoHouse, thing, world.fall, thing)
            self.refused_found(NoHouse, thing, world.rise, thing)
        self.refused_found(Fallen, "east", world.fall, "east")
        self.refused_found(Standing, "west", world.rise, "west")
        self.assertEqual(everything(world), before)


class ComeUpTest(Case):
    def up(self, image, say="", turns=20, later=15, whole=None):
        """A guest that was kept, went on, and lost its house; a snapshot may have been kept ahead of it."""
        world = world_of(("east", "ann", image), ("west", "bob", sender(0)))
        world.turns("west", 20)
        world.keep("bob")
        world.turns("east", 5)
        if whole is not None:
            world.keep("ann", whole=True)
        world.say("ann", say)
        world.turns("east", turns)
        world.keep("ann", whole=bool(whole))
        at = world.house("east").twin()
        world.turns("east", later)
        world.say("ann", "lost")
        world.fall("east")
        return world, at

    def test_it_is_what_is_kept(self):
        for image in (ECHO, LOOP, WRITER, ASKER, LISTENER, SPEAKER):
            for whole in (None, False, True):
                world, at = self.up(image, say="hello", whole=whole)
                kept = world.kept("ann")
                self.assertIsNone(world.come_up("ann", "west"))
                house = world.house("west")
                self.assertEqual((house.log("ann"), house.trail("ann"), house.rooms_of("ann")),
                                 (at.log("ann"), at.trail("ann"), at.rooms_of("ann")))
                core, before = house.core("ann"), at.core("ann")
                self.assertEqual(core.stands()[:8] + core.stands()[9:], before.stands()[:8] + before.stands()[9:])
                # One that was idle runs again where it was run on, until it finds out.
                self.assertIn((before.state(), core.state()), [("idle", "runs"), ("idle", "idle"), ("runs", "runs")])
                self.assertEqual((world.kept("ann"), world.where("ann")), (kept, "west"))
                self.assertEqual(house.stepped("ann"), [])
                self.assertEqual(world.deeds()[-1], ("up", "ann", "west", 1, None))

    def test_it_goes_on_as_it_would_alone_and_no_letter_is_lost(self):
        for whole in (None, False, True):
            world, _ = self.up(LISTENER, whole=whole)
            come = world.kept("ann")[4]
            self.assertGreater(come, 2)
            world.turns("west", 30)
            world.keep("bob")
            world.come_up("ann", "west")
            self.assertEqual(len(world.house("west").log("ann")), come)
            world.turns("west", 60)
            house = world.house("west")
            posted = world.posted(0)
            self.assertGreater(len(posted), come + 3)
            self.assertEqual([word for _, _, word in house.log("ann")], posted)
            end = house.core("ann").time()
            self.assertEqual(house.trail("ann"), run_alone(LISTENER, house.log("ann"), end=end).trail())

    def test_letters_that_came_later_come_again(self):
        world = world_of(("east", "ann", LISTENER), ("west", "bob", sender(0)))
        world.turns("west", 30)
        world.keep("bob")
        world.turns("east", 3)
        world.keep("ann")
        world.turns("east", 3)
        self.assertEqual((world.kept("ann")[4], len(world.house("east").log("ann"))), (3, 6))
        world.fall("east")
        world.rise("east")
        world.come_up("ann", "east")
        self.assertEqual(len(world.house("east").log("ann")), 3)
        world.turns("east", 1)
        self.assertEqual([word for _, _, word in world.house("east").log("ann")], world.posted(0)[:4])

    def test_words_are_not_posted_twice(self):
        world = world_of(("east", "ann", SPEAKER))
        world.turns("east", 20)
        world.keep("ann")
        posted = world.posted(1)
        world.turns("east", 20)
        world.fall("east")
        world.come_up("ann", "west", promise=0, ceiling=3)
        self.assertEqual((world.house("west").shares().promise("ann"), world.house("west").shares().ceiling("ann")), (0, 3))
        world.keep("ann")
        self.assertEqual(world.posted(1), posted)
        world.turns("west", 60)
        world.keep("ann")
        sent = [word for _, word in world.house("west").core("ann").sent()]
        self.assertEqual((world.posted(1), len(sent) > len(posted)), (sent, True))

    def test_one_that_was_never_kept_begins_anew(self):
        world = world_of(("east", "ann", LOOP))
        world.turns("east", 30)
        world.fall("east")
        world.come_up(name="ann", house="west")
        house = world.house("west")
        self.assertEqual((house.core("ann").time(), house.trail("ann"), house.rooms_of("ann")), (0, [], LOOP[0]))

    def test_the_snapshot_kept_last_counts(self):
        world = world_of(("east", "ann", ECHO))
        world.say("ann", "ab")
        world.turns("east", 4)
        world.keep("ann", whole=True)
        world.turns("east", 9)
        world.say("ann", "c")
        world.turns("east", 3)
        world.keep("ann", whole=True)
        kept = world.house("east").leave("ann")
        world.fall("east")
        world.come_up("ann", "west")
        self.assertTrue(world.house("west").leave("ann") == kept)

    def test_one_that_is_idle_in_its_snapshot_is_idle_and_runs_where_it_was_run_on(self):
        for whole, state in ((True, "idle"), (False, "runs")):
            world = world_of(("east", "ann", ECHO))
            world.say("ann", "a")
            world.turns("east", 6)
            world.keep("ann", whole=whole)
            world.fall("east")
            world.come_up("ann", "west")
            self.assertEqual((world.house("west").core("ann").state(), world.house("west").core("ann").time()), (state, 4))
            self.assertEqual(world.turns("west", 2), [("ann", None) if not whole else (None, None), (None, None)])
        # A later snapshot takes the place of an elder one; keeping without one lets it be.
        world = world_of(("east", "ann", ECHO))
        world.keep("ann", whole=True)
        world.say("ann", "a")
        world.turns("east", 6)
        world.keep("ann", whole=True)
        world.keep("ann")
        world.fall("east")
        world.come_up("ann", "west")
        self.assertEqual(world.house("west").core("ann").state(), "idle")

    def test_beyond_the_ends_of_runs_alone(self):
        # In each three steps the time moves on by seven or more.
        waiter = image_with([op("out", 0, 3), op("wait"), op("jump", 0, 0)])
        world = world_of(("east", "ann", waiter), houses=[("east", 8, 60), ("west", 8, 60)])
        while world.kept("ann")[0] <= 21000:
            house = world.where("ann")
            world.turns(house, 400)
            world.keep("ann", whole=len(world.deeds()) % 4 == 0)
            if world.house(house).turn() >= 400:
                world.fall(house)
                world.come_up("ann", "west" if house == "east" else "east")
                world.rise(house)
        house = world.house(world.where("ann"))
        self.assertEqual(house.core("ann").time(), world.kept("ann")[0])

    def test_refusals_in_their_order(self):
        world = world_of(("east", "ann", LOOP), ("west", "bob", LOOP), ("west", "cid", LOOP), houses=THREE)
        world.fall("east")
        before = everything(world)
        for thing in NO_GUESTS:
            self.refused_found(NoGuest, thing, world.come_up, thing, None)
        for thing in NO_HOUSES:
            self.refused_found(NoHouse, thing, world.come_up, "bob", thing)
        self.refused_found(Fallen, "east", world.come_up, "bob", "east", promise=None)
        self.refused_found(Standing, "bob", world.come_up, "bob", "north", promise=None)
        self.refused_found(Standing, "bob", world.come_up, "bob", "west", promise=None)
        for thing in beyond(0, 8):
            self.refused_found(NoNumber, thing, world.come_up, "ann", "west", promise=thing, ceiling="")
        for thing in beyond(2, 8):
            if thing is not None:
                self.refused_found(NoNumber, thing, world.come_up, "ann", "west", promise=2, ceiling=thing)
        self.refused(TooMuch, {"many": 9}, world.come_up, "ann", "west", promise=7)
        self.assertEqual(everything(world), before)
        world.come_up("ann", "west", promise=6, ceiling=6)

    def test_a_house_that_is_full(self):
        world = world_of(("east", "ann", LOOP), *[("west", name, LOOP) for name in SIX[1:] + ["gus"]])
        world.fall("east")
        before = everything(world)
        self.refused(Full, {"many": 6}, world.come_up, "ann", "west")
        self.assertEqual(everything(world), before)
        world.rise("east")
        world.come_up("ann", "east")


class ToldTest(Case):
    def test_what_it_tells(self):
        world = talking()
        self.assertEqual((world.where("ann"), world.where("bob")), ("east", "west"))
        self.assertEqual((world.port("bob"), world.phase("bob")), (1, None))
        self.assertEqual((world.told("bob"), world.kept("bob")), ([], (0, [], 0, 0, 0)))
        self.assertEqual((type(world.kept("ann")), type(world.kept("ann")[1])), (tuple, list))
        self.assertEqual([type(deed) for deed in world.deeds()], [tuple] * len(world.deeds()))

    def test_told_new_each_time(self):
        world = talking()
        world.move("bob", "east")
        world.move_deed("bob", "round")
        before = everything(world)
        for told in (world.made(), world.houses(), world.standing(), world.names(), world.told("ann"),
                     world.kept("ann")[1], world.letters("bob"), world.posted(1), world.deeds()):
            told.append("more")
        house = world.house("west")
        house.turns(3)
        house.leave("bob")
        self.assertEqual(everything(world), before)

    def test_refusals(self):
        world = world_of(("east", "ann", LOOP))
        world.fall("west")
        for thing in NO_GUESTS:
            for ask in (world.where, world.port, world.phase, world.told, world.kept, world.letters):
                self.refused_found(NoGuest, thing, ask, thing)
        for thing in NO_HOUSES:
            self.refused_found(NoHouse, thing, world.house, thing)
        self.refused_found(Fallen, "west", world.house, "west")
        for thing in beyond(0, 7):
            self.refused_found(NoNumber, thing, world.posted, thing)

    def test_twins(self):
        world = talking()
        world.move("bob", "east", promise=0)
        world.move_deed("bob", "round")
        before = everything(world)
        twin = world.twin()
        self.assertIs(type(twin), World)
        twin.turns("west", 9)
        twin.keep("ann", whole=True)
        twin.move_deed("bob", "come", 1)
        twin.come("east", "cid", LOOP, port=7)
        twin.fall("east")
        self.assertEqual(everything(world), before)
        other = world.twin()
        world.move_deed("bob", "off")
        world.say("bob", "a")
        self.assertEqual(everything(other), before)

    def test_told_words_only_grow(self):
        world = world_of(("east", "ann", sender(1)), houses=THREE)
        told = []
        for house in ("west", "north", "east", "west"):
            here = world.where("ann")
            world.turns(here, 60)
            world.keep("ann")
            self.assertGreater(len(world.told("ann")), len(told))
            self.assertEqual(world.told("ann")[:len(told)], told)
            told = world.told("ann")
            world.turns(here, 30)
            world.fall(here)
            self.assertEqual(world.told("ann"), told)
            if house not in world.standing():
                world.rise(house)
            world.come_up("ann", house)
            self.assertEqual(world.told("ann"), told)

    def test_a_guest_moved_has_its_port_and_its_letters(self):
        world = world_of(("east", "ann", sender(1)), ("east", "bob", LISTENER))
        world.turns("east", 40)
        world.keep("ann")
        world.turns("east", 2)
        moved(world, "bob", "west", most=8)
        self.assertEqual(world.where("bob"), "west")
        world.turns("west", 40)
        self.assertEqual([word for _, _, word in world.house("west").log("bob")], world.posted(1))
