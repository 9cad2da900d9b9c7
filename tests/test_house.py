"""Points 81 to 85: a house, deed by deed."""

from guestsalone.core import Core, core_of
from guestsalone.errors import (
    Doubled, Ended, Full, NoGuest, NoImage, NoKind, NoName, NoNumber, NoSnapshot, NoWord, TooMuch,
)
from guestsalone.house import Guest, House
from guestsalone.images import image_of
from guestsalone.plain import run_alone
from guestsalone.rooms import Rooms
from guestsalone.shares import Shares
from tests import test_queues, test_rooms, test_shares
from tests.helpers import GREATEST, NO_ROOMS, Case, beyond, op
from tests.test_guest import ASKER, NO_CORES, asking, guest_of
from tests.test_images import EMPTY, NO_IMAGES
from tests.test_plain import ECHO, LOOP, image_with
from tests.test_rooms import NO_NAMES, SIX

HALT = image_with([op("halt")])
WRITER = image_with([op("set", 0, 9), op("save", 0, 40), op("save", 0, 48), op("jump", 0, 0)])
NO_SNAPSHOTS = NO_CORES + [Core(NO_ROOMS), ECHO]


def everything(house):
    """All that a House tells."""
    return (
        house.names(), house.turn(), house.passed(), test_rooms.everything(house.rooms()),
        test_shares.everything(house.shares()), test_queues.everything(house.queue()),
        [(name, house.core(name), house.rooms_of(name), house.log(name), house.trail(name), house.stepped(name),
          house.is_ready(name), house.is_held(name), house.is_stopped(name)) for name in house.names()],
    )


def house_of(*guests, rooms=8, length=12):
    """A house with guests, tuples of a name and an image."""
    house = House(rooms, length=length)
    for name, image in guests:
        house.come(name, image)
    return house


def busy():
    """A house with something of everything."""
    house = House(5, length=6)
    house.come("ann", ASKER, promise=2, ceiling=5)
    house.come("bob", ECHO, promise=0)
    house.come("dan", WRITER)
    house.arrive("bob", "line", 65)
    house.turns(7)
    house.bring("cid", asking(), promise=2)
    house.turns(4)
    house.stop("dan")
    house.take_back("ann", 1)
    return house


class MadeTest(Case):
    def test_rooms_and_length(self):
        house = House(7)
        self.assertEqual((house.rooms().how_many(), house.shares().length()), (7, 12))
        self.assertEqual(everything(house), (
            [], 0, [], test_rooms.everything(Rooms(7)), test_shares.everything(Shares(12)),
            ([], 0, [], [(name, []) for name in SIX], []), []))
        house = House(rooms=64, length=60)
        self.assertEqual((house.rooms().how_many(), house.shares().length()), (64, 60))
        self.assertEqual((House(1, length=4).rooms().how_many(), House(1, length=4).shares().length()), (1, 4))

    def test_refusals(self):
        for thing in beyond(1, 64):
            self.refused_found(NoNumber, thing, House, thing, length=None)
        for thing in beyond(4, 60):
            self.refused_found(NoNumber, thing, House, 1, length=thing)
        self.assertRaises(TypeError, House, 5, 12)


class ComeTest(Case):
    def test_it_has_a_core_of_the_blocks_and_its_rooms(self):
        house = House(4)
        image = image_of({1: [5, 6]}, blocks={2: [7]})
        self.assertIsNone(house.come("ann", image))
        self.assertEqual((house.core("ann"), house.rooms_of("ann")), (Core(image[1]), image[0]))
        self.assertEqual((house.rooms().rooms_of("ann"), house.rooms().in_use()), (image[0], []))
        self.assertEqual((house.log("ann"), house.trail("ann"), house.stepped("ann")), ([], [], []))
        self.assertEqual((house.is_ready("ann"), house.is_held("ann"), house.is_stopped("ann")), (True, False, False))

    def test_promise_and_ceiling(self):
        house = House(4, length=10)
        house.come("ann", EMPTY)
        house.come("bob", EMPTY, promise=3)
        house.come("cid", EMPTY, ceiling=2)
        house.come("dan", EMPTY, promise=2, ceiling=None)
        house.come(name="eve", image=EMPTY, promise=0, ceiling=1)
        shares = house.shares()
        self.assertEqual([shares.counting(name) for name in house.names()], [(1, 10), (3, 10), (1, 2), (2, 10), (0, 1)])
        self.assertEqual(house.names(), ["ann", "bob", "cid", "dan", "eve"])

    def test_six_guests_and_a_seventh(self):
        house = house_of(*[(name, LOOP) for name in SIX])
        before = everything(house)
        self.refused(Full, {"many": 6}, house.come, "gil", LOOP, promise=9)
        self.refused(Full, {"many": 6}, house.bring, "gil", asking())
        self.refused_found(Doubled, "cid", house.come, "cid", LOOP)
        self.assertEqual(everything(house), before)
        house.leave("ann")
        house.come("gil", LOOP)
        self.assertEqual(house.names(), SIX[1:] + ["gil"])

    def test_refusals(self):
        house = busy()
        before = everything(house)
        for thing in NO_NAMES:
            self.refused_found(NoName, thing, house.come, thing, [], promise=[], ceiling=[])
        for thing in NO_IMAGES:
            self.refused_found(NoImage, thing, house.come, "eve", thing, promise=[], ceiling=[])
            self.refused_found(NoImage, thing, house.come, "ann", thing)
        for thing in beyond(0, 6):
            self.refused_found(NoNumber, thing, house.come, "eve", ECHO, promise=thing, ceiling=[])
            self.refused_found(NoNumber, thing, house.come, "ann", ECHO, promise=thing)
        for thing in beyond(2, 6):
            if thing is not None:
                self.refused_found(NoNumber, thing, house.come, "eve", ECHO, promise=2, ceiling=thing)
        self.refused_found(Doubled, "ann", house.come, "ann", ECHO, promise=6)
        self.refused(TooMuch, {"many": 7}, house.come, "eve", ECHO, promise=2)
        self.assertRaises(TypeError, house.come, "eve", ECHO, 1, 1)
        self.assertEqual(everything(house), before)
        house.come("eve", ECHO)
        self.assertEqual(house.shares().promised(), 6)


class StopTest(Case):
    def test_stopped_and_gone_on(self):
        house = house_of(("ann", LOOP), ("bob", LOOP))
        self.assertIsNone(house.stop("ann"))
        self.assertEqual((house.is_stopped("ann"), house.is_ready("ann"), house.is_stopped("bob")), (True, False, False))
        self.assertEqual([name for name, _ in house.turns(3)], ["bob"] * 3)
        house.stop(name="ann")
        self.assertIsNone(house.go_on("ann"))
        self.assertEqual((house.is_stopped("ann"), house.is_ready("ann")), (False, True))
        house.go_on(name="ann")
        self.assertEqual((house.is_stopped("ann"), house.is_ready("ann")), (False, True))
        self.assertEqual(house.turns(1), [("ann", (0, "step", 0, None))])

    def test_what_comes_to_it_stays_until_it_goes_on(self):
        house = house_of(("ann", ECHO))
        house.stop("ann")
        house.arrive("ann", "line", 65)
        house.turns(4)
        self.assertEqual((house.trail("ann"), house.log("ann")), ([], [(0, "line", 65)]))
        house.go_on("ann")
        house.turns(3)
        self.assertEqual(house.core("ann").told(), [65])


class TurnsTest(Case):
    def test_who_gets_them_and_what_the_steps_told(self):
        house = house_of(("ann", LOOP), ("bob", HALT))
        self.assertEqual(house.turns(), [("ann", (0, "step", 0, None))])
        self.assertEqual(house.turns(many=3), [("bob", (0, "ended", 0, None)), ("ann", (1, "step", 1, None)),
                                               ("ann", (2, "step", 2, None))])
        self.assertEqual((house.turn(), len(house.passed())), (4, 4))
        self.assertEqual((house.stepped("ann"), house.stepped("bob")), ([0, 2, 3], [1]))
        self.assertEqual(house.trail("ann"), [(0, "step", 0, None), (1, "step", 1, None), (2, "step", 2, None)])

    def test_nobody_is_ready(self):
        house = house_of(("ann", HALT), ("bob", ECHO))
        self.assertEqual(house.turns(4), [("ann", (0, "ended", 0, None)), ("bob", None), (None, None), (None, None)])
        self.assertEqual((house.stepped("bob"), house.trail("bob"), house.core("bob").state()), ([], [], "idle"))
        self.assertEqual((House(1).turns(2), house.is_ready("ann"), house.is_ready("bob")),
                         ([(None, None)] * 2, False, False))
        house.arrive("bob", "line", 65)
        self.assertTrue(house.is_ready("bob"))
        self.assertEqual(house.turns(1), [("bob", (0, "waited", 0, 1))])
        self.assertEqual(house.stepped("bob"), [4])

    def test_1_and_400_turns(self):
        house = house_of(("ann", LOOP))
        self.assertEqual(len(house.turns(1)), 1)
        told = house.turns(400)
        self.assertEqual((len(told), house.turn(), house.passed()[1:]), (400, 401, told))
        self.assertEqual(house.stepped("ann"), list(range(401)))
        before = everything(house)
        for thing in beyond(1, 400):
            self.refused_found(NoNumber, thing, house.turns, thing)
        self.assertEqual(everything(house), before)

    def test_ceilings_leave_turns(self):
        house = House(4, length=4)
        house.come("ann", LOOP, promise=0, ceiling=1)
        self.assertEqual([name for name, _ in house.turns(8)], ["ann", None, None, None] * 2)
        self.assertEqual(house.stepped("ann"), [0, 4])

    def test_the_first_that_came_goes_first(self):
        house = house_of(("zoe", LOOP), ("ann", LOOP))
        self.assertEqual([name for name, _ in house.turns(4)], ["zoe", "ann", "zoe", "ann"])

    def test_what_is_asked_is_put_and_served_at_the_next_turn(self):
        house = house_of(("ann", ASKER))
        house.turns(1)
        self.assertEqual(house.turns(1), [("ann", (1, "asked", 1, (0, "write", 0, 5)))])
        self.assertEqual(house.queue().waiting(), [("ann", 0)])
        house.stop("ann")
        house.turns(1)
        self.assertEqual((house.queue().waiting(), house.core("ann").asks_done()), ([], 0))

    def test_where_eight_are_under_way_nothing_is_put(self):
        guest = asking()
        stands = guest.core().stands()
        asks = tuple((number, "write", 0, 5, 900) for number in range(8))
        core = core_of((*stands[0:1], 5, *stands[2:14], asks, 8, 0), [], [])
        house = House(8)
        house.bring("ann", Guest(core, guest.rooms(), guest.log(), ()))
        self.assertEqual(len(house.queue()), 8)
        self.assertEqual(house.turns(1), [("ann", (6, "asked", 5, None))])
        self.assertEqual(house.queue().of("ann"), list(range(1, 8)))


class HeldTest(Case):
    def test_held_while_an_ask_that_is_due_was_not_served(self):
        house = House(8)
        house.bring("ann", asking(log=()))
        self.assertEqual((house.queue().waiting(), house.core("ann").due()), ([("ann", at) for at in range(5)], []))
        self.assertEqual((house.is_held("ann"), house.is_ready("ann")), (False, True))
        self.assertEqual(house.turns(1), [("ann", (6, "waited", 6, 8))])
        # Asks 0 and 1 are due by now, and the one was served.
        self.assertEqual((house.core("ann").due(), house.queue().of("ann")), ([0, 1], [1, 2, 3, 4]))
        self.assertEqual((house.is_held("ann"), house.is_ready("ann")), (True, False))
        self.assertEqual(house.turns(1), [("ann", (8, "step", 7, None))])
        self.assertEqual(house.core("ann").asks_done(), 2)

    def test_a_queue_of_others_holds_it(self):
        house = House(8)
        for name in ("ann", "bob", "cid"):
            house.bring(name, asking(log=()), promise=0)
        told = house.turns(30)
        alone = run_alone(ASKER, end=12)
        for name in ("ann", "bob", "cid"):
            self.assertEqual(house.trail(name)[:len(alone.trail())], alone.trail())
        self.assertIn((None, None), told)

    def test_an_ask_that_is_not_due_holds_nobody(self):
        house = house_of(("ann", ASKER))
        house.turns(2)
        self.assertEqual((house.queue().of("ann"), house.is_held("ann"), house.is_ready("ann")), ([0], False, True))


class ArriveTest(Case):
    def test_at_its_own_time(self):
        house = house_of(("ann", LOOP), ("bob", ECHO))
        house.turns(5)
        self.assertIsNone(house.arrive("ann", "line", 5))
        house.arrive(name="ann", kind="net", word=4095)
        house.arrive("bob", "line", 127)
        time = house.core("ann").time()
        self.assertEqual(house.log("ann"), [(time, "line", 5), (time, "net", 4095)])
        self.assertEqual((house.log("bob"), house.core("bob").queue("line")), ([(0, "line", 127)], [127]))
        self.assertEqual((house.core("ann").queue("line"), house.core("ann").queue("net")), ([5], [4095]))

    def test_refusals(self):
        house = busy()
        house.come("eve", HALT)
        house.turns(12)
        before = everything(house)
        for thing in NO_NAMES + ["zoe"]:
            self.refused_found(NoGuest, thing, house.arrive, thing, [], [])
        for thing in (None, True, 0, "", "disk", [], ["line"], {}):
            self.refused_found(NoKind, thing, house.arrive, "eve", thing, [])
        for thing in beyond(0, 127):
            self.refused_found(NoWord, thing, house.arrive, "eve", "line", thing)
        for thing in beyond(0, 4095):
            self.refused_found(NoWord, thing, house.arrive, "bob", "net", thing)
        self.refused(Ended, {"found": "ended"}, house.arrive, "eve", "net", 1)
        self.assertEqual(everything(house), before)

    def test_400_and_one_more(self):
        house = house_of(("ann", HALT), ("bob", LOOP))
        for number in range(400):
            house.arrive("ann", "net", number)
        before = everything(house)
        self.refused(Full, {"many": 400}, house.arrive, "ann", "net", 1)
        self.refused_found(NoKind, "nets", house.arrive, "ann", "nets", 4096)
        self.refused_found(NoWord, 4096, house.arrive, "ann", "net", 4096)
        self.assertEqual(everything(house), before)
        house.arrive("bob", "net", 1)
        house.turns(1)
        self.refused(Ended, {"found": "ended"}, house.arrive, "ann", "net", 1)
        self.assertEqual(len(house.log("ann")), 400)

    def test_a_log_that_has_more(self):
        guest = guest_of(run_alone(ECHO, [(0, "net", 1)] * 401, end=0))
        house = House(3)
        house.bring("ann", guest)
        self.refused(Full, {"many": 400}, house.arrive, "ann", "net", 1)
        self.assertEqual(len(house.log("ann")), 401)


class RoomsAndSharesTest(Case):
    def test_a_room_is_taken_back(self):
        house = house_of(("ann", LOOP))
        house.turns(1)
        self.assertEqual(house.rooms().in_use(), [0, 1])
        self.assertIs(house.take_back("ann", 0), True)
        self.assertIs(house.take_back(name="ann", room=0), False)
        self.assertEqual((house.rooms().in_use(), house.rooms().way("ann", 0)), ([1], "away"))

    def test_equal_rooms_are_shared(self):
        house = house_of(("ann", LOOP), ("bob", LOOP))
        house.turns(2)
        self.assertEqual(house.rooms().in_use(), [0, 1, 2, 3])
        self.assertEqual(house.share(), 2)
        self.assertEqual((house.rooms().in_use(), house.rooms().shared(), house.share()), ([0, 1], 2, 0))

    def test_shares_are_changed(self):
        house = house_of(("ann", LOOP), ("bob", LOOP), length=6)
        self.assertIsNone(house.change("ann", 3, 4))
        house.turns(2)
        house.change(name="bob", promise=0, ceiling=1)
        shares = house.shares()
        self.assertEqual([shares.counting(name) for name in ("ann", "bob")], [(3, 4), (1, 6)])
        self.assertEqual((shares.promise("bob"), shares.ceiling("bob")), (0, 1))

    def test_refusals(self):
        house = busy()
        before = everything(house)
        for thing in NO_NAMES + ["zoe"]:
            self.refused_found(NoGuest, thing, house.take_back, thing, [])
            self.refused_found(NoGuest, thing, house.change, thing, [], [])
        for thing in beyond(0, 7):
            self.refused_found(NoNumber, thing, house.take_back, "ann", thing)
        for thing in beyond(0, 6):
            self.refused_found(NoNumber, thing, house.change, "ann", thing, [])
        for thing in beyond(3, 6):
            self.refused_found(NoNumber, thing, house.change, "ann", 3, thing)
        self.refused(TooMuch, {"many": 7}, house.change, "ann", 4, 4)
        self.assertEqual(everything(house), before)


class LeaveTest(Case):
    def test_it_has_its_core_rooms_log_and_trail(self):
        house = busy()
        told = house.core("cid"), house.rooms_of("cid"), house.log("cid"), house.trail("cid")
        guest = house.leave("cid")
        self.assertIs(type(guest), Guest)
        self.assertEqual((guest.core(), guest.rooms(), guest.log(), guest.trail()), told)
        self.assertGreater(len(guest.trail()), 6)

    def test_nothing_of_it_is_the_houses_any_more(self):
        house = House(8)
        house.bring("ann", asking())
        house.come("bob", ASKER)
        house.turns(4)
        self.assertTrue(house.queue().of("ann"))
        house.leave("ann")
        self.assertEqual((house.names(), house.rooms().names(), house.shares().names()), (["bob"],) * 3)
        self.assertEqual(house.queue().of("ann"), [])
        self.refused_found(NoGuest, "ann", house.trail, "ann")
        lying = [found for number in range(8) for found in house.rooms().lying(number)]
        self.assertEqual({name for name, _ in lying}, {"bob"})

    def test_what_was_told_stays(self):
        house = house_of(("ann", LOOP))
        house.turns(3)
        house.leave("ann")
        self.assertEqual((house.turn(), [name for name, _ in house.passed()]), (3, ["ann"] * 3))

    def test_it_comes_again_by_its_name(self):
        house = house_of(("ann", ECHO), ("bob", LOOP))
        house.arrive("ann", "line", 65)
        house.turns(4)
        guest = house.leave("ann")
        self.assertIsNone(house.bring("ann", guest, promise=2, ceiling=3))
        self.assertEqual(house.names(), ["bob", "ann"])
        self.assertEqual((house.log("ann"), house.trail("ann"), house.stepped("ann")),
                         ([(0, "line", 65)], guest.trail(), []))
        self.assertEqual((house.shares().counting("ann"), house.shares().promise("ann")), ((0, 3), 2))
        self.assertEqual((house.core("ann"), house.rooms_of("ann")), (guest.core(), guest.rooms()))
        house.turns(2)
        self.assertEqual(len(house.stepped("ann")) + len(guest.trail()), len(house.trail("ann")))
        self.assertGreaterEqual(house.stepped("ann")[0], 4)

    def test_one_that_was_stopped_is_not_when_it_is_brought(self):
        house = house_of(("ann", LOOP))
        house.stop("ann")
        house.bring("bob", house.leave("ann"))
        self.assertEqual((house.is_stopped("bob"), house.is_ready("bob")), (False, True))


class BringTest(Case):
    def test_asks_under_way_are_put_in_their_order(self):
        house = house_of(("zoe", ASKER))
        house.turns(2)
        house.bring(name="ann", guest=asking())
        self.assertEqual(house.queue().waiting(), [("zoe", 0)] + [("ann", at) for at in range(5)])
        self.assertEqual((house.shares().promise("ann"), house.shares().ceiling("ann")), (1, 12))
        self.assertEqual(house.core("ann").asks(), asking().core().asks())

    def test_of_another_house(self):
        one, other = house_of(("ann", ASKER)), House(2, length=4)
        one.turns(4)
        other.bring("bob", one.leave("ann"), promise=4)
        other.turns(20)
        self.assertEqual(other.trail("bob"), run_alone(ASKER, end=other.core("bob").time()).trail())

    def test_the_guest_that_is_brought_stays_as_it_is(self):
        guest = asking()
        house = House(8)
        house.bring("ann", guest)
        house.bring("bob", guest)
        house.arrive("ann", "line", 1)
        house.turns(20)
        self.assertTrue(guest == asking())

    def test_refusals(self):
        house = busy()
        before = everything(house)
        for thing in NO_NAMES:
            self.refused_found(NoName, thing, house.bring, thing, [], promise=[], ceiling=[])
        for thing in NO_SNAPSHOTS:
            self.refused_found(NoSnapshot, thing, house.bring, "ann", thing, promise=[])
            self.refused_found(NoSnapshot, thing, house.bring, "eve", thing, promise=[])
        for thing in beyond(0, 6):
            self.refused_found(NoNumber, thing, house.bring, "ann", asking(), promise=thing, ceiling=[])
        for thing in beyond(1, 6):
            if thing is not None:
                self.refused_found(NoNumber, thing, house.bring, "ann", asking(), ceiling=thing)
        self.refused_found(Doubled, "ann", house.bring, "ann", asking(), promise=6)
        self.refused(TooMuch, {"many": 11}, house.bring, "eve", asking(), promise=6)
        self.assertEqual(everything(house), before)


class ReplaceTest(Case):
    def test_what_stays(self):
        house = House(6, length=8)
        house.come("ann", LOOP, promise=2, ceiling=7)
        house.bring("bob", asking(), promise=2, ceiling=6)
        house.come("cid", LOOP)
        house.turns(5)
        house.stop("bob")
        shares = test_shares.everything(house.shares())
        self.assertIsNone(house.replace("bob", asking(4)))
        self.assertEqual((house.names(), house.rooms().names()), (["ann", "bob", "cid"],) * 2)
        self.assertEqual(test_shares.everything(house.shares()), shares)
        self.assertEqual((house.is_stopped("bob"), house.is_stopped("ann")), (True, False))
        self.assertEqual((house.trail("bob"), house.stepped("bob")), (asking(4).trail(), []))
        self.assertEqual((house.core("bob"), house.rooms_of("bob"), house.log("bob")),
                         (asking(4).core(), asking(4).rooms(), asking(4).log()))
        house.go_on("bob")
        house.replace(name="bob", guest=asking())
        self.assertEqual(house.is_stopped("bob"), False)

    def test_its_asks_leave_the_queue_and_those_under_way_are_put(self):
        house = House(8)
        house.bring("ann", asking())
        house.bring("bob", asking())
        house.turns(1)
        self.assertEqual(house.queue().of("ann"), [1, 2, 3, 4])
        house.replace("ann", asking(4))
        self.assertEqual(house.queue().waiting(), [("bob", at) for at in range(5)] + [("ann", at) for at in range(3)])
        self.assertEqual([house.queue().comes_at("ann", at) for at in range(3)], [2, 4, 6])

    def test_its_rooms_give_way_to_the_others(self):
        house = house_of(("ann", WRITER), ("bob", WRITER))
        first = house.leave("bob")
        house.turns(10)
        self.assertNotEqual(house.rooms_of("ann"), first.rooms())
        house.replace("ann", first)
        self.assertEqual((house.rooms_of("ann"), house.rooms().in_use()), (first.rooms(), []))
        house.turns(10)
        self.assertEqual(house.trail("ann"), run_alone(WRITER, end=10).trail())

    def test_steps_count_from_then_on(self):
        house = house_of(("ann", LOOP))
        house.turns(3)
        guest = guest_of(run_alone(LOOP, end=2))
        house.replace("ann", guest)
        house.turns(2)
        self.assertEqual((house.stepped("ann"), house.trail("ann")), ([3, 4], run_alone(LOOP, end=4).trail()))

    def test_refusals(self):
        house = busy()
        before = everything(house)
        for thing in NO_NAMES + ["zoe"]:
            self.refused_found(NoGuest, thing, house.replace, thing, [])
        for thing in NO_SNAPSHOTS:
            self.refused_found(NoSnapshot, thing, house.replace, "ann", thing)
        self.assertEqual(everything(house), before)


class ToldTest(Case):
    def test_nobody(self):
        house = busy()
        before = everything(house)
        for call in (house.stop, house.go_on, house.core, house.rooms_of, house.log, house.trail, house.stepped,
                     house.is_ready, house.is_held, house.is_stopped, house.leave):
            for thing in NO_NAMES + ["zoe", GREATEST]:
                self.refused_found(NoGuest, thing, call, thing)
        self.assertEqual(everything(house), before)

    def test_kinds_of_values(self):
        house = busy()
        self.assertEqual([type(call("ann")) for call in (house.core, house.rooms_of, house.log, house.trail,
                                                         house.stepped)], [Core, tuple, list, list, list])
        self.assertEqual({type(room) for room in house.rooms_of("ann")}, {tuple})
        for call in (house.is_ready, house.is_held, house.is_stopped):
            self.assertIn(call("dan"), (True, False))
            self.assertIs(type(call("dan")), bool)
        self.assertEqual((type(house.names()), type(house.turn()), type(house.passed())), (list, int, list))
        self.assertEqual({(type(row), len(row)) for row in house.passed()}, {(tuple, 2)})

    def test_asking_changes_nothing(self):
        house = busy()
        self.assertEqual(everything(house), everything(house))
        self.assertEqual(everything(house), everything(busy()))

    def test_what_is_told_is_new_each_time(self):
        house = busy()
        before = everything(house)
        for call in (house.log, house.trail, house.stepped):
            call("cid").append(7)
        house.names().clear()
        house.passed().clear()
        house.turns(1).clear()
        house = busy()
        house.core("ann").arrive("line", 5)
        house.rooms().go("ann")
        house.shares().go("ann")
        house.queue().leave("ann")
        self.assertEqual(everything(house), before)

    def test_twins(self):
        house = busy()
        self.assertGreater(len(house.queue()), 0)
        twin, before = house.twin(), everything(house)
        self.assertEqual(everything(twin), before)
        self.change(twin)
        self.assertEqual(everything(house), before)
        twin = house.twin()
        self.change(house)
        self.assertEqual(everything(twin), before)

    def change(self, house):
        house.go_on("dan")
        house.stop("ann")
        house.arrive("bob", "net", 5)
        house.turns(20)
        house.share()
        house.change("ann", 0, 1)
        house.replace("dan", house.leave("cid"))

    def test_twins_go_on_alike(self):
        house = busy()
        twin = house.twin()
        for one in (house, twin):
            self.change(one)
        self.assertEqual(everything(house), everything(twin))

    def test_a_guest_that_left_has_nothing_in_common_with_the_house(self):
        house = house_of(("ann", LOOP))
        house.turns(2)
        guest = house.leave("ann")
        house.bring("ann", guest)
        trail = guest.trail()
        house.arrive("ann", "line", 1)
        house.turns(3)
        self.assertEqual((guest.trail(), guest.log(), guest.core().time()), (trail, [], 2))
