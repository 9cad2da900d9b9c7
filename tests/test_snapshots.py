"""Points 91 to 93: snapshots that are taken, put back, cloned, run on alone."""

from guestsalone.core import Core
from guestsalone.errors import Doubled, Full, NoGuest, NoHouse, NoLog, NoName, NoNumber, NoSnapshot, TooMuch
from guestsalone.house import Guest, House
from guestsalone.plain import run_alone
from guestsalone.snapshots import cloned, put_back, run_on, snapshot_of
from tests.chance import any_log, chance_of, some_image
from tests.helpers import GREATEST, NO_ROOMS, Case, beyond
from tests.test_guest import ASKER, asking, guest_of
from tests.test_house import NO_SNAPSHOTS, busy, everything, house_of
from tests.test_house_runs import alone
from tests.test_plain import ECHO, LOOP, NO_LOGS
from tests.test_rooms import NO_NAMES, SIX

NO_HOUSES = [None, True, 0, GREATEST, "", "house", [], (), {}, Core(NO_ROOMS), asking(), [House(1)]]


class TakenTest(Case):
    def test_as_it_would_leave_and_it_stays(self):
        house = busy()
        before = everything(house)
        for name in house.names():
            guest = snapshot_of(house, name)
            self.assertIs(type(guest), Guest)
            self.assertTrue(guest == house.twin().leave(name))
        self.assertEqual(everything(house), before)
        self.assertTrue(snapshot_of(house=house, name="ann") == snapshot_of(house, "ann"))

    def test_what_is_done_later_changes_nothing_in_it(self):
        house = busy()
        guest, before = snapshot_of(house, "cid"), busy().leave("cid")
        house.turns(20)
        house.arrive("cid", "line", 1)
        house.share()
        self.assertTrue(guest == before)
        self.assertFalse(snapshot_of(house, "cid") == before)
        house.leave("cid")
        self.assertTrue(guest == before)

    def test_refusals(self):
        for thing in NO_HOUSES:
            self.refused_found(NoHouse, thing, snapshot_of, thing, [])
        house = busy()
        before = everything(house)
        for thing in NO_NAMES + ["zoe"]:
            self.refused_found(NoGuest, thing, snapshot_of, house, thing)
        self.assertEqual(everything(house), before)


class PutBackTest(Case):
    def test_it_goes_on_as_the_guest_would_have(self):
        house = House(5)
        house.come("ann", ASKER)
        house.come("bob", LOOP)
        house.turns(6)
        guest = snapshot_of(house, "ann")
        house.turns(20)
        trail = house.trail("ann")
        self.assertIsNone(put_back(house, "ann", guest))
        self.assertEqual((house.trail("ann"), house.stepped("ann"), house.names()), (guest.trail(), [], ["ann", "bob"]))
        house.turns(20)
        self.assertEqual(house.trail("ann")[:len(trail)], trail[:len(house.trail("ann"))])
        self.assertGreater(len(house.trail("ann")), len(guest.trail()))

    def test_what_it_asked_of_the_disk_is_done_once(self):
        house = House(5)
        house.bring("ann", asking(log=()))
        house.turns(3)
        guest = snapshot_of(house, "ann")
        put_back(house=house, name="ann", guest=guest)
        self.assertEqual(house.queue().of("ann"), [ask[0] for ask in guest.core().asks()])
        house.turns(30)
        self.assertEqual((house.core("ann").asks_done(), house.queue().waiting()), (5, []))

    def test_refusals(self):
        for thing in NO_HOUSES:
            self.refused_found(NoHouse, thing, put_back, thing, [], [])
        house = busy()
        before = everything(house)
        for thing in NO_NAMES + ["zoe"]:
            self.refused_found(NoGuest, thing, put_back, house, thing, [])
        for thing in NO_SNAPSHOTS:
            self.refused_found(NoSnapshot, thing, put_back, house, "ann", thing)
        self.assertEqual(everything(house), before)


class ClonedTest(Case):
    def test_into_the_same_house_and_another_one(self):
        one, other = house_of(("ann", ASKER)), House(3)
        one.turns(4)
        guest = snapshot_of(one, "ann")
        self.assertIsNone(cloned(one, guest, "bob"))
        self.assertEqual((one.shares().promise("bob"), one.shares().ceiling("bob")), (1, 12))
        cloned(other, guest, "ann", promise=2, ceiling=3)
        cloned(house=other, guest=guest, name="cid", promise=1, ceiling=None)
        self.assertEqual((one.names(), other.names()), (["ann", "bob"], ["ann", "cid"]))
        self.assertTrue(snapshot_of(one, "bob") == guest and snapshot_of(other, "ann") == guest)
        self.assertEqual(one.queue().of("bob"), [ask[0] for ask in guest.core().asks()])
        self.assertEqual([other.shares().counting(name) for name in other.names()], [(2, 3), (1, 12)])
        one.arrive("ann", "line", 5)
        one.turns(20)
        other.turns(20)
        for house, name in ((one, "bob"), (other, "ann"), (other, "cid")):
            self.assertEqual(house.trail(name), run_alone(ASKER, end=house.core(name).time()).trail())
        self.assertEqual((one.log("bob"), one.log("ann") != []), ([], True))

    def test_refusals(self):
        for thing in NO_HOUSES:
            self.refused_found(NoHouse, thing, cloned, thing, [], [], promise=[])
        house = busy()
        before = everything(house)
        for thing in NO_SNAPSHOTS:
            self.refused_found(NoSnapshot, thing, cloned, house, thing, [], promise=[])
        for thing in NO_NAMES:
            self.refused_found(NoName, thing, cloned, house, asking(), thing, promise=[])
        for thing in beyond(0, 6):
            self.refused_found(NoNumber, thing, cloned, house, asking(), "ann", promise=thing, ceiling=[])
        for thing in beyond(1, 6):
            if thing is not None:
                self.refused_found(NoNumber, thing, cloned, house, asking(), "ann", ceiling=thing)
        self.refused_found(Doubled, "ann", cloned, house, asking(), "ann", promise=6)
        self.refused(TooMuch, {"many": 7}, cloned, house, asking(), "eve", promise=2)
        self.assertEqual(everything(house), before)
        full = house_of(*[(name, LOOP) for name in SIX])
        self.refused(Full, {"many": 6}, cloned, full, asking(), "gil")


class RunOnTest(Case):
    def test_by_the_rule_of_a_run_alone(self):
        guest = guest_of(run_alone(ECHO, [(0, "line", 65)], end=3))
        told = run_on(guest, [(3, "line", 66), (4, "net", 9), (30, "line", 67)], end=20)
        machine = run_alone(ECHO, [(0, "line", 65), (3, "line", 66), (4, "net", 9), (30, "line", 67)], end=20)
        self.assertTrue(told == guest_of(machine))
        self.assertEqual(told.log(), [(0, "line", 65), (3, "line", 66), (4, "net", 9)])
        self.assertTrue(guest == guest_of(run_alone(ECHO, [(0, "line", 65)], end=3)))

    def test_by_default(self):
        guest = guest_of(run_alone(LOOP, end=7))
        self.assertTrue(run_on(guest) == guest_of(run_alone(LOOP, end=100)))
        self.assertTrue(run_on(guest=guest, log=(), end=8) == guest_of(run_alone(LOOP, end=8)))

    def test_an_end_that_is_not_greater_than_its_time(self):
        guest = guest_of(run_alone(LOOP, end=7))
        for end in (0, 6, 7):
            told = run_on(guest, [(7, "net", 5), (8, "net", 6)], end=end)
            self.assertEqual((told.core().time(), told.log(), told.trail()), (7, [(7, "net", 5)], guest.trail()))

    def test_where_it_ended_nothing_comes(self):
        guest = run_on(Guest(Core(NO_ROOMS), NO_ROOMS, (), ()), end=50)
        self.assertEqual(guest.core().state(), "fell")
        self.assertTrue(run_on(guest, [(2, "net", 5)], end=60) == guest)

    def test_to_an_end_and_then_to_a_greater_one(self):
        steps = 0
        for seed in range(150):
            chance = chance_of(seed)
            image, log = some_image(chance), any_log(chance, 8, 60)
            guest = guest_of(run_alone(image, log, end=chance.randrange(20)))
            left = log[len(guest.log()):]
            end = chance.randrange(70)
            first = run_on(guest, left, end=end)
            then = run_on(first, left[len(first.log()) - len(guest.log()):], end=end + 30)
            self.assertTrue(then == run_on(guest, left, end=end + 30))
            self.assertTrue(then == guest_of(run_alone(image, log, end=max(end + 30, guest.core().time()))))
            steps += len(then.trail()) - len(guest.trail())
        self.assertGreater(steps, 500)

    def test_of_a_guest_of_a_house(self):
        for seed in range(80):
            chance = chance_of(seed)
            image, house = some_image(chance), House(3)
            house.come("ann", some_image(chance))
            house.come("bob", image)
            for _ in range(3):
                house.turns(chance.randrange(1, 20))
                if house.core("bob").state() in ("runs", "idle"):
                    house.arrive("bob", "net", chance.randrange(4096))
            guest = snapshot_of(house, "bob")
            time = guest.core().time()
            log = [(time + at, kind, word) for at, kind, word in any_log(chance, 8, 40)]
            end = time + 1 + chance.randrange(60)
            self.assertTrue(run_on(guest, log, end=end) == guest_of(run_alone(image, guest.log() + log, end=end)))
            self.assertEqual(guest.trail(), alone(image, guest.log(), guest.core()).trail())

    def test_to_20000(self):
        guest = run_on(guest_of(run_alone(LOOP, end=7)), end=20000)
        self.assertEqual((guest.core().time(), len(guest.trail())), (20000, 20000))
        self.assertEqual(run_on(guest, end=20000).core().time(), 20000)

    def test_2400_arrivals_with_its_own(self):
        guest = guest_of(run_alone(LOOP, [(0, "net", 1)] * 400, end=5))
        told = run_on(guest, [(5, "net", 2)] * 2000, end=6)
        self.assertEqual((len(told.log()), told.log()[-1]), (2400, (5, "net", 2)))

    def test_refusals(self):
        for thing in NO_SNAPSHOTS:
            self.refused_found(NoSnapshot, thing, run_on, thing, [0], end=[])
        guest = guest_of(run_alone(LOOP, end=7))
        for thing in NO_LOGS + [[(7, "net", 1)] * 2401]:
            self.refused_found(NoLog, thing, run_on, guest, thing, end=[])
        for thing in beyond(0, 20000):
            self.refused_found(NoNumber, thing, run_on, guest, [(7, "net", 1)], end=thing)
        self.assertRaises(TypeError, run_on, guest, [], 5)
        self.assertTrue(guest == guest_of(run_alone(LOOP, end=7)))

    def test_a_log_that_begins_ahead_of_the_guests_time(self):
        guest = guest_of(run_alone(LOOP, end=7))
        for log in ([(6, "net", 1)], ((0, "line", 1), (7, "line", 2))):
            self.refused_found(NoLog, log, run_on, guest, log, end=[])
        self.assertEqual(run_on(guest, [(7, "net", 1)], end=7).log(), [(7, "net", 1)])

    def test_what_is_handed_in_stays(self):
        guest, log = guest_of(run_alone(LOOP, end=7)), [(7, "net", 1), (9, "net", 2)]
        told = run_on(guest, log, end=30)
        log.clear()
        self.assertEqual((told.log(), guest.log()), ([(7, "net", 1), (9, "net", 2)], []))
