"""Point 85: a guest as it leaves a house, or is made by hand."""

from guestsalone.core import Core, core_of
from guestsalone.errors import NoImage, NoLog, NoSnapshot
from guestsalone.house import Guest
from guestsalone.plain import run_alone
from tests.helpers import GREATEST, NO_ROOMS, Case, op, rows
from tests.test_core import NO_BLOCKS
from tests.test_plain import ECHO, NO_LOGS, image_with

NO_CORES = [None, True, 0, GREATEST, "", "core", [], (), {}, Core(NO_ROOMS).stands(), [Core(NO_ROOMS)]]
ASKER = image_with([op("set", 1, 5)] + [op("out", 0, 3)] * 5 + [op("wait"), op("jump", 0, 6)], blocks={3: [7]})


def guest_of(machine):
    """What a plain machine would be as a guest."""
    return Guest(machine.core(), machine.store().rooms(), machine.log(), machine.trail())


def asking(end=6, log=((0, "line", 5), (2, "net", 9))):
    """A guest with asks under way."""
    return guest_of(run_alone(ASKER, log, end=end))


class MadeTest(Case):
    def test_its_four_things(self):
        machine = run_alone(ECHO, [(0, "line", 65), (3, "net", 66)], end=6)
        guest = guest_of(machine)
        self.assertEqual(guest.core(), machine.core())
        self.assertEqual(guest.rooms(), ECHO[0])
        self.assertEqual(guest.log(), [(0, "line", 65), (3, "net", 66)])
        self.assertEqual(guest.trail(), machine.trail())
        self.assertEqual(len(guest.trail()), 6)

    def test_by_names_and_of_tuples(self):
        one = asking()
        other = Guest(core=one.core(), rooms=one.rooms(), log=tuple(one.log()), trail=tuple(one.trail()))
        self.assertTrue(one == other)
        self.assertEqual((type(other.log()), type(other.trail())), (list, list))
        self.assertEqual({type(row) for row in other.log() + other.trail()} | {type(other.rooms())}, {tuple})

    def test_without_anything(self):
        guest = Guest(Core(NO_ROOMS), NO_ROOMS, (), ())
        self.assertEqual((guest.core().stands(), guest.rooms(), guest.log(), guest.trail()),
                         (Core(NO_ROOMS).stands(), NO_ROOMS, [], []))

    def test_refusals(self):
        core = Core(NO_ROOMS)
        for thing in NO_CORES:
            self.refused_found(NoSnapshot, thing, Guest, thing, [], 0, ())
        for thing in NO_BLOCKS:
            self.refused_found(NoImage, thing, Guest, core, thing, 0, ())
        for thing in NO_LOGS + [[(0, "line", 1)] * 2401]:
            self.refused_found(NoLog, thing, Guest, core, NO_ROOMS, thing, ())
        guest = asking()
        self.refused_found(NoSnapshot, guest, Guest, guest, NO_ROOMS, (), ())


class OwnTest(Case):
    def test_what_is_handed_in_stays_and_is_kept_as_a_copy(self):
        machine = run_alone(ECHO, [(0, "line", 65)], end=3)
        core, log, trail = machine.core(), machine.log(), machine.trail()
        guest, before = Guest(core, ECHO[0], log, trail), guest_of(machine)
        core.arrive("line", 1)
        log.clear()
        trail.append((9, "step", 0, None))
        self.assertTrue(guest == before)
        self.assertEqual((log, len(trail)), ([], 4))

    def test_what_is_told_is_new_each_time(self):
        guest, before = asking(), asking()
        guest.core().arrive("line", 1)
        guest.log().clear()
        guest.trail().pop()
        self.assertTrue(guest == before)


class EqualTest(Case):
    def test_equal_guests(self):
        one, other = asking(), asking()
        self.assertTrue(one == other)
        self.assertFalse(one != other)

    def test_each_of_the_four_counts(self):
        guest = asking()
        core, rooms, log, trail = guest.core(), guest.rooms(), guest.log(), guest.trail()
        other = core_of(core.stands()[:1] + (9,) + core.stands()[2:], core.told(), core.sent())
        self.assertFalse(Guest(other, rooms, log, trail) == guest)
        self.assertFalse(Guest(core, rows({7: [1]}), log, trail) == guest)
        self.assertFalse(Guest(core, rooms, log[:1], trail) == guest)
        self.assertFalse(Guest(core, rooms, log, trail[:-1]) == guest)
        self.assertTrue(Guest(core, rooms, log, trail) == guest)

    def test_other_things(self):
        guest = asking()
        for thing in (None, 0, "", [], (), {}, guest.core(), (guest.core(), guest.rooms(), guest.log(), guest.trail())):
            self.assertFalse(guest == thing)
            self.assertTrue(guest != thing)
