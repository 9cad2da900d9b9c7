"""Points 41 to 44: the plain store, the plain machine, and runs alone."""

from guestsalone.core import Core
from guestsalone.errors import Ended, NoImage, NoKind, NoLog, NoNumber, NoWord
from guestsalone.images import image_of
from guestsalone.plain import PlainMachine, PlainStore, is_log, run_alone
from tests.chance import any_image, any_log, chance_of
from tests.helpers import GREATEST, NO_ROOMS, Case, beyond, op, rooms_with, rows
from tests.test_core import NO_BLOCKS
from tests.test_images import EMPTY, NO_IMAGES

ROOMS = tuple(tuple(8 * room + cell for cell in range(8)) for room in range(8))


def image_with(words, table=None, blocks=None):
    return rooms_with(words, table), rows(blocks or {})


ECHO = image_with([op("wait"), op("in", 0, 0), op("out", 0, 0), op("jump", 0, 0)])
LOOP = image_with([op("set", 0, 1), op("add", 1, 0), op("jump", 0, 0)])


def everything(machine):
    """All that a plain machine tells."""
    return machine.core(), machine.store().rooms(), machine.log(), machine.trail(), machine.time(), machine.state()


class StoreTest(Case):
    def test_cells(self):
        store = PlainStore(ROOMS)
        self.assertEqual([[store.read_cell(room, cell) for cell in range(8)] for room in range(8)],
                         [list(room) for room in ROOMS])
        self.assertIsNone(store.write_cell(3, 7, 4095))
        self.assertEqual(store.read_cell(3, 7), 4095)
        self.assertEqual(store.room(3), [24, 25, 26, 27, 28, 29, 30, 4095])
        self.assertEqual(store.rooms(), ROOMS[:3] + ((24, 25, 26, 27, 28, 29, 30, 4095),) + ROOMS[4:])

    def test_by_names(self):
        store = PlainStore(rooms=ROOMS)
        store.write_cell(room=1, cell=2, word=9)
        self.assertEqual((store.read_cell(room=1, cell=2), store.room(number=1)[2]), (9, 9))

    def test_told_new_each_time(self):
        store = PlainStore(ROOMS)
        store.room(0).append(5)
        store.room(0)[0] = 9
        self.assertEqual((store.room(0), store.rooms()), (list(range(8)), ROOMS))
        self.assertIs(type(store.rooms()), tuple)
        self.assertEqual({type(room) for room in store.rooms()}, {tuple})

    def test_twins(self):
        store = PlainStore(ROOMS)
        twin = store.twin()
        twin.write_cell(0, 0, 77)
        store.write_cell(0, 1, 88)
        self.assertEqual((store.room(0)[:2], twin.room(0)[:2]), ([0, 88], [77, 1]))

    def test_refusals(self):
        for thing in NO_BLOCKS:
            self.refused_found(NoImage, thing, PlainStore, thing)
        store = PlainStore(ROOMS)
        for thing in beyond(0, 7):
            self.refused_found(NoNumber, thing, store.room, thing)
            self.refused_found(NoNumber, thing, store.read_cell, thing, [])
            self.refused_found(NoNumber, thing, store.read_cell, 0, thing)
            self.refused_found(NoNumber, thing, store.write_cell, thing, [], [])
            self.refused_found(NoNumber, thing, store.write_cell, 0, thing, [])
        for thing in beyond(0, 4095):
            self.refused_found(NoWord, thing, store.write_cell, 0, 0, thing)
        self.assertEqual(store.rooms(), ROOMS)


class MachineTest(Case):
    def test_at_first(self):
        image = image_of({0: [1, 2]}, blocks={7: [9]})
        machine = PlainMachine(image)
        self.assertEqual(machine.core(), Core(image[1]))
        self.assertEqual(machine.store().rooms(), image[0])
        self.assertEqual((machine.time(), machine.state(), machine.log(), machine.trail()), (0, "runs", [], []))

    def test_no_image(self):
        for thing in NO_IMAGES:
            self.refused_found(NoImage, thing, PlainMachine, thing)

    def test_steps_and_arrivals(self):
        machine = PlainMachine(ECHO)
        self.assertIsNone(machine.step())
        self.assertEqual((machine.state(), machine.trail()), ("idle", []))
        self.assertIsNone(machine.arrive("line", 65))
        self.assertEqual([machine.step() for _ in range(4)], [
            (0, "waited", 0, 1), (1, "read", 1, 65), (2, "told", 2, 65), (3, "step", 3, None)])
        machine.arrive(kind="net", word=4000)
        machine.arrive("line", 66)
        self.assertEqual(machine.log(), [(0, "line", 65), (4, "net", 4000), (4, "line", 66)])
        self.assertEqual(machine.trail(), [
            (0, "waited", 0, 1), (1, "read", 1, 65), (2, "told", 2, 65), (3, "step", 3, None)])
        self.assertEqual((machine.time(), machine.state(), machine.core().told()), (4, "runs", [65]))

    def test_refused_arrivals_are_not_in_the_log(self):
        machine = PlainMachine(image_with([op("halt")]))
        for kind, word, error, found in ((["line"], 1, NoKind, 0), ("line", [1], NoWord, 1), ("disk", [1], NoKind, 0)):
            self.refused_found(error, (kind, word)[found], machine.arrive, kind, word)
        for thing in beyond(0, 127):
            self.refused_found(NoWord, thing, machine.arrive, "line", thing)
        for thing in beyond(0, 4095):
            self.refused_found(NoWord, thing, machine.arrive, "net", thing)
        machine.step()
        self.refused(Ended, {"found": "ended"}, machine.arrive, "line", 1)
        self.refused(Ended, {"found": "ended"}, machine.step)
        self.assertEqual((machine.log(), machine.trail()), ([], [(0, "ended", 0, None)]))
        self.assertEqual((machine.core().queue("line"), machine.core().queue("net")), ([], []))

    def test_where_it_fell(self):
        machine = PlainMachine(EMPTY)
        self.assertEqual([machine.step(), machine.step()], [(0, "trap", 0, 1), (1, "fell", 0, 1)])
        self.refused(Ended, {"found": "fell"}, machine.step)
        self.refused(Ended, {"found": "fell"}, machine.arrive, "net", 1)
        self.assertEqual(machine.state(), "fell")

    def test_what_is_told_is_new_and_twins_go_their_own_way(self):
        machine = run_alone(ECHO, [(0, "line", 65), (0, "line", 66)], end=6)
        before = everything(machine)
        machine.core().arrive("line", 1)
        machine.core().step(machine.store())
        machine.store().write_cell(0, 0, 0)
        machine.log().clear()
        machine.trail().append(1)
        twin = machine.twin()
        self.assertEqual(everything(twin), before)
        twin.step()
        twin.arrive("line", 7)
        self.assertEqual(everything(machine), before)
        other = machine.twin()
        machine.step()
        machine.arrive("line", 7)
        self.assertEqual(everything(other), before)

    def test_the_store_of_a_twin_is_its_own(self):
        machine = PlainMachine(image_with([op("set", 0, 5), op("save", 0, 40)]))
        twin = machine.twin()
        for _ in range(2):
            twin.step()
        self.assertEqual((machine.store().room(6)[0], twin.store().room(6)[0]), (0, 5))


class LogTest(Case):
    def test_what_is_one(self):
        for thing in ([], (), [(0, "line", 0)], ((0, "net", 4095), (0, "line", 127)),
                      [(5, "net", 0), (5, "net", 1), (9, "line", 3)], [(GREATEST, "line", 1)]):
            self.assertIs(is_log(thing), True)

    def test_2400_arrivals_and_one_more(self):
        self.assertIs(is_log([(3, "net", 4095)] * 2400), True)
        self.assertIs(is_log([(3, "net", 4095)] * 2401), False)
        self.assertIs(is_log(((3, "net", 4095),) * 2401), False)

    def test_what_is_none(self):
        for thing in NO_LOGS:
            self.assertIs(is_log(thing), False)

    def test_times_never_fall(self):
        self.assertIs(is_log([(1, "net", 0), (0, "net", 0)]), False)
        self.assertIs(is_log([(0, "net", 0), (7, "net", 0), (6, "line", 0)]), False)
        self.assertIs(is_log([(0, "net", 0), (7, "net", 0), (7, "line", 0)]), True)


NO_LOGS = [
    None, True, 0, GREATEST, "", "line", {}, {0: (0, "line", 1)}, (0, "line", 1), [0], [None], [()], [[0, "line", 1]],
    [(0, "line")], [(0, "line", 1, 1)], [("0", "line", 1)], [(-1, "line", 1)], [(True, "line", 1)], [(None, "line", 1)],
    [([], "line", 1)], [(0, "disk", 1)], [(0, "", 1)], [(0, None, 1)], [(0, ["line"], 1)], [(0, {}, 1)],
    [(0, "line", 128)], [(0, "line", -1)], [(0, "net", 4096)], [(0, "net", True)], [(0, "line", "a")],
    [(0, "net", [1])], [(0, "line", None)], [(0, "line", 1), (0, "line", 128)], [(2, "line", 1), (1, "line", 1)],
]


class RunTest(Case):
    def test_by_default(self):
        machine = run_alone(LOOP)
        self.assertEqual((machine.time(), machine.state(), len(machine.trail()), machine.log()), (100, "runs", 100, []))

    def test_end_nought(self):
        machine = run_alone(LOOP, end=0)
        self.assertEqual((machine.time(), machine.trail()), (0, []))
        self.assertEqual(machine.core(), Core(NO_ROOMS))
        machine = run_alone(LOOP, [(0, "line", 5), (1, "line", 6)], end=0)
        self.assertEqual((machine.time(), machine.log(), machine.core().queue("line")), (0, [(0, "line", 5)], [5]))

    def test_end_20000(self):
        machine = run_alone(LOOP, end=20000)
        self.assertEqual((machine.time(), len(machine.trail()), machine.state()), (20000, 20000, "runs"))

    def test_by_steps(self):
        machine = run_alone(LOOP, [], end=7)
        other = PlainMachine(LOOP)
        for _ in range(7):
            other.step()
        self.assertEqual((machine.core(), machine.store().rooms(), machine.trail()),
                         (other.core(), other.store().rooms(), other.trail()))

    def test_until_it_ends_or_falls(self):
        machine = run_alone(image_with([op("set", 0, 1), op("halt")]), [(2, "line", 1)], end=50)
        self.assertEqual((machine.state(), machine.time(), machine.log()), ("ended", 2, []))
        machine = run_alone(EMPTY, [(1, "line", 1), (2, "line", 2)], end=50)
        self.assertEqual((machine.state(), machine.time(), machine.log()), ("fell", 2, [(1, "line", 1)]))

    def test_until_it_is_idle(self):
        machine = run_alone(ECHO, [(0, "line", 65), (9, "line", 66)], end=50)
        self.assertEqual((machine.state(), machine.time(), machine.log()), ("idle", 4, [(0, "line", 65)]))
        self.assertEqual(machine.core().told(), [65])

    def test_arrivals_come_ahead_of_the_step_of_their_time(self):
        machine = run_alone(LOOP, [(0, "line", 1), (3, "line", 2), (3, "net", 3), (5, "net", 4), (6, "net", 5)], end=5)
        self.assertEqual(machine.log(), [(0, "line", 1), (3, "line", 2), (3, "net", 3), (5, "net", 4)])
        self.assertEqual((machine.core().queue("line"), machine.core().queue("net")), ([1, 2], [3, 4]))

    def test_arrivals_of_a_time_that_was_passed_come_at_its_own_time(self):
        image = image_with([op("set", 1, 7), op("out", 0, 3), op("wait"), op("wait"), op("wait")])
        machine = run_alone(image, [(4, "line", 1), (5, "net", 2), (8, "net", 3)], end=8)
        self.assertEqual(machine.trail()[2], (2, "waited", 2, 8))
        self.assertEqual(machine.log(), [(8, "line", 1), (8, "net", 2), (8, "net", 3)])

    def test_a_time_moved_beyond_the_end(self):
        image = image_with([op("set", 1, 7), op("out", 0, 3), op("wait")])
        machine = run_alone(image, end=4)
        self.assertEqual((machine.time(), len(machine.trail())), (8, 3))

    def test_a_log_of_2400(self):
        log = [(number // 2, "net", number) for number in range(2400)]
        machine = run_alone(LOOP, log, end=1200)
        self.assertEqual((machine.log(), machine.core().queue("net")), (log, list(range(2400))))

    def test_refusals(self):
        for thing in NO_IMAGES:
            self.refused_found(NoImage, thing, run_alone, thing)
        for thing in NO_LOGS:
            self.refused_found(NoLog, thing, run_alone, EMPTY, thing)
        for thing in beyond(0, 20000):
            self.refused_found(NoNumber, thing, run_alone, EMPTY, end=thing)
        log = [(0, "line", 1)] * 2401
        self.refused_found(NoLog, log, run_alone, EMPTY, log)

    def test_the_first_that_is_due_goes(self):
        image, log, end = [1], [2], [3]
        self.refused_found(NoImage, image, run_alone, image, log, end=end)
        self.refused_found(NoLog, log, run_alone, EMPTY, log, end=end)
        self.refused_found(NoNumber, end, run_alone, EMPTY, [], end=end)

    def test_the_end_is_told_by_its_name_alone(self):
        self.assertRaises(TypeError, run_alone, EMPTY, [], 5)
        self.assertEqual(run_alone(image=LOOP, log=(), end=1).time(), 1)

    def test_the_log_that_is_handed_in_stays(self):
        log = [(0, "line", 1), (1, "net", 2)]
        machine = run_alone(LOOP, log, end=5)
        log.append((2, "net", 3))
        machine.log().append(1)
        self.assertEqual(machine.log(), [(0, "line", 1), (1, "net", 2)])
        self.assertEqual(log, [(0, "line", 1), (1, "net", 2), (2, "net", 3)])


class BeginningTest(Case):
    def test_a_lesser_end_is_a_beginning(self):
        for number in range(150):
            chance = chance_of(number)
            image, log = any_image(chance), any_log(chance)
            end = chance.randrange(60)
            less, more = run_alone(image, log, end=end), run_alone(image, log, end=end + chance.randrange(80))
            self.assertEqual(more.trail()[:len(less.trail())], less.trail())
            self.assertEqual(more.log()[:len(less.log())], less.log())
            self.assertEqual(more.core().told()[:len(less.core().told())], less.core().told())

    def test_an_idle_machine_stands_as_one_that_ran_to_its_time(self):
        idle = 0
        for number in range(400):
            chance = chance_of(number)
            image, log = any_image(chance), any_log(chance)
            machine = run_alone(image, log, end=400)
            if machine.state() == "idle":
                other = run_alone(image, log, end=machine.time())
                stands = machine.core().stands()
                self.assertEqual(other.core().stands(), stands[:8] + ("runs",) + stands[9:])
                self.assertEqual((other.store().rooms(), other.trail(), other.log()),
                                 (machine.store().rooms(), machine.trail(), machine.log()))
                idle += 1
        self.assertGreater(idle, 20)
