"""Points 31, 35 and 36: what a core has, what comes to it, and how it stands."""

from guestsalone.core import Core, core_of
from guestsalone.errors import Ended, NoImage, NoKind, NoWord
from guestsalone.plain import PlainStore, run_alone
from tests.chance import any_image, any_log, chance_of
from tests.helpers import GREATEST, NO_ROOMS, NOUGHTS, Case, beyond, machine, op, rows, stepped

NO_BLOCKS = [
    None, True, 0, "", [], (), {}, list(NO_ROOMS), NO_ROOMS[:7], NO_ROOMS + (NOUGHTS,), NO_ROOMS[:7] + (list(NOUGHTS),),
    NO_ROOMS[:7] + (NOUGHTS[:7],), NO_ROOMS[:7] + ((0,) * 7 + (4096,),), NO_ROOMS[:7] + ((0,) * 7 + (True,),),
    NO_ROOMS[:7] + ((0,) * 7 + (-1,),), NO_ROOMS[:7] + ((0,) * 7 + (GREATEST,),), (NO_ROOMS, NO_ROOMS),
]
AT_FIRST = ((0, 0, 0, 0), 0, 0, 0, 0, 0, 0, False, "runs", (), (), 0, 0, NO_ROOMS, (), 0, 0)


def busy():
    """A core that has something of everything, and its store."""
    core, store = machine({0: op("trap", 0, 20), 1: op("out", 0, 0), 2: op("set", 1, 6), 3: op("out", 0, 1),
                           4: op("out", 1, 3), 5: op("out", 0, 2), 6: op("set", 3, 9), 7: op("in", 2, 0),
                           8: op("in", 2, 1), 9: op("out", 2, 0), 10: op("out", 2, 1), 11: op("out", 3, 3),
                           12: op("trap", 3, 0), 20: op("base", 3, 0)},
                          blocks={2: [5] * 8})
    for kind, word in (("line", 1), ("net", 2), ("line", 3)):
        core.arrive(kind, word)
    stepped(core, store, 7)
    return core, store


class MadeTest(Case):
    def test_at_first(self):
        core = Core(NO_ROOMS)
        self.assertEqual(core.stands(), AT_FIRST)
        self.assertEqual(core.registers(), [0] * 4)
        self.assertEqual((core.told(), core.sent(), core.asks(), core.due()), ([], [], [], []))
        self.assertEqual((core.queue("line"), core.queue("net")), ([], []))
        self.assertEqual(core.blocks(), [[0] * 8 for _ in range(8)])
        for call in (core.counter, core.table, core.time, core.handler, core.back_to, core.cause, core.asks_made,
                     core.asks_done):
            self.assertEqual((call(), type(call())), (0, int))
        self.assertIs(core.is_trapped(), False)
        self.assertEqual(core.state(), "runs")

    def test_blocks(self):
        core = Core(blocks=rows({3: [1, 2], 7: [0] * 7 + [4095]}))
        self.assertEqual(core.blocks()[3], [1, 2, 0, 0, 0, 0, 0, 0])
        self.assertEqual(core.blocks()[7][7], 4095)
        self.assertEqual(core.stands()[13], rows({3: [1, 2], 7: [0] * 7 + [4095]}))

    def test_no_blocks(self):
        for thing in NO_BLOCKS:
            self.refused_found(NoImage, thing, Core, thing)


class ToldTest(Case):
    def test_everything(self):
        core, store = busy()
        self.assertEqual(core.registers(), [0, 6, 0, 9])
        self.assertEqual((core.counter(), core.table(), core.time(), core.handler()), (7, 0, 7, 20))
        self.assertEqual((core.told(), core.sent()), ([0], [(6, 0)]))
        self.assertEqual((core.queue("line"), core.queue("net")), ([1, 3], [2]))
        self.assertEqual(core.asks(), [(0, "write", 6, 0, 10), (1, "read", 0, 6, 11)])
        self.assertEqual((core.asks_made(), core.asks_done()), (2, 0))
        self.assertEqual(core.stands(), (
            (0, 6, 0, 9), 7, 0, 7, 20, 0, 0, False, "runs", (1, 3), (2,), 1, 1, rows({2: [5] * 8}),
            ((0, "write", 6, 0, 10), (1, "read", 0, 6, 11)), 2, 0))
        stepped(core, store, 7)
        self.assertEqual((core.table(), core.cause(), core.back_to(), core.is_trapped()), (1, 4, 13, True))

    def test_due_by_the_time(self):
        stands = busy()[0].stands()
        for time, due in ((9, []), (10, [0]), (11, [0, 1]), (500, [0, 1])):
            self.assertEqual(core_of(stands[:3] + (time,) + stands[4:], [0], [(6, 0)]).due(), due)

    def test_lists_are_new_each_time(self):
        core, _ = busy()
        before, told, sent = core.stands(), core.told(), core.sent()
        for call in (core.registers, core.told, core.sent, core.asks, core.due, core.blocks):
            call().append(7)
        core.queue("line").clear()
        core.blocks()[2][0] = 9
        core.blocks()[2].clear()
        self.assertEqual((core.stands(), core.told(), core.sent()), (before, told, sent))

    def test_asking_changes_nothing(self):
        one, other = busy()[0], busy()[0]
        for call in (one.registers, one.told, one.sent, one.asks, one.blocks, one.due, one.stands, one.twin, one.state):
            self.assertEqual(call(), call())
        self.assertEqual(one, other)

    def test_no_queue(self):
        core, _ = busy()
        for thing in (None, True, 0, "", "Line", "lines", "net ", [], ["line"], ("net",), {"line": 1}, core):
            self.refused_found(NoKind, thing, core.queue, thing)


class ArriveTest(Case):
    def test_words_go_behind_their_queue(self):
        core = Core(NO_ROOMS)
        for kind, word in (("line", 0), ("net", 4095), ("line", 127), ("net", 0)):
            self.assertIsNone(core.arrive(kind, word))
        self.assertEqual((core.queue("line"), core.queue("net")), ([0, 127], [4095, 0]))
        self.assertEqual(core.stands(), AT_FIRST[:9] + ((0, 127), (4095, 0)) + AT_FIRST[11:])

    def test_refusals(self):
        core, _ = busy()
        before = core.stands()
        for thing in (None, True, 0, "", "disk", "NET", [], ["line"], ("line",), {}, GREATEST):
            self.refused_found(NoKind, thing, core.arrive, thing, 1)
            self.refused_found(NoKind, thing, core.arrive, thing, -1)
        for thing in beyond(0, 4095):
            self.refused_found(NoWord, thing, core.arrive, "net", thing)
        for thing in beyond(0, 127):
            self.refused_found(NoWord, thing, core.arrive, "line", thing)
        self.assertEqual(core.stands(), before)

    def test_where_it_ended_or_fell(self):
        for word, state in ((op("halt"), "ended"), (op("trap", 3, 0), "fell")):
            core, store = machine([word] * 2)
            while core.state() == "runs":
                core.step(store)
            before = core.stands()
            self.refused(Ended, {"found": core.state()}, core.arrive, "line", 1)
            kind, late = ["line"], [1]
            self.refused_found(NoKind, kind, core.arrive, kind, late)
            self.refused_found(NoWord, late, core.arrive, "net", late)
            self.assertEqual((core.stands(), core.state()), (before, state))

    def test_by_names(self):
        core = Core(NO_ROOMS)
        core.arrive(kind="net", word=5)
        self.assertEqual(core.queue(kind="net"), [5])


class EqualTest(Case):
    def test_equal_cores(self):
        one, other = busy()[0], busy()[0]
        self.assertTrue(one == other)
        self.assertFalse(one != other)

    def test_other_things(self):
        core = Core(NO_ROOMS)
        for thing in (None, 0, "", [], (), {}, core.stands(), PlainStore(NO_ROOMS)):
            self.assertFalse(core == thing)
            self.assertTrue(core != thing)

    def test_each_part_counts(self):
        core, _ = busy()
        stands, told, sent = core.stands(), core.told(), core.sent()
        changed = [
            (0, (1, 6, 0, 9)), (1, 8), (2, 1), (3, 8), (4, 21), (5, 1), (6, 1), (7, True), (8, "idle"), (9, (1,)),
            (10, ()), (13, NO_ROOMS), (14, ((0, "write", 6, 0, 10), (1, "read", 0, 6, 12))),
        ]
        for at, thing in changed:
            other = core_of(stands[:at] + (thing,) + stands[at + 1:], told, sent)
            self.assertFalse(other == core, at)
            self.assertEqual(other.stands()[at], thing)
        self.assertFalse(core_of(stands[:14] + (stands[14][1:], 2, 1), told, sent) == core)
        self.assertFalse(core_of(stands[:11] + (1,) + stands[12:], [1], sent) == core)
        self.assertFalse(core_of(stands, told, [(6, 1)]) == core)
        self.assertTrue(core_of(stands, told, sent) == core)


class CoreOfTest(Case):
    def test_it_stands_so_and_goes_on_so(self):
        for number in range(120):
            chance = chance_of(number)
            plain = run_alone(any_image(chance), any_log(chance), end=chance.randrange(60))
            core, store = plain.core(), plain.store()
            other, rooms = core_of(core.stands(), core.told(), core.sent()), plain.store()
            self.assertEqual(other, core)
            self.assertEqual(other.stands(), core.stands())
            for _ in range(20):
                if core.state() not in ("runs", "idle"):
                    break
                self.assertEqual(other.step(rooms), core.step(store))
            self.assertEqual(other, core)
            self.assertEqual(rooms.rooms(), store.rooms())

    def test_lists_may_be_tuples_and_are_kept_as_copies(self):
        core, _ = busy()
        told, sent = core.told(), core.sent()
        other = core_of(core.stands(), tuple(told), tuple(sent))
        third = core_of(core.stands(), told, sent)
        told.append(1)
        sent.append((1, 1))
        self.assertTrue(core == other and core == third)

    def test_by_names(self):
        core, _ = busy()
        self.assertEqual(core_of(stands=core.stands(), told=core.told(), sent=core.sent()), core)


class TwinTest(Case):
    def test_a_twin_goes_its_own_way(self):
        core, store = busy()
        rooms = store.twin()
        twin = core.twin()
        before = core.stands(), core.told(), core.sent(), store.rooms()
        self.assertEqual(twin, core)
        twin.arrive("line", 9)
        stepped(twin, rooms, 7)
        self.assertEqual((core.stands(), core.told(), core.sent(), store.rooms()), before)
        self.assertNotEqual(twin, core)

    def test_the_first_one_goes_its_own_way(self):
        core, store = busy()
        twin = core.twin()
        before = twin.stands(), twin.told(), twin.sent()
        core.arrive("net", 9)
        stepped(core, store, 7)
        self.assertEqual((twin.stands(), twin.told(), twin.sent()), before)
