"""Points 32, 33 and 34: each op, row by row."""

from guestsalone.codes import entry
from guestsalone.core import Core
from guestsalone.plain import PlainStore
from tests.helpers import Case, machine, op, rows, stepped, table_behind


def kinds(told):
    return [row[1] for row in told]


class PlainOpsTest(Case):
    def test_halt(self):
        core, store = machine([op("halt", 3, 63)])
        self.assertEqual(core.step(store), (0, "ended", 0, None))
        self.assertEqual((core.state(), core.time(), core.counter()), ("ended", 1, 1))

    def test_set(self):
        core, store = machine([op("set", 0, 63), op("set", 3, 0), op("set", 3, 7)])
        self.assertEqual(stepped(core, store, 3), [(0, "step", 0, None), (1, "step", 1, None), (2, "step", 2, None)])
        self.assertEqual(core.registers(), [63, 0, 0, 7])
        self.assertEqual((core.time(), core.counter(), core.state()), (3, 3, "runs"))

    def test_load_and_save(self):
        core, store = machine({0: op("load", 2, 20), 1: op("save", 2, 21), 20: 4095})
        self.assertEqual(stepped(core, store, 2), [(0, "step", 0, None), (1, "step", 1, None)])
        self.assertEqual(core.registers(), [0, 0, 4095, 0])
        self.assertEqual(store.room(3), [0, 0, 0, 0, 4095, 4095, 0, 0])

    def test_from_and_into_take_the_place_modulo_64(self):
        core, store = machine({0: op("load", 1, 20), 1: op("from", 2, 61), 2: op("into", 2, 58),
                               20: 64 * 5 + 21, 21: 77})
        # 61 and 58 are 1 and 2 modulo 4: the registers that tell the place.
        self.assertEqual(kinds(stepped(core, store, 3)), ["step"] * 3)
        self.assertEqual(core.registers(), [0, 341, 77, 0])
        self.assertEqual(store.read_cell((77 - 64) // 8 + 1, (77 - 64) % 8), 77)

    def test_from_into_its_own_register(self):
        core, store = machine({0: op("set", 1, 20), 1: op("from", 1, 1), 20: 999})
        stepped(core, store, 2)
        self.assertEqual(core.registers()[1], 999)

    def test_add_and_sub_modulo_4096(self):
        core, store = machine({0: op("load", 0, 20), 1: op("load", 1, 21), 2: op("add", 0, 5), 3: op("sub", 1, 4),
                               4: op("add", 0, 0), 5: op("sub", 1, 1), 20: 4000, 21: 100})
        stepped(core, store, 3)
        self.assertEqual(core.registers(), [4, 100, 0, 0])
        core.step(store)
        self.assertEqual(core.registers(), [4, 96, 0, 0])
        stepped(core, store, 2)
        self.assertEqual(core.registers(), [8, 0, 0, 0])

    def test_sub_below_nought(self):
        core, store = machine([op("set", 1, 1), op("sub", 0, 1)])
        stepped(core, store, 2)
        self.assertEqual(core.registers()[0], 4095)

    def test_part(self):
        core, store = machine([op("set", 0, 23), op("set", 1, 5), op("part", 0, 1)])
        self.assertEqual(kinds(stepped(core, store, 3)), ["step"] * 3)
        self.assertEqual(core.registers(), [4, 3, 0, 0])

    def test_part_by_its_own_register_leaves_the_rest(self):
        core, store = machine([op("set", 2, 23), op("part", 2, 2)])
        stepped(core, store, 2)
        self.assertEqual(core.registers()[2], 0)

    def test_base_takes_another_table(self):
        other = [entry(2)] * 8
        core = Core(rows({}))
        store = PlainStore(rows({0: table_behind(), 1: [op("set", 3, 13), op("base", 3, 9), op("halt")],
                                 2: [0, 0, op("set", 0, 9)], 5: other}))
        self.assertEqual(stepped(core, store, 3), [(0, "step", 0, None), (1, "step", 1, None), (2, "step", 2, None)])
        self.assertEqual((core.table(), core.registers()), (5, [9, 0, 0, 13]))

    def test_time(self):
        core, store = machine([op("time", 1, 2), op("time", 2, 0), op("time", 3, 63)])
        self.assertEqual(stepped(core, store, 3), [(0, "clock", 0, 0), (1, "clock", 1, 1), (2, "clock", 2, 0)])
        self.assertEqual(core.registers(), [0, 0, 1, 0])

    def test_a_long_time(self):
        core, store = machine([op("time", 0, 0), op("time", 1, 1), op("jump", 0, 0)])
        stepped(core, store, 3 * 4096)
        self.assertEqual(core.time(), 12288)
        self.assertEqual(stepped(core, store, 2), [(12288, "clock", 0, 0), (12289, "clock", 1, 3)])
        self.assertEqual(core.registers()[:2], [0, 3])


class JumpTest(Case):
    def taken(self, which, first, second):
        core, store = machine([op("set", 0, first), op("set", 1, second), op("jump", which, 40)])
        told = stepped(core, store, 3)
        self.assertEqual(told[2], (2, "step", 2, None))
        self.assertIn(core.counter(), (3, 40))
        return core.counter() == 40

    def test_always(self):
        self.assertTrue(self.taken(0, 0, 0))
        self.assertTrue(self.taken(0, 5, 1))

    def test_where_nought(self):
        self.assertTrue(self.taken(1, 0, 5))
        self.assertFalse(self.taken(1, 1, 5))

    def test_where_not_nought(self):
        self.assertFalse(self.taken(2, 0, 5))
        self.assertTrue(self.taken(2, 1, 5))

    def test_where_less(self):
        self.assertTrue(self.taken(3, 4, 5))
        self.assertFalse(self.taken(3, 5, 5))
        self.assertFalse(self.taken(3, 6, 5))

    def test_to_where_it_stands(self):
        core, store = machine([op("jump", 0, 0)])
        self.assertEqual(stepped(core, store, 3), [(time, "step", 0, None) for time in range(3)])


class CounterTest(Case):
    def test_behind_place_63_is_place_0(self):
        # All leaves are one room: its last cell is place 63 as well as place 7.
        core, store = machine([op("jump", 0, 63)] + [0] * 6 + [op("set", 1, 2)], table=[entry(1)] * 8)
        self.assertEqual(stepped(core, store, 3), [(0, "step", 0, None), (1, "step", 63, None), (2, "step", 0, None)])
        self.assertEqual(core.registers()[1], 2)


class OutTest(Case):
    def test_told_modulo_128(self):
        core, store = machine({0: op("load", 2, 20), 1: op("out", 2, 0), 2: op("out", 2, 4), 20: 128 * 3 + 65})
        self.assertEqual(stepped(core, store, 3)[1:], [(1, "told", 1, 65), (2, "told", 2, 65)])
        self.assertEqual((core.told(), core.sent(), core.asks()), ([65, 65], [], []))

    def test_sent_with_the_next_register_as_port(self):
        core, store = machine({0: op("load", 3, 20), 1: op("set", 0, 13), 2: op("out", 3, 1), 3: op("out", 0, 5),
                               20: 4095})
        # Behind register 3 comes register 0.
        self.assertEqual(stepped(core, store, 4)[2:], [(2, "sent", 2, (5, 4095)), (3, "sent", 3, (0, 13))])
        self.assertEqual((core.told(), core.sent()), ([], [(5, 4095), (0, 13)]))

    def test_in_of_empty_queues(self):
        core, store = machine([op("in", 1, 0), op("in", 2, 1), op("in", 3, 2), op("in", 0, 3)])
        self.assertEqual(stepped(core, store, 4), [
            (0, "read", 0, 4095), (1, "read", 1, 4095), (2, "read", 2, 0), (3, "read", 3, 0)])
        self.assertEqual(core.registers(), [0, 4095, 4095, 0])

    def test_in_takes_the_first_of_its_queue(self):
        core, store = machine([op("in", 0, 0), op("in", 1, 1), op("in", 2, 4), op("in", 3, 61)])
        for kind, word in (("line", 1), ("net", 4000), ("line", 127), ("net", 0)):
            core.arrive(kind, word)
        self.assertEqual([row[3] for row in stepped(core, store, 2)], [1, 4000])
        self.assertEqual((core.queue("line"), core.queue("net")), ([127], [0]))
        self.assertEqual([row[3] for row in stepped(core, store, 2)], [127, 0])
        self.assertEqual((core.queue("line"), core.queue("net")), ([], []))


class WaitTest(Case):
    def test_idle_where_nothing_is_under_way(self):
        core, store = machine([op("set", 0, 1), op("wait", 2, 9)])
        core.step(store)
        before = core.stands()
        self.assertIsNone(core.step(store))
        self.assertEqual(core.state(), "idle")
        self.assertEqual(core.stands(), before[:8] + ("idle",) + before[9:])

    def test_an_idle_machine_is_stepped_again(self):
        core, store = machine([op("wait")])
        self.assertIsNone(core.step(store))
        self.assertIsNone(core.step(store))
        self.assertEqual((core.state(), core.time()), ("idle", 0))
        store.write_cell(1, 0, op("set", 1, 5))
        self.assertEqual(core.step(store), (0, "step", 0, None))
        self.assertEqual(core.state(), "runs")

    def test_nothing_where_a_queue_has_a_word(self):
        for kind in ("line", "net"):
            core, store = machine([op("wait"), op("wait")])
            core.arrive(kind, 5)
            self.assertEqual(stepped(core, store, 2), [(0, "waited", 0, 1), (1, "waited", 1, 2)])
            self.assertEqual((core.counter(), core.state(), core.queue(kind)), (2, "runs", [5]))

    def test_a_word_goes_ahead_of_asks_under_way(self):
        core, store = machine([op("out", 0, 2), op("wait"), op("in", 0, 0), op("wait")])
        core.arrive("line", 5)
        self.assertEqual(stepped(core, store, 4)[1:], [(1, "waited", 1, 2), (2, "read", 2, 5), (3, "waited", 3, 7)])

    def test_until_the_first_ask_is_due(self):
        core, store = machine([op("out", 0, 2), op("out", 0, 3), op("wait"), op("halt")])
        self.assertEqual(stepped(core, store, 3)[2], (2, "waited", 2, 7))
        self.assertEqual((core.time(), core.asks_done(), core.due()), (7, 0, [0, 1]))
        core.step(store)
        self.assertEqual((core.asks_done(), core.due(), core.asks()), (2, [], []))

    def test_where_an_ask_is_due_in_the_very_step(self):
        words = [op("out", 0, 3)] + [op("set", 0, 0)] * 5 + [op("wait"), op("wait")]
        core, store = machine(words)
        self.assertEqual(stepped(core, store, 7)[6], (6, "waited", 6, 7))
        self.assertEqual(core.asks_done(), 1)
        self.assertIsNone(core.step(store))

    def test_where_one_is_done_in_the_very_step_and_others_are_under_way(self):
        words = [op("out", 0, 3), op("out", 0, 3)] + [op("set", 0, 0)] * 4 + [op("wait"), op("wait")]
        core, store = machine(words)
        self.assertEqual(stepped(core, store, 7)[6], (6, "waited", 6, 7))
        self.assertEqual((core.asks_done(), len(core.asks())), (1, 1))
        self.assertEqual(core.step(store), (7, "waited", 7, 8))

    def test_an_arrival_wakes_an_idle_machine(self):
        core, store = machine([op("wait"), op("in", 0, 1)])
        core.step(store)
        core.arrive("net", 9)
        self.assertEqual((core.state(), core.time()), ("runs", 0))
        self.assertEqual(stepped(core, store, 2), [(0, "waited", 0, 1), (1, "read", 1, 9)])
