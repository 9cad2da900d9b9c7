"""Points 31 and 33: asks of the disk."""

from guestsalone.codes import entry
from guestsalone.core import LATENCY, core_of
from tests.helpers import Case, machine, op, stepped


def waiting(many):
    return [op("set", 3, 0)] * many


class DiskTest(Case):
    def test_latency(self):
        self.assertEqual(LATENCY, 6)

    def test_an_ask_to_read(self):
        core, store = machine([op("set", 0, 9), op("set", 1, 15), op("out", 0, 2)] + waiting(7),
                              blocks={1: [1, 2, 3, 4, 5, 6, 7, 4095]})
        self.assertEqual(stepped(core, store, 3)[2], (2, "asked", 2, (0, "read", 1, 7)))
        self.assertEqual(core.asks(), [(0, "read", 1, 7, 8)])
        self.assertEqual((core.asks_made(), core.asks_done(), core.due()), (1, 0, []))
        stepped(core, store, 5)
        self.assertEqual((core.time(), core.asks_done(), core.due()), (8, 0, [0]))
        self.assertEqual(store.room(7), [0] * 8)
        core.step(store)
        self.assertEqual((core.asks_made(), core.asks_done(), core.due(), core.asks()), (1, 1, [], []))
        self.assertEqual(store.room(7), [1, 2, 3, 4, 5, 6, 7, 4095])
        self.assertEqual(core.blocks()[1], [1, 2, 3, 4, 5, 6, 7, 4095])

    def test_an_ask_to_write_takes_what_the_room_has_then(self):
        core, store = machine([op("set", 3, 5), op("out", 3, 3), op("set", 0, 40), op("save", 0, 40)] + waiting(9))
        # Behind register 3 comes register 0, which is 0: room 0, the table.
        told = stepped(core, store, 2)
        self.assertEqual(told[1], (1, "asked", 1, (0, "write", 5, 0)))
        stepped(core, store, 5)
        store.write_cell(0, 7, 1234)
        self.assertEqual(core.blocks()[5], [0] * 8)
        core.step(store)
        self.assertEqual(core.blocks()[5], store.room(0))
        self.assertEqual(core.blocks()[5][7], 1234)

    def test_whatever_the_table_tells(self):
        table = [entry(1), 0, 0, 0, 0, 0, 0, 0]
        core, store = machine([op("set", 1, 6), op("out", 0, 2)] + waiting(6), table=table, blocks={0: [8] * 8})
        stepped(core, store, 8)
        self.assertEqual((core.time(), store.room(6)), (8, [8] * 8))

    def test_asks_are_done_in_their_order(self):
        words = [op("set", 1, 6), op("out", 0, 2), op("set", 0, 1), op("out", 0, 3), op("wait")] + waiting(3)
        core, store = machine(words, blocks={0: [8] * 8})
        stepped(core, store, 5)
        self.assertEqual([ask[4] for ask in core.asks()], [7, 9])
        self.assertEqual((core.time(), core.due()), (8, [0]))
        stepped(core, store, 2)
        self.assertEqual(core.asks_done(), 2)
        self.assertEqual(core.blocks()[1], [8] * 8)

    def test_two_that_are_due_at_once(self):
        words = [op("set", 1, 6), op("out", 0, 2), op("set", 0, 1), op("out", 0, 3), op("in", 2, 1)] + waiting(3)
        core, store = machine(words, blocks={0: [8] * 8})
        stepped(core, store, 4)
        # A machine that came to both dues at once: the first one is read, then written on.
        stands = core.stands()
        late = core_of(stands[:3] + (500,) + stands[4:], [], [])
        self.assertEqual(late.due(), [0, 1])
        self.assertEqual(late.step(store), (500, "read", 4, 4095))
        self.assertEqual((late.blocks()[1], late.asks_done()), ([8] * 8, 2))

    def test_eight_under_way_and_a_ninth(self):
        core, store = self.eight_under_way()
        before = core.stands()
        self.assertEqual(core.step(store), (0, "asked", 0, None))
        self.assertEqual((core.asks_made(), core.asks()), (8, list(before[14])))

    def test_seven_under_way_and_an_eighth(self):
        core, store = self.eight_under_way()
        stands = core.stands()
        core = core_of(stands[:14] + (stands[14][:7], 7, 0), [], [])
        self.assertEqual(core.step(store), (0, "asked", 0, (7, "read", 0, 0)))
        self.assertEqual(len(core.asks()), 8)

    def eight_under_way(self):
        """A core with eight asks under way, none of them due yet, that asks in its next step."""
        core, store = machine([op("out", 0, 2), op("in", 0, 3), op("in", 1, 2)])
        asks = tuple((number, "read", 0, 7, 5000) for number in range(8))
        stands = core.stands()
        return core_of(stands[:14] + (asks, 8, 0), [], []), store

    def test_in_tells_how_many_are_under_way_and_done(self):
        core, store = self.eight_under_way()
        self.assertEqual([row[3] for row in stepped(core, store, 3)], [None, 8, 0])
        core, store = machine([op("out", 0, 3), op("out", 0, 3), op("in", 2, 3), op("wait"), op("in", 2, 2),
                               op("in", 3, 3)])
        self.assertEqual([row[3] for row in stepped(core, store, 6)][2:], [2, 7, 2, 0])
        self.assertEqual(core.registers(), [0, 0, 2, 0])

    def test_an_ask_that_is_due_makes_room_for_one_in_the_same_step(self):
        core, store = machine([op("out", 0, 2)])
        asks = ((4, "read", 0, 7, 100),) + tuple((number, "read", 0, 7, 105) for number in range(5, 12))
        stands = core.stands()
        core = core_of(stands[:3] + (100,) + stands[4:14] + (asks, 12, 4), [], [])
        self.assertEqual(core.step(store), (100, "asked", 0, (12, "read", 0, 0)))
        self.assertEqual((core.asks_made(), core.asks_done(), len(core.asks())), (13, 5, 8))
        self.assertEqual(core.asks()[-1], (12, "read", 0, 0, 106))

    def test_asks_are_done_ahead_of_a_trap(self):
        core, store = machine([op("set", 1, 2), op("out", 0, 2)] + waiting(5) + [op("trap", 3, 0)], blocks={0: [3] * 8})
        self.assertEqual(stepped(core, store, 8)[7], (7, "trap", 7, 4))
        self.assertEqual((core.asks_done(), store.room(2)), (1, [3] * 8))

    def test_a_read_into_the_program_is_there_in_that_very_step(self):
        words = [op("set", 1, 1), op("out", 0, 2)] + waiting(5) + [op("set", 2, 1)]
        core, store = machine(words, blocks={0: [op("halt")] * 8})
        self.assertEqual(stepped(core, store, 8)[7], (7, "ended", 7, None))

    def test_asks_are_left_where_it_ends(self):
        core, store = machine([op("out", 0, 2), op("halt")])
        stepped(core, store, 2)
        self.assertEqual((core.asks(), core.asks_done()), ([(0, "read", 0, 0, 6)], 0))
