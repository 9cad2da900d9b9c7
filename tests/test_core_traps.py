"""Points 32 and 33: places that lead nowhere, traps, and traps within traps."""

from guestsalone.codes import entry
from guestsalone.core import Core
from guestsalone.errors import Ended
from guestsalone.plain import PlainStore
from tests.helpers import Case, machine, op, rows, stepped, table_behind


def with_entries(changed):
    """The table of the tests with some entries changed, a dict by leaves."""
    return [changed.get(leaf, found) for leaf, found in enumerate(table_behind())]


class CauseTest(Case):
    def trapped(self, core, row, cause, back_to, counter):
        self.assertEqual(row[1], "trap")
        self.assertEqual(row[3], cause)
        self.assertEqual((core.cause(), core.back_to(), core.counter()), (cause, back_to, counter))
        self.assertIs(core.is_trapped(), True)
        self.assertEqual(core.state(), "runs")

    def test_a_place_that_leads_to_none(self):
        for words in ([op("trap", 0, 30), op("load", 2, 40)], [op("trap", 0, 30), op("save", 2, 40)],
                      {0: op("trap", 0, 30), 1: op("jump", 0, 4), 4: op("jump", 0, 5), 5: op("load", 1, 47)}):
            core, store = machine(words, with_entries({5: 0}))
            told = stepped(core, store, len(words))
            self.trapped(core, told[-1], 1, told[-1][2], 30)
            self.assertEqual(core.registers(), [0, 0, 0, 0])
            self.assertEqual(core.time(), len(words))

    def test_every_even_word_leads_to_none(self):
        for word in (0, 2, 4, 30, 4094):
            core, store = machine([op("load", 2, 40)], with_entries({5: word}))
            self.trapped(core, core.step(store), 1, 0, 0)

    def test_by_registers(self):
        for name in ("from", "into"):
            core, store = machine([op("set", 1, 40), op(name, 2, 1)], with_entries({5: 6}))
            self.trapped(core, stepped(core, store, 2)[1], 1, 1, 0)

    def test_a_place_that_may_not_be_written(self):
        table = with_entries({5: entry(3), 6: entry(4)})
        for words in ([op("set", 2, 9), op("save", 2, 40)], [op("set", 2, 48), op("into", 0, 2)]):
            core, store = machine(words, table)
            before = store.rooms()
            self.trapped(core, stepped(core, store, 2)[1], 2, 1, 0)
            self.assertEqual(store.rooms(), before)

    def test_what_may_not_be_written_is_read(self):
        core, store = machine({0: op("load", 2, 40), 40: 9}, with_entries({5: entry(6)}))
        self.assertEqual(core.step(store), (0, "step", 0, None))
        self.assertEqual(core.registers()[2], 9)

    def test_where_it_leads_to_none_goes_ahead_of_where_it_may_not_be_written(self):
        core, store = machine([op("save", 2, 40)], with_entries({5: 8}))
        self.trapped(core, core.step(store), 1, 0, 0)

    def test_by_nought(self):
        core, store = machine([op("trap", 0, 9), op("set", 1, 5), op("part", 1, 2)])
        self.trapped(core, stepped(core, store, 3)[2], 3, 2, 9)
        self.assertEqual(core.registers(), [0, 5, 0, 0])

    def test_called(self):
        core, store = machine([op("trap", 0, 9), op("trap", 3, 0)])
        self.assertEqual(stepped(core, store, 2)[1], (1, "trap", 1, 4))
        self.trapped(core, (1, "trap", 1, 4), 4, 2, 9)

    def test_called_at_place_63(self):
        core = Core(rows({}))
        store = PlainStore(rows({0: [entry(1, write=True)] * 8, 1: [op("jump", 0, 63)] + [0] * 6 + [op("trap", 3, 0)]}))
        told = stepped(core, store, 2)
        self.assertEqual(told[1], (1, "trap", 63, 4))
        self.assertEqual(core.back_to(), 0)

    def test_the_counters_place_leads_to_none(self):
        core, store = machine([op("trap", 0, 7), op("jump", 0, 40)], with_entries({5: 0}))
        self.assertEqual(stepped(core, store, 3)[2], (2, "trap", 40, 1))
        self.trapped(core, (2, "trap", 40, 1), 1, 40, 7)

    def test_a_table_of_noughts_from_the_beginning(self):
        core, store = Core(rows({})), PlainStore(rows({}))
        self.assertEqual(core.step(store), (0, "trap", 0, 1))
        self.assertEqual(core.step(store), (1, "fell", 0, 1))
        self.assertEqual((core.state(), core.time()), ("fell", 2))


class WithinTest(Case):
    def test_back_again(self):
        core, store = machine({0: op("trap", 0, 20), 1: op("trap", 3, 0), 2: op("halt"),
                               20: op("trap", 2, 7), 21: op("trap", 1, 0)})
        told = stepped(core, store, 5)
        self.assertEqual([row[1:] for row in told], [
            ("step", 0, None), ("trap", 1, 4), ("step", 20, None), ("step", 21, None), ("ended", 2, None)])
        self.assertEqual(core.registers(), [0, 0, 0, 4])
        self.assertIs(core.is_trapped(), False)
        self.assertEqual((core.cause(), core.back_to(), core.handler()), (4, 2, 20))

    def test_back_without_a_trap(self):
        core, store = machine([op("set", 0, 1), op("trap", 1, 0)])
        self.assertEqual(stepped(core, store, 2)[1], (1, "step", 1, None))
        self.assertEqual((core.counter(), core.is_trapped()), (0, False))

    def test_a_fault_is_tried_again_behind_its_handler(self):
        core, store = machine({0: op("trap", 0, 20), 1: op("set", 0, entry(6) & 63), 2: op("load", 1, 40),
                               20: op("save", 0, 56 + 5), 21: op("trap", 1, 0), 40: 7}, with_entries({5: 0}))
        told = stepped(core, store, 6)
        self.assertEqual([row[1] for row in told], ["step", "step", "trap", "step", "step", "step"])
        self.assertEqual((core.registers()[1], core.counter()), (7, 3))

    def test_a_trap_within_a_trap_makes_it_fall(self):
        for inner, cause in ((op("trap", 3, 0), 4), (op("part", 0, 1), 3), (op("load", 0, 40), 1)):
            core, store = machine({0: op("trap", 0, 20), 1: op("trap", 3, 0), 20: inner}, with_entries({5: 0}))
            stepped(core, store, 2)
            before = core.stands()
            self.assertEqual(core.step(store), (2, "fell", 20, cause))
            self.assertEqual(core.stands(), before[:3] + (3,) + before[4:8] + ("fell",) + before[9:])
            self.assertEqual((core.cause(), core.counter()), (4, 20))

    def test_a_second_trap_where_the_first_one_is_done(self):
        core, store = machine({0: op("trap", 0, 20), 1: op("trap", 3, 0), 2: op("part", 0, 1), 20: op("trap", 1, 0)})
        told = stepped(core, store, 4)
        self.assertEqual([row[1] for row in told], ["step", "trap", "step", "trap"])
        self.assertEqual((core.cause(), core.back_to()), (3, 2))

    def test_no_step_behind_the_end(self):
        for word, state in ((op("halt"), "ended"), (op("trap", 3, 0), "fell")):
            core, store = machine([word] * 2)
            while core.state() == "runs":
                core.step(store)
            before, rooms = core.stands(), store.rooms()
            self.refused(Ended, {"found": core.state()}, core.step, store)
            self.refused(Ended, {"found": core.state()}, core.step, None)
            self.assertEqual((core.state(), core.stands(), store.rooms()), (state, before, rooms))


class TableTest(Case):
    def test_a_program_changes_its_table(self):
        """The entry is read anew each time: what is written in the table leads at once."""
        core, store = machine({0: op("set", 0, entry(2, write=True)), 1: op("save", 0, 56 + 4), 2: op("load", 1, 32),
                               8: 77, 32: 99})
        stepped(core, store, 3)
        self.assertEqual(core.registers()[1], 77)

    def test_a_table_that_leads_its_own_program_away(self):
        core, store = machine([op("save", 0, 56)])
        self.assertEqual(stepped(core, store, 2), [(0, "step", 0, None), (1, "trap", 1, 1)])

    def test_rooms_are_read_by_the_words_of_entries_alone(self):
        core, store = machine({0: op("load", 1, 32), 8: 5}, with_entries({4: 2048 + 32 * 3 + entry(2)}))
        core.step(store)
        self.assertEqual(core.registers()[1], 5)
