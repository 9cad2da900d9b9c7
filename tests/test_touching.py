"""Points 135 and 136: where tables lead, and the rooms that a run reads and writes."""

from guestsalone.codes import entry, entry_parts
from guestsalone.errors import NoImage, NoLog, NoNumber
from guestsalone.images import image_of
from guestsalone.plain import run_alone
from guestsalone.touching import leads, touched
from tests.chance import any_image, any_log, chance_of, some_image
from tests.helpers import NO_ROOMS, Case, beyond, op, rows
from tests.oracle import Oracle
from tests.test_core import NO_BLOCKS
from tests.test_images import EMPTY, NO_IMAGES
from tests.test_plain import ECHO, NO_LOGS, image_with


class Watcher(Oracle):
    """A second machine that notes down which rooms each step touches."""

    def step(self):
        self.read, self.written = {self.table}, set()
        for _, kind, _, room, due in self.asks:
            if due <= self.time:
                (self.written if kind == "read" else self.read).add(room)
        row = super().step()
        if row is not None:
            self.seen.append((sorted(self.read), sorted(self.written)))
        return row

    def get(self, place):
        room, _ = self.where(place)
        self.read.add(room)
        return super().get(place)

    def put(self, place, word):
        room, _ = self.where(place, True)
        self.written.add(room)
        super().put(place, word)


class LeadsTest(Case):
    def test_ordinary_tables(self):
        rooms = rows({0: [entry(3), entry(1, write=True), 0, entry(3, write=True), entry(5), 2, 4094, 4095]})
        self.assertEqual(leads(rooms, 0), ([1, 3, 5, 7], [1, 3, 7]))
        self.assertEqual(leads(rooms=rooms, table=1), ([], []))

    def test_to_no_room_and_to_one_several_times(self):
        self.assertEqual(leads(NO_ROOMS, 7), ([], []))
        self.assertEqual(leads(rows({2: [2, 4, 6, 4094]}), 2), ([], []))
        self.assertEqual(leads(rows({2: [entry(4)] * 8}), 2), ([4], []))
        self.assertEqual(leads(rows({2: [entry(4), entry(4, write=True), entry(4)]}), 2), ([4], [4]))
        self.assertEqual(leads(rows({7: [entry(room, write=True) for room in range(7, -1, -1)]}), 7),
                         (list(range(8)), list(range(8))))

    def test_any_tables(self):
        for seed in range(50):
            chance = chance_of(seed)
            rooms = tuple(tuple(chance.randrange(4096) for _ in range(8)) for _ in range(8))
            for table in range(8):
                ways = [entry_parts(word) for word in rooms[table] if entry_parts(word)]
                self.assertEqual(leads(rooms, table), (sorted({way[0] for way in ways}),
                                                       sorted({way[0] for way in ways if way[1]})))

    def test_told_new_each_time(self):
        rooms = rows({0: [entry(1, write=True)]})
        told = leads(rooms, 0)
        self.assertEqual((type(told), type(told[0]), type(told[1])), (tuple, list, list))
        told[0].append(9)
        self.assertEqual((told[1], leads(rooms, 0)), ([1], ([1], [1])))

    def test_refusals(self):
        for thing in NO_BLOCKS:
            self.refused_found(NoImage, thing, leads, thing, None)
        for thing in beyond(0, 7):
            self.refused_found(NoNumber, thing, leads, NO_ROOMS, thing)


class TouchedTest(Case):
    def touched_by(self, *words, **told):
        """The rooms that a program touches whose words stand in room 1 and behind, by the usual table."""
        return touched(image_with(list(words), **told))

    def test_each_op_reads_the_table_and_the_counters_room(self):
        ops = [op("set", 0, 9), op("add", 0, 0), op("sub", 1, 0), op("part", 0, 0), op("time", 0, 0), op("out", 0, 0),
               op("in", 0, 0), op("jump", 0, 8), op("halt")]
        told = self.touched_by(*ops)
        self.assertEqual(told, [([0, 1], [])] * 8 + [([0, 2], [])])

    def test_loads_and_saves(self):
        told = self.touched_by(op("set", 1, 40), op("load", 0, 33), op("from", 0, 1), op("save", 0, 41), op("into", 0, 1),
                               op("save", 2, 1), op("load", 0, 1), op("load", 0, 63))
        self.assertEqual(told[:8], [([0, 1], []), ([0, 1, 5], []), ([0, 1, 6], []), ([0, 1], [6]), ([0, 1], [6]),
                                    ([0, 1], [1]), ([0, 1], []), ([0, 1], [])])

    def test_the_same_word_too(self):
        self.assertEqual(self.touched_by(op("save", 0, 40), op("halt")), [([0, 1], [6]), ([0, 1], [])])

    def test_a_table_taken(self):
        table = [entry(room, write=True) for room in (1, 2, 3, 4, 5, 6, 7, 0)]
        rooms = {0: table, 1: [op("set", 0, 5), op("base", 0), op("halt")], 5: [entry(1)] + [0] * 7}
        self.assertEqual(touched(image_of(rooms)), [([0, 1], []), ([0, 1], []), ([1, 5], [])])

    def test_traps(self):
        table = [entry(1), entry(2), 0] + [0] * 5
        rooms = {0: table, 1: [op("trap", 0, 8), op("load", 0, 16)], 2: [op("save", 0, 0)]}
        # A load that leads nowhere reads no further room; neither does a save that may not be done.
        self.assertEqual(touched(image_of(rooms)), [([0, 1], []), ([0, 1], []), ([0, 2], [])])
        self.assertEqual(touched(EMPTY), [([0], []), ([0], [])])

    def test_asks_of_the_disk(self):
        reader = [op("set", 0, 3), op("set", 1, 5), op("out", 0, 2), op("set", 1, 6), op("out", 0, 3), op("wait"),
                  op("wait"), op("halt")]
        told = self.touched_by(*reader, blocks={3: [1, 2]})
        self.assertEqual(told, [([0, 1], [])] * 6 + [([0, 1], [5]), ([0, 1, 6], [])])

    def test_to_rooms_that_the_table_does_not_lead_to(self):
        """The disk alone writes there."""
        rooms = {0: [entry(1)], 1: [op("set", 0, 3), op("set", 1, 5), op("out", 0, 2), op("wait"), op("wait"), op("halt")]}
        told = touched(image_of(rooms, blocks={3: [1]}))
        self.assertEqual(told, [([0, 1], [])] * 4 + [([0, 1], [5]), ([0, 1], [])])

    def test_ends(self):
        for end in (0, 1, 2, 100):
            self.assertEqual(len(touched(image_with([op("jump", 0, 0)]), end=end)), end)
        self.assertEqual(len(touched(image_with([op("jump", 0, 0)]))), 100)
        self.assertEqual(touched(image=ECHO, log=[(0, "line", 5)], end=2), [([0, 1], [])] * 2)

    def test_one_for_each_row(self):
        rows_seen, written = 0, 0
        for seed in range(80):
            chance = chance_of(seed)
            image, log = chance.choice([any_image, some_image])(chance), any_log(chance)
            end = chance.randrange(300)
            told = touched(image, log, end=end)
            machine = run_alone(image, log, end=end)
            self.assertEqual(len(told), len(machine.trail()))
            watcher = Watcher(image)
            watcher.seen = []
            watcher.run(log, end)
            self.assertEqual((watcher.trail, told), (machine.trail(), watcher.seen))
            rows_seen += len(told)
            written += len([1 for _, rooms in told if rooms])
        self.assertGreater(rows_seen, 3000)
        self.assertGreater(written, 200)

    def test_but_for_the_disk_a_step_writes_where_its_table_leads(self):
        for seed in range(40):
            chance = chance_of(seed)
            image = some_image(chance)
            told = touched(image, (), end=120)
            for at, row in enumerate(run_alone(image, end=120).trail()):
                before = run_alone(image, end=row[0])
                due = [ask for ask in before.core().asks() if ask[4] <= row[0]]
                if not due:
                    may = leads(before.store().rooms(), before.core().table())[1]
                    self.assertLessEqual(set(told[at][1]), set(may))

    def test_told_new_each_time(self):
        told = touched(ECHO, [(0, "line", 1)], end=2)
        self.assertEqual((type(told), type(told[0]), type(told[0][0]), type(told[0][1])), (list, tuple, list, list))
        told[0][0].append(7)
        self.assertEqual((told[1], touched(ECHO, [(0, "line", 1)], end=2)), (([0, 1], []), [([0, 1], [])] * 2))

    def test_refusals(self):
        for thing in NO_IMAGES:
            self.refused_found(NoImage, thing, touched, thing, None, end=None)
        for thing in NO_LOGS:
            self.refused_found(NoLog, thing, touched, ECHO, thing, end=None)
        for thing in beyond(0, 20000):
            self.refused_found(NoNumber, thing, touched, ECHO, (), end=thing)
        self.assertRaises(TypeError, touched, ECHO, (), 5)
