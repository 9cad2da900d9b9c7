"""Point 121: logs and trails as texts."""

from guestsalone.errors import NoLog, NoRow, NoText
from guestsalone.logtext import log_text, read_log, read_trail, trail_text
from guestsalone.plain import run_alone
from tests.chance import any_image, any_log, chance_of, some_image
from tests.helpers import GREATEST, Case
from tests.test_plain import NO_LOGS

NO_TEXTS = [None, True, 0, GREATEST, [], ["1 line 2"], ("1 line 2",), {}]
ALL_KINDS = [
    ((0, "step", 0, None), "0 step 0"), ((1, "trap", 63, 4), "1 trap 63 4"), ((2, "fell", 9, 1), "2 fell 9 1"),
    ((3, "told", 1, 127), "3 told 1 127"), ((9, "sent", 20, (3, 4095)), "9 sent 20 3 4095"),
    ((9, "asked", 5, (0, "read", 7, 0)), "9 asked 5 0 read 7 0"),
    ((9, "asked", 5, (12, "write", 0, 7)), "9 asked 5 12 write 0 7"), ((9, "asked", 5, None), "9 asked 5"),
    ((9, "read", 6, 4095), "9 read 6 4095"), ((10, "clock", 7, 0), "10 clock 7 0"), ((10, "clock", 7, 4095), "10 clock 7 4095"),
    ((11, "waited", 8, 99), "11 waited 8 99"), ((100, "ended", 63, None), "100 ended 63"),
    ((GREATEST, "waited", 0, GREATEST), f"{GREATEST} waited 0 {GREATEST}"),
    ((GREATEST, "asked", 0, (GREATEST, "read", 1, 2)), f"{GREATEST} asked 0 {GREATEST} read 1 2"),
    ((0, "waited", 0, 0), "0 waited 0 0"), ((0, "trap", 0, 1), "0 trap 0 1"), ((0, "fell", 0, 4), "0 fell 0 4"),
]
# Each stands for one row, or one thing of it, that no step tells.
NO_ROWS = [
    None, True, 0, "0 step 0", [], (), [0, "step", 0, None], (0, "step", 0), (0, "step", 0, None, None),
    (True, "step", 0, None), (-1, "step", 0, None), ("0", "step", 0, None), (None, "step", 0, None),
    (0, "Step", 0, None), (0, "stepped", 0, None), (0, None, 0, None), (0, ["step"], 0, None), (0, "idle", 0, None),
    (0, "step", 64, None), (0, "step", -1, None), (0, "step", True, None), (0, "step", None, None),
    (0, "step", 0, 0), (0, "step", 0, False), (0, "step", 0, ()), (0, "ended", 0, 1), (0, "ended", 0, ""),
    (0, "trap", 0, 0), (0, "trap", 0, 5), (0, "trap", 0, True), (0, "trap", 0, None), (0, "trap", 0, (1,)),
    (0, "fell", 0, 0), (0, "fell", 0, 5), (0, "fell", 0, "1"),
    (0, "told", 0, 128), (0, "told", 0, -1), (0, "told", 0, None), (0, "told", 0, False),
    (0, "read", 0, 4096), (0, "read", 0, -1), (0, "read", 0, None), (0, "clock", 0, 4096), (0, "clock", 0, -1), (0, "clock", 0, (1,)),
    (0, "waited", 0, -1), (0, "waited", 0, None), (0, "waited", 0, True), (0, "waited", 0, "9"),
    (0, "sent", 0, None), (0, "sent", 0, 3), (0, "sent", 0, (3,)), (0, "sent", 0, (8, 0)), (0, "sent", 0, (-1, 0)),
    (0, "sent", 0, (0, 4096)), (0, "sent", 0, (0, -1)),
    (0, "sent", 0, [3, 4]), (0, "sent", 0, (3, 4, 5)), (0, "sent", 0, (True, 4)), (0, "sent", 0, (3, None)),
    (0, "asked", 0, 1), (0, "asked", 0, ()), (0, "asked", 0, [0, "read", 0, 0]), (0, "asked", 0, (0, "read", 0)),
    (0, "asked", 0, (0, "read", 0, 0, 6)), (0, "asked", 0, (-1, "read", 0, 0)), (0, "asked", 0, (0, "told", 0, 0)),
    (0, "asked", 0, (0, None, 0, 0)), (0, "asked", 0, (0, ["read"], 0, 0)), (0, "asked", 0, (0, "read", 8, 0)),
    (0, "asked", 0, (0, "write", 0, 8)), (0, "asked", 0, (0, "write", -1, 0)), (0, "asked", 0, (0, "write", 0, -1)),
    (0, "asked", 0, (True, "read", 0, 0)), (0, "asked", 0, False),
]
# Texts of rows that no trail has.
NO_TRAIL_ROWS = [
    "", " ", "0", "0 step", "0 step 0 ", " 0 step 0", "0  step 0", "0 step  0", "0 step 0 0", "00 step 0", "01 step 0",
    "0 step 00", "0 step 07", "0 step 64", "-1 step 0", "+1 step 0", "a step 0", "0 Step 0", "0 3 0", "0 idle 0",
    f"{GREATEST + 1} step 0", "1" + "0" * 30 + " step 0", "0 trap 0", "0 trap 0 0", "0 trap 0 5", "0 trap 0 1 1",
    "0 trap 0 01", "0 fell 0 0", "0 fell 0 5", "0 told 0", "0 told 0 128", "0 told 0 a", "0 read 0 4096", "0 clock 0",
    "0 waited 0", f"0 waited 0 {GREATEST + 1}", "0 waited 0 1 2", "0 sent 0", "0 sent 0 1", "0 sent 0 8 0",
    "0 sent 0 0 4096", "0 sent 0 1 2 3", "0 asked 0 1", "0 asked 0 0 read 0", "0 asked 0 0 read 8 0",
    "0 asked 0 0 write 0 8", "0 asked 0 0 told 0 0", "0 asked 0 0 1 0 0", "0 asked 0 read 0 0 0", "0 asked 0 None",
    "0 asked 0 0 read 0 0 0", "0 ended 0 0", "0 ended 0 ", "step 0 0", "0\tstep 0", "0 line 5",
]
NO_LOG_ROWS = [
    "", " ", "0", "0 line", "0 line 5 ", " 0 line 5", "0  line 5", "0 line  5", "0 line 5 5", "00 line 5", "0 line 05",
    "0 line 128", "0 net 4096", "0 Line 5", "0 6 5", "0 line net", "-1 line 5", "0 line -5", "0 step 5", "line 0 5",
    f"{GREATEST + 1} line 5", "0 net", "0 line a", "0\tline 5", "0 line 5\r",
]


class WrittenTest(Case):
    def test_logs(self):
        self.assertEqual(log_text([]), "")
        self.assertEqual(log_text(()), "")
        self.assertEqual(log_text([(0, "line", 127), (0, "net", 4095), (20, "line", 0)]),
                         "0 line 127\n0 net 4095\n20 line 0")
        self.assertEqual(log_text(log=((GREATEST, "net", 0),)), f"{GREATEST} net 0")

    def test_trails(self):
        self.assertEqual(trail_text([]), "")
        for row, text in ALL_KINDS:
            self.assertEqual(trail_text([row]), text)
            self.assertEqual(trail_text(trail=(row, row)), text + "\n" + text)
        self.assertEqual(trail_text([row for row, _ in ALL_KINDS]), "\n".join(text for _, text in ALL_KINDS))

    def test_a_trails_rows_are_looked_at_each_by_itself(self):
        self.assertEqual(trail_text([(9, "ended", 1, None), (3, "step", 1, None)]), "9 ended 1\n3 step 1")

    def test_of_2400_and_one_more(self):
        log, trail = [(0, "net", 1)] * 2400, [(0, "step", 0, None)] * 2400
        self.assertEqual((len(log_text(log).split("\n")), len(trail_text(trail).split("\n"))), (2400, 2400))
        log.append(log[0])
        trail.append(trail[0])
        self.refused_found(NoLog, log, log_text, log)
        self.refused_found(NoLog, trail, trail_text, trail)

    def test_refusals(self):
        for thing in NO_LOGS:
            self.refused_found(NoLog, thing, log_text, thing)
        for thing in [None, True, 0, GREATEST, "", "0 step 0", {}, (0, "step", 0, None)]:
            self.refused_found(NoLog, thing, trail_text, thing)
        for row in NO_ROWS:
            for thing in ([row], (row,), [(0, "step", 0, None), row]):
                self.refused_found(NoLog, thing, trail_text, thing)


class ReadTest(Case):
    def test_what_is_written_is_read(self):
        for seed in range(60):
            chance = chance_of(seed)
            log = any_log(chance)
            self.assertEqual(read_log(log_text(log)), log)
            machine = run_alone(chance.choice([any_image, some_image])(chance), log, end=400)
            self.assertEqual(read_trail(trail_text(machine.trail())), machine.trail())
            self.assertEqual(read_log(log_text(machine.log())), machine.log())
        for row, text in ALL_KINDS:
            self.assertEqual(read_trail(text), [row])
        self.assertEqual(read_trail("\n".join(text for _, text in ALL_KINDS)), [row for row, _ in ALL_KINDS])

    def test_texts_without_signs(self):
        self.assertEqual((read_log(""), read_trail("")), ([], []))
        self.assertEqual((read_log(text="1 net 2"), read_trail(text="1 step 2")), ([(1, "net", 2)], [(1, "step", 2, None)]))

    def test_rows_that_are_none(self):
        for read, good, rows in ((read_trail, "5 step 1", NO_TRAIL_ROWS), (read_log, "0 line 5", NO_LOG_ROWS)):
            for row in rows:
                if row != "":
                    self.refused(NoRow, {"at": 0}, read, row)
                self.refused(NoRow, {"at": 0}, read, row + "\n" + good)
                self.refused(NoRow, {"at": 1}, read, good + "\n" + row)
                self.refused(NoRow, {"at": 2}, read, "\n".join([good, good, row, row]))

    def test_lesser_times(self):
        self.refused(NoRow, {"at": 2}, read_log, "1 net 2\n5 net 2\n4 net 2\n3 net 2")
        self.assertEqual(read_log("1 net 2\n1 net 2"), [(1, "net", 2)] * 2)
        self.assertEqual(read_trail("5 step 2\n4 step 2\n4 step 2"),
                         [(5, "step", 2, None), (4, "step", 2, None), (4, "step", 2, None)])

    def test_the_2401st_row(self):
        for read, row in ((read_log, "0 net 1"), (read_trail, "0 step 0")):
            self.assertEqual(len(read("\n".join([row] * 2400))), 2400)
            for more in (1, 2, 700):
                self.refused(NoRow, {"at": 2400}, read, "\n".join([row] * (2400 + more)))
            self.refused(NoRow, {"at": 2400}, read, "\n".join([row] * 2400 + ["x"]))
            self.refused(NoRow, {"at": 2399}, read, "\n".join([row] * 2399 + ["x", row]))

    def test_of_200000_signs_and_one_more(self):
        for read in (read_log, read_trail):
            for text in ("x" * 200000, "\n" * 200000, "0 net 1\n" * 25000):
                with self.assertRaises(NoRow):
                    read(text)
                longer = text + "x"
                with self.assertRaises(NoText) as caught:
                    read(longer)
                self.assertTrue(caught.exception.found is longer)

    def test_the_longest_that_is_written_is_read(self):
        trail = [(GREATEST, "asked", 63, (GREATEST, "write", 7, 7))] * 2400
        self.assertEqual(read_trail(trail_text(trail)), trail)

    def test_refusals(self):
        for thing in NO_TEXTS:
            self.refused_found(NoText, thing, read_log, thing)
            self.refused_found(NoText, thing, read_trail, thing)

    def test_told_new_each_time(self):
        text = "1 net 2\n3 net 4"
        read_log(text).append(1)
        self.assertEqual((read_log(text), type(read_log(text)[0])), ([(1, "net", 2), (3, "net", 4)], tuple))
        trail = read_trail("1 sent 2 3 4")
        self.assertEqual((trail, type(trail[0]), type(trail[0][3])), ([(1, "sent", 2, (3, 4))], tuple, tuple))
