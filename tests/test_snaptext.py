"""Points 94 and 95: snapshots as texts."""

from guestsalone.core import Core, core_of
from guestsalone.errors import NoRow, NoSnapshot, NoText
from guestsalone.house import Guest
from guestsalone.images import image_text
from guestsalone.plain import run_alone
from guestsalone.snapshots import run_on
from guestsalone.snaptext import guest_text, read_guest
from tests.chance import any_log, chance_of, some_image
from tests.helpers import GREATEST, NO_ROOMS, Case, rows
from tests.test_guest import asking, guest_of
from tests.test_house import NO_SNAPSHOTS

AT_FIRST = ["guest 0 0 0 0 0 0 0 0 0 0 0 runs 0 0", "line", "net", "told", "sent"]
BUSY = [
    "guest 1 4095 0 3 63 7 999999 62 61 4 1 idle 12 10", "line 0 127", "net 4095 0 7", "told 127 0", "sent 7 4095 0 0",
    "ask 10 read 7 0 5", "ask 11 write 0 7 5", "log 0 line 127", "log 0 net 4095", "log 9 line 0",
    "room 1", "halt 0 0", "set 1 5", "block 7", "word 9",
]
BUSY_GUEST = Guest(
    core_of(((1, 4095, 0, 3), 63, 7, 999999, 62, 61, 4, True, "idle", (0, 127), (4095, 0, 7), 2, 2, rows({7: [9]}),
             ((10, "read", 7, 0, 5), (11, "write", 0, 7, 5)), 12, 10), [127, 0], [(7, 4095), (0, 0)]),
    rows({1: [0, 256 + 64 + 5]}), [(0, "line", 127), (0, "net", 4095), (9, "line", 0)], [])


def without_trail(guest):
    return Guest(guest.core(), guest.rooms(), guest.log(), ())


def text_of(told):
    return "\n".join(told)


def changed(told, at, row):
    """A text whose row of this number is another one."""
    return text_of(told[:at] + [row] + told[at + 1:])


class WrittenTest(Case):
    def test_one_with_nothing(self):
        self.assertEqual(guest_text(Guest(Core(NO_ROOMS), NO_ROOMS, (), ())), text_of(AT_FIRST))

    def test_one_with_everything(self):
        self.assertEqual(guest_text(BUSY_GUEST), text_of(BUSY))
        self.assertEqual(guest_text(guest=BUSY_GUEST), text_of(BUSY))

    def test_the_image_is_written_as_an_image(self):
        guest = asking()
        core = guest.core()
        image = image_text((guest.rooms(), core.stands()[13]))
        self.assertTrue(guest_text(guest).endswith("\n" + image))
        self.assertEqual(guest_text(guest).split("\n")[:8], [
            "guest 0 5 0 0 6 0 6 0 0 0 0 runs 5 0", "line 5", "net 9", "told", "sent", "ask 0 write 0 5 7",
            "ask 1 write 0 5 8", "ask 2 write 0 5 9"])

    def test_the_trail_is_not_written(self):
        guest = asking()
        self.assertEqual(guest_text(guest), guest_text(without_trail(guest)))

    def test_states_and_truths(self):
        for state in ("runs", "idle", "ended", "fell"):
            stands = Core(NO_ROOMS).stands()
            core = core_of(stands[:7] + (True, state) + stands[9:], [], [])
            row = guest_text(Guest(core, NO_ROOMS, (), ())).split("\n")[0]
            self.assertEqual(row, f"guest 0 0 0 0 0 0 0 0 0 0 1 {state} 0 0")

    def test_no_snapshot(self):
        for thing in NO_SNAPSHOTS:
            self.refused_found(NoSnapshot, thing, guest_text, thing)


class ReadTest(Case):
    def test_with_nothing_and_with_everything(self):
        self.assertTrue(read_guest(text_of(AT_FIRST)) == Guest(Core(NO_ROOMS), NO_ROOMS, (), ()))
        guest = read_guest(text=text_of(BUSY))
        self.assertTrue(guest == BUSY_GUEST)
        self.assertEqual((guest.trail(), guest.core().stands()), ([], BUSY_GUEST.core().stands()))
        self.assertEqual(guest_text(guest), text_of(BUSY))

    def test_what_is_written_is_read_as_an_equal_guest(self):
        asked = 0
        for seed in range(200):
            chance = chance_of(seed)
            guest = guest_of(run_alone(some_image(chance), any_log(chance), end=chance.randrange(80)))
            read = read_guest(guest_text(guest))
            self.assertTrue(read == without_trail(guest))
            self.assertEqual(read.trail(), [])
            asked += len(read.core().asks())
            on, other = run_on(read, end=120), run_on(guest, end=120)
            self.assertEqual(guest.trail() + on.trail(), other.trail())
            self.assertTrue(without_trail(on) == without_trail(other))
        self.assertGreater(asked, 30)

    def test_rows_without_signs_and_of_blanks_and_many_blanks(self):
        text = "\n".join(["", "   ", ""] + [f"  {row.replace(' ', '   ')} \n \n" for row in BUSY])
        self.assertTrue(read_guest(text) == BUSY_GUEST)

    def test_times_of_the_log_may_be_beyond_the_guests(self):
        guest = read_guest(text_of(AT_FIRST + ["log 999999 net 1"]))
        self.assertEqual((guest.core().time(), guest.log()), (0, [(999999, "net", 1)]))

    def test_eight_asks(self):
        told = ["guest 0 0 0 0 0 0 0 0 0 0 0 runs 999999 999991"] + AT_FIRST[1:]
        asks = [f"ask {number} read 0 0 999999" for number in range(999991, 999999)]
        guest = read_guest(text_of(told + asks))
        self.assertEqual([ask[0] for ask in guest.core().asks()], list(range(999991, 999999)))
        self.assertEqual((guest.core().asks_made(), guest.core().asks_done()), (999999, 999991))

    def test_none_under_way_of_most(self):
        text = text_of(["guest 0 0 0 0 0 0 0 0 0 0 0 runs 999999 999999"] + AT_FIRST[1:])
        self.assertEqual((guest_text(read_guest(text)), read_guest(text).core().asks()), (text, []))

    def test_dues_may_be_equal_and_behind_the_time(self):
        told = ["guest 0 0 0 0 0 0 500 0 0 0 0 runs 3 1"] + AT_FIRST[1:] + ["ask 1 read 0 0 7", "ask 2 read 0 0 7"]
        self.assertEqual(read_guest(text_of(told)).core().due(), [1, 2])

    def test_2400_arrivals_and_one_more(self):
        log = ["log 3 net 1"] * 2400
        self.assertEqual(len(read_guest(text_of(AT_FIRST + log)).log()), 2400)
        self.refused(NoRow, {"at": 2405}, read_guest, text_of(AT_FIRST + log + ["log 3 net 1"]))
        self.refused(NoRow, {"at": 2406}, read_guest, text_of(AT_FIRST + [""] + log + ["log 3 net 1", "room 1"]))

    def test_no_text(self):
        for thing in (None, True, 0, GREATEST, [], AT_FIRST, (), {}, BUSY_GUEST, NO_ROOMS):
            self.refused_found(NoText, thing, read_guest, thing)


class NoRowTest(Case):
    def at(self, number, text):
        self.refused(NoRow, {"at": number}, read_guest, text)

    def test_rows_lack_at_the_end(self):
        for many in range(1, 5):
            self.at(many, text_of(AT_FIRST[:many]))
            self.at(many + 3, text_of(AT_FIRST[:many] + ["", "  ", ""]))
        self.at(1, "")
        self.at(1, "   ")
        self.at(3, "\n\n")
        self.at(5, text_of(BUSY[:5]))
        self.at(6, text_of(BUSY[:6]))
        self.at(7, text_of(BUSY[:6] + [""]))

    def test_rows_are_told_in_their_order(self):
        for first in range(5):
            for other in range(first + 1, 5):
                told = list(AT_FIRST)
                told[first], told[other] = told[other], told[first]
                self.at(first, text_of(told))
        self.at(0, text_of(AT_FIRST[1:]))
        self.at(5, text_of(AT_FIRST + ["line"]))
        self.at(1, text_of(AT_FIRST[:1] + AT_FIRST))

    def test_the_first_row_that_is_not_so_goes(self):
        self.at(1, text_of(AT_FIRST[:1] + ["line 128"]))
        self.at(0, "guest")
        self.at(2, text_of(AT_FIRST[:2] + ["net x", "told x"]))
        self.at(4, "\n\n" + AT_FIRST[0] + "\n\nlines")

    def test_numbers_and_their_bounds(self):
        words = AT_FIRST[0].split(" ")
        bounds = [4095] * 4 + [63, 7, 999999, 63, 63, 4095, 1]
        for at, most in enumerate(bounds):
            for told, so in ((str(most), True), (str(most + 1), False), ("-1", False), ("01", False), ("", False),
                             ("x", False), ("+1", False), ("1000000", False), ("0x1", False)):
                row = " ".join(words[:at + 1] + [told] + words[at + 2:])
                if so:
                    guest = read_guest(changed(AT_FIRST, 0, row))
                    self.assertEqual(guest_text(guest), changed(AT_FIRST, 0, row))
                else:
                    self.at(0, changed(AT_FIRST, 0, row))

    def test_the_row_guest(self):
        for row in ("guest", "guests 0 0 0 0 0 0 0 0 0 0 0 runs 0 0", "guest 0 0 0 0 0 0 0 0 0 0 0 runs 0",
                    "guest 0 0 0 0 0 0 0 0 0 0 0 runs 0 0 0", "guest 0 0 0 0 0 0 0 0 0 0 0 run 0 0",
                    "guest 0 0 0 0 0 0 0 0 0 0 0 0 0 0", "guest 0 0 0 0 0 0 0 0 0 0 2 runs 0 0",
                    "guest 0 0 0 0 0 0 0 0 0 0 0 runs 0 1", "guest 0 0 0 0 0 0 0 0 0 0 0 runs 9 0",
                    "guest 0 0 0 0 0 0 0 0 0 0 0 runs 1000000 999999", "guest 0 0 0 0 0 0 0 0 0 0 0 runs -1 -1",
                    "guest 0 0 0 0 0 0 0 0 0 0 yes runs 0 0", "Guest 0 0 0 0 0 0 0 0 0 0 0 runs 0 0"):
            self.at(0, changed(AT_FIRST, 0, row))
        self.at(0, "guest 0 0 0 0 0 0 0 0 0 0 0 runs 9 0")
        self.at(5, text_of(["guest 0 0 0 0 0 0 0 0 0 0 0 runs 8 0"] + AT_FIRST[1:]))

    def test_the_rows_of_words(self):
        for at, most in ((1, 127), (2, 4095), (3, 127)):
            word = AT_FIRST[at]
            self.assertTrue(read_guest(changed(AT_FIRST, at, f"{word} {most} 0 {most}")))
            for told in (str(most + 1), "-1", "x", "01", f"0 {most + 1}", "line"):
                self.at(at, changed(AT_FIRST, at, f"{word} {told}"))
        self.assertEqual(read_guest(changed(AT_FIRST, 4, "sent 7 4095 0 1")).core().sent(), [(7, 4095), (0, 1)])
        for told in ("7", "8 0", "0 4096", "0 0 7", "0 0 8 0", "x 0", "0 x", "0 0 0 4096"):
            self.at(4, changed(AT_FIRST, 4, f"sent {told}"))

    def test_the_rows_of_asks(self):
        for at, row in ((5, "ask 10 read 7 0"), (5, "ask 10 read 7 0 5 0"), (5, "ask 10 look 7 0 5"),
                        (5, "ask 10 read 8 0 5"), (5, "ask 10 read 7 8 5"), (5, "ask 10 read 7 0 1000000"),
                        (5, "ask 9 read 7 0 5"), (5, "ask 11 read 7 0 5"), (5, "asks 10 read 7 0 5"), (5, "ask"),
                        (6, "ask 11 write 0 7 4"), (6, "ask 10 write 0 7 5"), (6, "ask 12 write 0 7 5"),
                        (6, "log 0 line 127"), (5, "room 1"), (5, "ask 10 read 7 0 6")):
            # A due that rises here is refused where the next one falls.
            self.at(6 if row.endswith(" 6") else at, changed(BUSY, at, row))
        self.at(7, changed(BUSY, 7, "ask 12 read 0 0 9"))
        self.at(5, text_of(AT_FIRST + ["ask 0 read 0 0 1"]))

    def test_the_rows_of_the_log(self):
        for at, row in ((7, "log 0 line 128"), (8, "log 0 net 4096"), (7, "log 1000000 line 1"), (7, "log 0 disk 1"),
                        (7, "log 0 line"), (7, "log 0 line 1 1"), (7, "log -1 line 1"), (7, "logs 0 line 1"),
                        (7, "log"), (9, "log 00 line 0")):
            self.at(at, changed(BUSY, at, row))
        self.at(8, changed(BUSY, 7, "log 1 line 127"))
        self.at(7, text_of(AT_FIRST + ["log 3 net 1", "log 5 net 1", "log 4 net 1"]))
        self.assertEqual(read_guest(changed(BUSY, 9, "log 999999 line 127")).log()[2], (999999, "line", 127))
        self.at(15, text_of(BUSY + ["log 9 line 1"]))
        self.at(11, text_of(BUSY[:11] + ["log 9 line 1"]))

    def test_the_rows_of_the_image(self):
        for at, row in ((10, "room 8"), (11, "word 4096"), (12, "sett 1 5"), (13, "block"), (14, "words 9")):
            self.at(at, changed(BUSY, at, row))
        self.at(10, changed(BUSY, 10, "word 1"))
        self.at(16, text_of(AT_FIRST + ["", "block 0"] + ["word 1"] * 8 + ["", "word 1"]))
        self.assertEqual(read_guest(text_of(AT_FIRST + ["room 3", "leaf 2 write", "none", "room 3", "word 1"])).rooms(),
                         rows({3: [11, 0, 1]}))
