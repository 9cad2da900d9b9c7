"""Point 141: the lines of a desk, read."""

from guestsalone.core import Core
from guestsalone.errors import NoLine
from guestsalone.lines import read_line
from tests.helpers import GREATEST, NO_ROOMS, Case

LINES = [
    ("world a 1 4 b 64 60", ("world", "a", 1, 4, "b", 64, 60)),
    ("world a 1 4 b 64 60 c 0 999999", ("world", "a", 1, 4, "b", 64, 60, "c", 0, 999999)),
    ("image echo room 0 / leaf 1", ("image", "echo", "room 0 / leaf 1")),
    ("come a ann echo 0 1 12", ("come", "a", "ann", "echo", 0, 1, 12)),
    ("keep ann", ("keep", "ann")),
    ("keep ann whole", ("keep", "ann", "whole")),
    ("say ann hi you", ("say", "ann", "hi you")),
    ("fall a", ("fall", "a")),
    ("rise a", ("rise", "a")),
    ("up ann b 1 12", ("up", "ann", "b", 1, 12)),
    ("move ann b 2 8 1 12", ("move", "ann", "b", 2, 8, 1, 12)),
    ("road ann round", ("road", "ann", "round")),
    ("road ann come 3", ("road", "ann", "come", 3)),
    ("turns a 9", ("turns", "a", 9)),
    ("undo", ("undo",)),
    ("where ann", ("where", "ann")),
    ("phase ann", ("phase", "ann")),
    ("told ann", ("told", "ann")),
    ("state ann", ("state", "ann")),
    ("time ann", ("time", "ann")),
    ("trail ann 5", ("trail", "ann", 5)),
    ("stops ann", ("stops", "ann")),
    ("letters ann", ("letters", "ann")),
    ("used a", ("used", "a")),
    ("guests", ("guests",)),
    ("houses", ("houses",)),
    ("standing", ("standing",)),
]
# Where numbers stand in a line, by the line's first word.
NUMBERS = {"world": (2, 3, 5, 6, 8, 9), "come": (4, 5, 6), "up": (3, 4), "move": (3, 4, 5, 6), "turns": (2,), "trail": (2,)}
NO_LINES = [
    None, True, 0, GREATEST, [], ["guests"], ("guests",), {}, Core(NO_ROOMS), "", " ", "\n", "nothing", "Guests", "guest",
    "guests\n", "\nguests", "fall a\nfall b", "say ann a\nb", "say ann \n", "image a b\n", "GUESTS", "NAME", "world",
    "world a 1 4", "world a 1 4 b 64", "world a 1 4 b 64 60 c", "world a 1 4 b 64 60 c 1 4 d 1 4", "image", "image a",
    "image ", "come", "keep", "keep ann half", "keep ann Whole", "keep ann whole whole", "say", "say ann", "say ",
    "fall", "rise", "up ann b 1", "up ann b 1 -", "move ann b 2 8 1", "road", "road ann", "road ann come 3 3",
    "turns a", "trail ann", "undo undo", "undo 1", "guests ann", "houses a", "standing a", "used", "where",
    "road ann come x", "road ann come -", "turns 9 a", "deeds", "twin",
]


class LinesTest(Case):
    def test_all_forms(self):
        for line, told in LINES:
            self.assertEqual(read_line(line), told)
            self.assertIs(type(read_line(line)), tuple)
        self.assertEqual(read_line(line="guests"), ("guests",))
        self.assertEqual(len({told[0] for _, told in LINES}), 24)

    def test_any_words(self):
        self.assertEqual(read_line("fall 12"), ("fall", "12"))
        self.assertEqual(read_line("keep Ann!"), ("keep", "Ann!"))
        self.assertEqual(read_line("keep keep whole"), ("keep", "keep", "whole"))
        self.assertEqual(read_line("road ann 3"), ("road", "ann", "3"))
        self.assertEqual(read_line("road undo / 3"), ("road", "undo", "/", 3))
        self.assertEqual(read_line("come - -- 007 7 0 1"), ("come", "-", "--", "007", 7, 0, 1))
        self.assertEqual(read_line("world 1 1 4 2 1 4"), ("world", "1", 1, 4, "2", 1, 4))

    def test_texts(self):
        for text in ("", " ", "   ", "a", " a", "a ", "  a  b  ", "/", " / ", " /  / ", " / a / ", "room 0 / set 0 1"):
            self.assertEqual(read_line("say ann " + text), ("say", "ann", text))
            self.assertEqual(read_line("image a " + text), ("image", "a", text))

    def test_numbers(self):
        for text, number in (("0", 0), ("7", 7), ("10", 10), ("999999", 999999)):
            self.assertEqual(read_line(f"turns a {text}"), ("turns", "a", number))
            self.assertEqual(read_line(f"road a come {text}"), ("road", "a", "come", number))
        for text in ("1000000", "0000001", "01", "00", "-1", "+1", "a", "1a", "-", "", "1.0", "\u0661"):
            for line, told in LINES:
                words = line.split(" ")
                for at in NUMBERS.get(words[0], ()):
                    if at < len(words):
                        wrong = " ".join(words[:at] + [text] + words[at + 1:])
                        self.refused_found(NoLine, wrong, read_line, wrong)
            wrong = f"road ann come {text}"
            self.refused_found(NoLine, wrong, read_line, wrong)

    def test_a_blank_too_many(self):
        for line, told in LINES:
            words = line.split(" ")
            last = 2 if words[0] in ("say", "image") else len(words)
            for at in range(last):
                wrong = " ".join(words[:at] + [""] + words[at:])
                self.refused_found(NoLine, wrong, read_line, wrong)
            if words[0] not in ("say", "image"):
                for wrong in (line + " ", line + " more", line + " 9 9"):
                    self.refused_found(NoLine, wrong, read_line, wrong)

    def test_a_word_too_few(self):
        for line, told in LINES:
            words = line.split(" ")
            for many in range(len(words)):
                wrong = " ".join(words[:many])
                if words[0] not in ("say", "image", "keep", "road", "world") or many < 2:
                    self.refused_found(NoLine, wrong, read_line, wrong)

    def test_what_is_none(self):
        for thing in NO_LINES:
            self.refused_found(NoLine, thing, read_line, thing)
