"""Points 122, 123 and 124: deeds, and histories."""

from guestsalone.core import Core
from guestsalone.deeds import do, history_text, is_deed, read_history, replayed
from guestsalone.errors import (
    Doubled, Fallen, Full, NoDeed, NoGuest, NoHouse, NoNumber, NoRow, NotMoving, NoText, NoWorld, Standing, TooMuch,
)
from guestsalone.images import image_of, image_text, read_image
from guestsalone.world import World
from tests.helpers import GREATEST, NO_ROOMS, Case
from tests.test_plain import ECHO, LOOP
from tests.worlds import SPEAKER, THREE, TWO, everything, moved, talking, world_of

EMPTY = "world east 6 12 west 4 8"
LOOP_TEXT = image_text(LOOP)
COME = ("come", "east", "ann", LOOP_TEXT, 0, 1, None)
NINE = [
    COME, ("keep", "ann", True), ("keep", "ann", False), ("turns", "east", 9), ("say", "ann", "hi  you "),
    ("say", "ann", ""), ("say", "ann", "  "), ("fall", "west"), ("rise", "west"), ("move", "ann", "west", 8, 60, 1, 8),
    ("road", "ann", "round", None), ("road", "ann", "come", 1), ("road", "ann", "off", None), ("fall", "east"),
    ("up", "ann", "west", 2, None),
]
NO_DEEDS = [
    None, True, 0, GREATEST, "", "fall", [], (), {}, ["fall", "east"], ("fall",), ("fall", "east", "west"),
    ("Fall", "east"), ("falls", "east"), (None, "east"), (["fall"], "east"), ("fall", None), ("fall", 1),
    ("fall", ["east"]), ("rise", True), ("rise",), ("turns", "east"), ("turns", "east", None), ("turns", "east", True),
    ("turns", "east", "9"), ("turns", 9, "east"), ("keep", "ann"), ("keep", "ann", None), ("keep", "ann", 1),
    ("keep", "ann", "whole"), ("keep", True, True), ("say", "ann"), ("say", "ann", None), ("say", "ann", ["a"]),
    ("say", None, "a"), COME[:6], COME + (None,), COME[:3] + (None, 0, 1, None), COME[:3] + (LOOP, 0, 1, None),
    COME[:3] + ("room 9", 0, 1, None), COME[:3] + ("set 0 1", 0, 1, None), COME[:4] + (None, 1, None),
    COME[:4] + (0, None, None), COME[:4] + (0, 1, "4"), COME[:4] + (0, 1, False), COME[:4] + (True, 1, None),
    ("come", 1, "ann", "", 0, 1, None), ("come", "east", 1, "", 0, 1, None), ("up", "ann", "east", 1),
    ("up", "ann", "east", None, None), ("up", "ann", "east", 1, True), ("up", "ann", None, 1, None),
    ("come_up", "ann", "east", 1, None), ("move", "ann", "west", 2, 8, 1), ("move", "ann", "west", 2, 8, None, None),
    ("move", "ann", "west", None, 8, 1, None), ("move", "ann", "west", 2, "8", 1, None),
    ("move", "ann", "west", 2, 8, 1, ()), ("road", "ann", "come"), ("road", "ann", None, 1), ("road", "ann", 1, None),
    ("road", "ann", "come", "1"), ("road", "ann", "come", True), ("road", "ann", "come", [1]), ("undo",), ("world",),
    ("move_deed", "ann", "come", 1), (COME,), Core(NO_ROOMS),
]


def done(*deeds, houses=None):
    """A world in which these deeds were done."""
    world = World(TWO if houses is None else houses)
    for deed in deeds:
        do(world, deed)
    return world


class DeedTest(Case):
    def test_what_is_one(self):
        for deed in NINE:
            self.assertIs(is_deed(deed), True, deed)
        for deed in (("fall", ""), ("fall", "No House!"), ("say", "ann", "a\nb"), ("turns", "east", -GREATEST),
                     ("road", "ann", "jump", -1), ("road", "", "", None), ("up", "x", "y", GREATEST, -1),
                     ("come", "", "", "", -1, -1, -1), ("come", "", "", " room   0 \n\n set 0 1", 9, 9, 0),
                     ("move", "", "", -1, -1, -1, None)):
            self.assertIs(is_deed(deed), True, deed)

    def test_what_is_none(self):
        for thing in NO_DEEDS:
            self.assertIs(is_deed(thing), False, thing)
        self.assertIs(is_deed(thing=None), False)

    def test_done_by_the_method_of_its_word(self):
        world, other = World(TWO), World(TWO)
        calls = [
            lambda: other.come("east", "ann", LOOP, port=0, promise=1, ceiling=None),
            lambda: other.keep("ann", whole=True), lambda: other.keep("ann", whole=False),
            lambda: other.turns("east", 9), lambda: other.say("ann", "hi  you "), lambda: other.say("ann", ""),
            lambda: other.say("ann", "  "), lambda: other.fall("west"), lambda: other.rise("west"),
            lambda: other.move("ann", "west", most=8, patience=60, promise=1, ceiling=8),
            lambda: other.move_deed("ann", "round"), lambda: other.move_deed("ann", "come", 1),
            lambda: other.move_deed("ann", "off"), lambda: other.fall("east"),
            lambda: other.come_up("ann", "west", promise=2, ceiling=None),
        ]
        for deed, call in zip(NINE, calls):
            self.assertEqual(do(world, deed), call())
            self.assertEqual(everything(world), everything(other))
        self.assertEqual(world.deeds(), NINE)

    def test_what_it_tells(self):
        world = done(COME)
        self.assertEqual(do(world=world, deed=("turns", "east", 2)), [
            ("ann", (0, "step", 0, None)), ("ann", (1, "step", 1, None))])
        do(world, ("move", "ann", "west", 2, 8, 1, None))
        self.assertEqual(do(world, ("road", "ann", "round", None)), 2)

    def test_a_world_tells_the_text_as_22_writes_it(self):
        world = done(("come", "east", "ann", "\n room  1\n\nword 0   \nset 0 1\nnone\nblock 2", 0, 1, None))
        self.assertEqual(world.deeds(), [("come", "east", "ann", "room 1\nhalt 0 0\nset 0 1", 0, 1, None)])

    def test_refusals(self):
        for thing in [None, True, 0, GREATEST, "", "world", [], (), {}, TWO, Core(NO_ROOMS)]:
            self.refused_found(NoWorld, thing, do, thing, None)
            self.refused_found(NoWorld, thing, history_text, thing)
        world = done(COME, ("fall", "west"))
        before = everything(world)
        for thing in NO_DEEDS:
            self.refused_found(NoDeed, thing, do, world, thing)
        self.assertEqual(everything(world), before)

    def test_refused_as_the_methods(self):
        world = done(COME, ("fall", "west"))
        before = everything(world)
        nowhere, big = "no " + "where", 10 ** 20
        for error, found, deed in (
                (NoHouse, nowhere, ("turns", nowhere, 0)), (NoNumber, big, ("turns", "east", big)),
                (Fallen, "west", ("fall", "west")), (Standing, "east", ("rise", "east")),
                (Standing, "ann", ("up", "ann", "east", 1, None)), (NoGuest, nowhere, ("say", nowhere, "\n")),
                (NoText, "\n", ("say", "ann", "\n")), (NoGuest, nowhere, ("keep", nowhere, True)),
                (Doubled, "ann", COME), (NoNumber, -7000, ("come", "east", "bob", "", -7000, 1, None)),
                (Fallen, "west", ("move", "ann", "west", 2, 8, 1, None)), (NoDeed, nowhere, ("road", "ann", nowhere, 1)),
                (NotMoving, "ann", ("road", "ann", "come", None))):
            self.refused_found(error, found, do, world, deed)
        self.refused(TooMuch, {"many": 13}, do, world, ("come", "east", "bob", "", 1, 12, 12))
        self.refused(Full, {"many": 400}, do, world, ("say", "ann", "a" * 401))
        self.assertEqual(everything(world), before)


class WrittenTest(Case):
    def test_without_deeds(self):
        self.assertEqual(history_text(World(TWO)), EMPTY)
        self.assertEqual(history_text(world=World(THREE)), "world east 6 12 west 4 8 north 64 60")

    def test_all_nine_deeds(self):
        text = history_text(done(*NINE))
        rows = [f"  {row}" for row in LOOP_TEXT.split("\n")]
        self.assertEqual(text.split("\n"), [EMPTY, "come east ann 0 1 -"] + rows + [
            "end", "keep ann yes", "keep ann no", "turns east 9", "say ann hi  you ", "say ann ", "say ann   ",
            "fall west", "rise west", "move ann west 8 60 1 8", "road ann round -", "road ann come 1", "road ann off -",
            "fall east", "up ann west 2 -"])

    def test_an_image_without_rows(self):
        world = done(("come", "west", "bob", "", 7, 0, 8))
        self.assertEqual(history_text(world), EMPTY + "\ncome west bob 7 0 8\nend")
        self.assertEqual(everything(replayed(history_text(world))), everything(world))

    def test_blocks_too(self):
        world = World(TWO)
        world.come("east", "ann", image_of({0: [5]}, blocks={1: [0, 6]}), port=0)
        self.assertEqual(history_text(world).split("\n")[1:], [
            "come east ann 0 1 -", "  room 0", "  halt 0 5", "  block 1", "  word 0", "  word 6", "end"])

    def test_refused_deeds_are_not_written(self):
        world = done(COME)
        before = history_text(world)
        self.assertRaises(Fallen, lambda: (world.fall("west"), world.fall("west")))
        self.assertEqual(history_text(world), before + "\nfall west")


class ReadTest(Case):
    def test_what_is_written_is_read_and_replayed(self):
        for world in (World(TWO), World(THREE), done(*NINE), talking()):
            text = history_text(world)
            self.assertEqual(read_history(text), (world.made(), world.deeds()))
            self.assertEqual(everything(replayed(text=text)), everything(world))
        told = read_history(text=EMPTY)
        self.assertEqual((type(told), [type(part) for part in told]), (tuple, [list, list]))

    def test_cut_off_behind_each_deed(self):
        world = World(TWO)
        for deed in NINE:
            do(world, deed)
            self.assertEqual(everything(replayed(history_text(world))), everything(world))
        rows = history_text(world).split("\n")
        heads = [at for at, row in enumerate(rows) if not row.startswith("  ") and row != "end"]
        for at in heads[1:]:
            many = len([head for head in heads if head < at]) - 1
            self.assertEqual(everything(replayed("\n".join(rows[:at]))), everything(done(*NINE[:many])))

    def test_a_move_and_what_came_of_it(self):
        world = world_of(("east", "ann", SPEAKER), ("west", "bob", ECHO))
        world.turns("east", 9)
        moved(world, "ann", "west", most=8)
        world.turns("west", 9)
        world.keep("ann", whole=True)
        self.assertEqual(everything(replayed(history_text(world))), everything(world))

    def test_images_are_read_as_23_tells_and_told_as_22_writes_them(self):
        text = "\n".join([EMPTY, "come east ann 0 1 -", "   room   1 ", "  ", "    ", "  set  0  1", "  none", "  leaf 3",
                          "  word 4095", "  room 1", "  halt 0 0", "end"])
        told = image_text(read_image("room 1\nset 0 1\nnone\nleaf 3\nword 4095"))
        self.assertEqual(read_history(text), (TWO, [("come", "east", "ann", told, 0, 1, None)]))
        self.assertEqual(replayed(text).deeds(), [("come", "east", "ann", told, 0, 1, None)])

    def test_what_is_read_may_be_refused_by_the_world(self):
        rows = ["turns north 0", "fall west", "keep zoe yes", f"move a b {GREATEST} 0 999 -", "road ann jump 0",
                "up ann up 0 0", "say say say say", "rise rise", "come end come 9 77 -", "end"]
        self.assertEqual(read_history("\n".join([EMPTY] + rows))[1], [
            ("turns", "north", 0), ("fall", "west"), ("keep", "zoe", True), ("move", "a", "b", GREATEST, 0, 999, None),
            ("road", "ann", "jump", 0), ("up", "ann", "up", 0, 0), ("say", "say", "say say"), ("rise", "rise"),
            ("come", "end", "come", "", 9, 77, None)])

    def test_rows_of_houses(self):
        for row in ("", " ", "world", "world east 6 12", EMPTY + " ", " " + EMPTY, EMPTY.replace(" 6", "  6"), EMPTY + " a",
                    EMPTY + " a 1", EMPTY + " a 1 4 b 1 4", EMPTY + " east 1 4", "world a 1 4 a 1 4",
                    "world east 6 12 west 4 8 west 4 8", "World east 6 12 west 4 8", "fall east", "world east 0 12 west 4 8",
                    "world east 65 12 west 4 8", "world east 6 3 west 4 8", "world east 6 61 west 4 8",
                    "world east 06 12 west 4 8", "world east 6 12 west 4 -", "world East 6 12 west 4 8",
                    "world ninesigns 6 12 west 4 8", "world 6 east 12 west 4 8", "end", "world east six 12 west 4 8"):
            for text in (row, row + "\nfall east", row + "\nx"):
                self.refused(NoRow, {"at": 0}, read_history, text)
                self.refused(NoRow, {"at": 0}, replayed, text)
        self.assertEqual(read_history("world a 1 4 b 64 60"), ([("a", 1, 4), ("b", 64, 60)], []))

    def test_rows_that_are_none(self):
        for row in ("", " ", "  ", "end", "x", "fall", "fall ", "fall  east", " fall east", "fall east ", "fall east west",
                    "fall East", "fall ninesigns", "fall -", "fall 1", "Fall east", "world a 1 4 b 1 4", "undo",
                    "rise", "keep ann", "keep ann true", "keep ann Yes", "keep ann yes ", "keep yes", "keep ann -",
                    "turns east", "turns east -", "turns east 09", "turns east -1", "turns east 9 ", "turns east nine",
                    f"turns east {GREATEST + 1}", "turns 9 east", "turns east 9 9", "say ann", "say", "say ", "say  a",
                    "say Ann a", "say ann a\tb", "say ann \x7f", "say ann a\r", "up ann east 1", "up ann east - -",
                    "up ann east 1 - -", "up ann east 1 x", "move ann west 2 8 1", "move ann west 2 8 1 yes",
                    "move ann west - 8 1 1", "move ann west 2 - 1 1", "move ann west 2 8 - 1", "road ann come",
                    "road ann Come 1", "road ann come 01", "road ann come yes", "road ann come 1 1", "road ann 1 -",
                    "come east ann 0 1", "come east ann - 1 -", "come east ann 0 - -", "come east ann 0 1 - -",
                    "come east ann 0 1  -", "come east 0 1 -", "  fall east", "come_up ann east 1 -", "turns\neast 9"):
            for ahead in ([], ["fall west"], ["come east cid 0 1 -", "  room 0", "end"]):
                for behind in ([], ["fall east"], [""]):
                    text = "\n".join([EMPTY] + ahead + [row] + behind)
                    self.refused(NoRow, {"at": 1 + len(ahead)}, read_history, text)
                    self.refused(NoRow, {"at": 1 + len(ahead)}, replayed, text)

    def test_rows_of_images(self):
        head = [EMPTY, "come east ann 0 1 -"]
        for row in ("", " ", " end", "end ", "  ", "END", "fall east", " room 0", "room 0", "\tend"):
            if row != "  ":
                for ahead in ([], ["  room 0"], ["  room 0", "   set 0 1", "  "]):
                    text = "\n".join(head + ahead + [row, "end"])
                    self.refused(NoRow, {"at": 2 + len(ahead)}, read_history, text)
        for row in ("  end", "  x", "  set 0 1", "  room 8", "  block 0 0", "  word 4096"):
            for behind in (["end"], ["", "x"], [" "], []):
                text = "\n".join(head + ["  "] + [row] + behind)
                self.refused(NoRow, {"at": 3}, read_history, text)
        nine = ["  room 3"] + ["  word 1"] * 9
        self.refused(NoRow, {"at": 11}, read_history, "\n".join(head + nine + ["x"]))

    def test_over_ahead_of_an_end(self):
        head = [EMPTY, "fall west", "come east ann 0 1 -"]
        for rows in ([], ["  room 0"], ["  room 0", "  set 0 1", "  "]):
            self.refused(NoRow, {"at": 3 + len(rows)}, read_history, "\n".join(head + rows))
            self.refused(NoRow, {"at": 3 + len(rows)}, replayed, "\n".join(head + rows))

    def test_a_deed_that_the_world_refuses(self):
        image = ["come east ann 0 1 -", "  room 0", "  set 0 1", "end"]
        for rows, at, cause in (
                (["rise east"], 1, Standing), (["fall north"], 1, NoHouse), (image + ["fall west", "fall west"], 6, Fallen),
                (image + image, 5, Doubled), (image + ["turns east 0", "fall west"], 5, NoNumber),
                (image + ["road ann jump -"], 5, NoDeed), (image + ["say zoe ", "say zoe a"], 5, NoGuest),
                (["come east ann 0 13 -", "end"], 1, NoNumber)):
            text = "\n".join([EMPTY] + rows)
            read_history(text)
            with self.assertRaises(NoRow) as caught:
                replayed(text)
            self.assertEqual((type(caught.exception), vars(caught.exception)), (NoRow, {"at": at}))
            self.assertIs(type(caught.exception.__cause__), cause)
        # It is read first: a row that is none goes ahead of a deed that is refused.
        self.refused(NoRow, {"at": 2}, replayed, "\n".join([EMPTY, "rise east", "x"]))

    def test_refusals(self):
        for thing in [None, True, 0, GREATEST, [], [EMPTY], (EMPTY,), {}, World(TWO)]:
            self.refused_found(NoText, thing, read_history, thing)
            self.refused_found(NoText, thing, replayed, thing)

    def test_of_200000_signs_and_one_more(self):
        head = "\n".join([EMPTY, "come east ann 0 1 -", "  room 0"])
        text = head + " " * (200000 - len(head) - 4) + "\nend"
        self.assertEqual(len(text), 200000)
        self.assertEqual(everything(replayed(text)), everything(done(("come", "east", "ann", "", 0, 1, None))))
        longer = text.replace("room", " room")
        for read in (read_history, replayed):
            with self.assertRaises(NoText) as caught:
                read(longer)
            self.assertTrue(caught.exception.found is longer)

    def test_told_new_each_time(self):
        houses, deeds = read_history(EMPTY + "\nfall east")
        houses.append(1)
        deeds.append(1)
        self.assertEqual(read_history(EMPTY + "\nfall east"), (TWO, [("fall", "east")]))
