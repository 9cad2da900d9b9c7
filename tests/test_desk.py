"""Points 141 and 142: a desk."""

from guestsalone.deeds import do
from guestsalone.desk import Desk
from guestsalone.errors import (
    Barred, Doubled, Ended, Fallen, Full, GuestError, Missing, Moving, NoDeed, NoGuest, NoHouse, NoImage, NoLine, NoLog,
    NoName, NoNumber, NoRow, NotKept, NotMoving, NotOnRoad, NoWorld, Over, Standing, TooMuch,
)
from guestsalone.images import image_text
from guestsalone.logtext import trail_text
from guestsalone.papers import stops_of
from guestsalone.world import World
from tests.chance import chance_of
from tests.helpers import GREATEST, Case
from tests.test_lines import LINES, NO_LINES
from tests.test_world_runs import speaking_image
from tests.worlds import LISTENER, SEVEN, SPEAKER, THREE, TWO, Ruler

WORLD = "world east 6 12 west 4 8"
ECHO = "image echo room 0 / leaf 1 / room 1 / wait 0 0 / in 0 0 / out 0 0 / jump 0 0"
LOOP = "image loop room 0 / leaf 1 / room 1 / set 0 1 / add 1 0 / jump 0 0"
HALT = "image halt room 0 / leaf 1 / room 1 / halt 0 0"
CHANGING = ("world", "image", "come", "keep", "say", "fall", "rise", "up", "move", "road", "turns")


def image_line(name, image):
    return f"image {name} " + image_text(image).replace("\n", " / ")


def line_of(deed):
    """The line that tells a deed; an image is called as its guest."""
    if deed[0] == "come":
        return " ".join(str(part) for part in deed[:3] + deed[2:3] + deed[4:])
    if deed[0] == "keep":
        return f"keep {deed[1]} whole" if deed[2] else f"keep {deed[1]}"
    return " ".join(str(part) for part in deed if part is not None)


def desk_of(*lines):
    desk = Desk()
    for line in lines:
        desk.say(line)
    return desk


def working():
    """A desk of two houses and two guests."""
    return desk_of(WORLD, ECHO, LOOP, "come east ann echo 0 1 12", "come west bob loop 1 2 5", "say ann hi",
                   "turns east 9")


def asked(desk, names=("ann", "bob"), houses=("east", "west")):
    """What a desk answers to all that may be asked."""
    lines = ["guests", "houses", "standing"] + [f"used {house}" for house in houses]
    for name in names:
        lines += [f"{word} {name}" for word in ("where", "phase", "told", "state", "time", "stops", "letters")]
        lines.append(f"trail {name} 999999")
    return [answer_or_refusal(desk, line) for line in lines] + [desk.told()]


def answer_or_refusal(desk, line):
    try:
        return desk.say(line)
    except (GuestError, Missing, Barred) as refusal:
        return type(refusal), vars(refusal)


class Mirror(Ruler):
    """Does the same with a World and with a desk."""

    def __init__(self, chance, **told):
        super().__init__(chance, images=speaking_image, **told)
        self.desk = Desk()
        self.desk.say(" ".join(["world"] + [str(part) for house in self.world.made() for part in house]))
        self.answers = ["ok"]
        self.images_told = 0

    def ceiling(self):
        return self.chance.choice([4, 7])

    def both(self):
        """Does some deed with both; tells the answer, or None where it was refused."""
        deed = self.any_deed()
        if deed[0] == "come":
            assert self.desk.say(f"image {deed[2]} " + deed[3].replace("\n", " / ")) == "ok"
            self.answers.append("ok")
            self.images_told += 1
        try:
            expected = answer_of(do(self.world, deed))
        except (GuestError, Missing, Barred) as refusal:
            expected = type(refusal), vars(refusal)
        told = answer_or_refusal(self.desk, line_of(deed))
        assert told == expected, (deed, told, expected)
        if isinstance(told, str):
            self.answers.append(told)
        return told if isinstance(told, str) else None


def answer_of(told):
    if isinstance(told, list):
        return ", ".join("-" if name is None else name + " " + ("idle" if row is None else row[1]) for name, row in told)
    return "ok" if told is None else str(told)


class DeedsTest(Case):
    def test_a_small_day(self):
        desk = Desk()
        self.assertEqual([desk.say(line) for line in (WORLD, ECHO, "come east ann echo 3 1 12", "say ann Hi")], ["ok"] * 4)
        self.assertEqual(desk.say("turns east 9"),
                         "ann waited, ann read, ann told, ann step, ann waited, ann read, ann told, ann step, ann idle")
        self.assertEqual(desk.say(line="turns west 2"), "-, -")
        self.assertEqual((desk.say("told ann"), desk.say("state ann"), desk.say("time ann")), ("-", "idle", "8"))
        self.assertEqual((desk.say("keep ann"), desk.say("told ann")), ("ok", "72 105"))
        self.assertEqual(desk.say("trail ann 2"), "6 told 2 105; 7 step 3")
        self.assertEqual(desk.say("turns east 13"), ", ".join(["-"] * 13))
        self.assertEqual((desk.say("used east"), desk.say("used west")), ("0 1", "-"))
        self.assertEqual((desk.say("guests"), desk.say("houses"), desk.say("standing")), ("ann", "east west", "east west"))

    def test_a_whole_move(self):
        desk = desk_of(WORLD, LOOP, "come east ann loop 0 1 12", "turns east 3", "keep ann whole")
        self.assertEqual(desk.say("move ann west 8 20 2 5"), "ok")
        self.assertEqual((desk.say("phase ann"), desk.say("letters ann"), desk.say("where ann")), ("rounds", "-", "east"))
        self.assertEqual(desk.say("road ann round"), "2")
        self.assertEqual(desk.say("letters ann"), "1 0 room; 2 0 room")
        self.assertEqual((desk.say("road ann come 1"), desk.say("letters ann")), ("ok", "2 0 room; 3 1 have"))
        self.assertEqual([desk.say(f"road ann {word}") for word in ("come 2", "double 3", "lose 5", "look")], ["ok"] * 4)
        self.assertEqual([desk.say(f"road ann {word}") for word in ("come 3", "come 4", "stop")], ["ok"] * 3)
        self.assertEqual((desk.say("phase ann"), desk.say("road ann round")), ("stopped", "1"))
        self.assertEqual(desk.say("letters ann"), "6 0 core")
        for number, word in ((6, "7 1 whole"), (7, "8 0 go"), (8, "9 1 runs")):
            self.assertEqual((desk.say(f"road ann come {number}"), desk.say("letters ann")), ("ok", word))
            self.assertEqual((desk.say("where ann"), desk.say("state ann")),
                             {6: ("east", "runs"), 7: ("-", "-"), 8: ("west", "runs")}[number])
        self.assertEqual((desk.say("phase ann"), desk.say("road ann come 9"), desk.say("phase ann")), ("given", "ok", "-"))
        self.assertEqual(answer_or_refusal(desk, "letters ann"), (NotMoving, {"found": "ann"}))

    def test_of_a_guest_in_no_house(self):
        desk = working()
        desk.say("keep ann whole")
        self.assertEqual(desk.say("fall east"), "ok")
        for line, told in (("where ann", "-"), ("phase ann", "-"), ("told ann", "104 105"), ("state ann", "-"),
                           ("time ann", "-"), ("trail ann 5", "-"), ("stops ann", "-"), ("standing", "west"),
                           ("houses", "east west"), ("guests", "ann bob")):
            self.assertEqual(desk.say(line), told)
        self.assertEqual((desk.say("rise east"), desk.say("up ann east 0 4")), ("ok", "ok"))
        self.assertEqual((desk.say("where ann"), desk.say("time ann"), desk.say("stops ann")), ("east", "8", "-"))
        desk.say("fall west")
        desk.say("fall east")
        self.assertEqual(desk.say("standing"), "-")

    def test_nothing_is_told_as_a_stroke(self):
        desk = desk_of(WORLD)
        self.assertEqual((desk.say("guests"), desk.say("used east")), ("-", "-"))
        desk = desk_of(WORLD, LOOP, "come east ann loop 0 1 12")
        for line in ("phase ann", "told ann", "trail ann 9", "stops ann"):
            self.assertEqual(desk.say(line), "-")
        desk.say("turns east 3")
        self.assertEqual((desk.say("trail ann 0"), desk.say("trail ann 1")), ("-", "2 step 2"))
        self.assertEqual(desk.say("trail ann 999999"), "0 step 0; 1 step 1; 2 step 2")

    def test_stops(self):
        desk = desk_of(WORLD, LOOP, "come east ann loop 0 1 12", "come east bob loop 1 1 12", "come east cid loop 2 0 12")
        desk.say("turns east 9")
        self.assertEqual(desk.say("stops ann"), "1 2; 2 2")

    def test_whole_days_held_against_a_world(self):
        answers, moves = 0, 0
        for seed in range(25):
            mirror = Mirror(chance_of(seed))
            world, desk = mirror.world, mirror.desk
            for at in range(110):
                mirror.both()
                if at % 10 == 0:
                    self.hold(world, desk)
            self.hold(world, desk)
            answers += len(mirror.answers)
            moves += len([deed for deed in world.deeds() if deed[0] == "road"])
            lines = [line for line in desk.told() if line.split(" ")[0] not in ("world", "image")]
            self.assertEqual(lines, [line_of(deed) for deed in world.deeds()])
            other = Desk()
            self.assertEqual([other.say(line) for line in desk.told()], mirror.answers)
            self.assertEqual(asked(other, world.names(), world.houses()), asked(desk, world.names(), world.houses()))
        self.assertGreater(answers, 1000)
        self.assertGreater(moves, 500)

    def hold(self, world, desk):
        """All that is asked of a desk is what the World tells."""
        for line, things in (("guests", world.names()), ("houses", world.houses()), ("standing", world.standing())):
            self.assertEqual(desk.say(line), " ".join(things) or "-")
        for house in world.standing():
            used = world.house(house).rooms().in_use()
            self.assertEqual(desk.say(f"used {house}"), " ".join(map(str, used)) or "-")
        for name in world.names():
            where = world.where(name)
            self.assertEqual(desk.say(f"where {name}"), where or "-")
            self.assertEqual(desk.say(f"phase {name}"), world.phase(name) or "-")
            self.assertEqual(desk.say(f"told {name}"), " ".join(map(str, world.told(name))) or "-")
            if world.phase(name):
                rows = [f"{number} {side} {letter[0]}" for number, side, letter in world.letters(name)]
                self.assertEqual(desk.say(f"letters {name}"), "; ".join(rows) or "-")
            if where is None:
                continue
            house = world.house(where)
            self.assertEqual(desk.say(f"state {name}"), house.core(name).state())
            self.assertEqual(desk.say(f"time {name}"), str(house.core(name).time()))
            for many in (0, 1, 3, 999999):
                rows = house.trail(name)[-many:] if many else []
                self.assertEqual(desk.say(f"trail {name} {many}"), trail_text(rows).replace("\n", "; ") or "-")
            rows = [f"{time} {many}" for time, many in stops_of(house, name)]
            self.assertEqual(desk.say(f"stops {name}"), "; ".join(rows) or "-")

    def test_with_all_names_called_otherwise(self):
        names, houses = ["zoe", "y", "xxxxxxxx", "w", "east", "u", "west"], [("zz", 6, 12), ("ann", 4, 8), ("b", 64, 60)]
        called = dict(zip([name for name, _, _ in THREE] + SEVEN, [name for name, _, _ in houses] + names))
        for seed in range(8):
            one = Mirror(chance_of(100 + seed), houses=THREE)
            other = Mirror(chance_of(100 + seed), houses=houses, names=names)
            for _ in range(80):
                one.both()
                other.both()
            self.assertEqual([self.renamed(answer, called) for answer in one.answers], other.answers)
            for line in asked_lines(one.world):
                # What the lines of point 142 told is told likewise, too, but for signs.
                self.assertEqual(self.renamed(one.desk.say(line), called), other.desk.say(self.renamed(line, called)))

    def renamed(self, text, called):
        words = [word.rstrip(",") for word in text.split(" ")]
        ends = ["," if word.endswith(",") else "" for word in text.split(" ")]
        return " ".join(called.get(word, word) + end for word, end in zip(words, ends))


def asked_lines(world):
    lines = ["guests", "houses", "standing"] + [f"used {house}" for house in world.standing()]
    for name in world.names():
        lines += [f"{word} {name}" for word in ("where", "phase", "told", "state", "time", "stops")]
        lines.append(f"trail {name} 50")
    return lines


class ImageTest(Case):
    def test_signs_between_rows(self):
        for text, told in (
                ("", ""), ("   ", ""), (" / ", ""), (" / room 1 / set 0 1 / ", "room 1\nset 0 1"), (" /  / ", ""),
                ("room 1 /  / set 0 1", "room 1\nset 0 1"), ("room  1 /   none /    word 5", "room 1\nhalt 0 0\nhalt 0 5"),
                ("block 7 / word 1", "block 7\nword 1")):
            desk = desk_of(WORLD, f"image a {text}", "come east ann a 0 1 12")
            world = World(TWO)
            do(world, ("come", "east", "ann", told, 0, 1, 12))
            self.assertEqual(asked(desk)[:-1], asked(desk_of(WORLD, f"image b {told}".replace("\n", " / "),
                                                             "come east ann b 0 1 12"))[:-1])
            desk.say("turns east 3")
            self.assertEqual(desk.say("trail ann 9"), trail_text(self.run_of(world)).replace("\n", "; ") or "-")

    def run_of(self, world):
        world.turns("east", 3)
        return world.house("east").trail("ann")

    def test_from_the_left(self):
        desk = Desk()
        for text, at in ((" / / ", 1), ("/ ", 0), (" /", 0), ("/", 0), ("room 0/ set 0 1", 0), ("room 0 /", 0),
                         ("room 0 / x / y", 1), ("room 0 /  / x", 2), ("room 0 / / x", 1), ("set 0 1", 0)):
            self.refused(NoRow, {"at": at}, desk.say, f"image a {text}")
        self.assertEqual(desk.told(), [])

    def test_kept_by_the_name(self):
        desk = desk_of(WORLD, LOOP, "come east ann loop 0 1 12", HALT.replace("halt room", "loop room"),
                       "come east bob loop 1 1 12", "turns east 4")
        self.assertEqual((desk.say("state ann"), desk.say("state bob")), ("runs", "ended"))

    def test_a_name_goes_ahead(self):
        desk = Desk()
        for name in ("Ann", "ninesigns", "a1", "-", "/"):
            self.refused_equal(NoName, name, desk.say, f"image {name} x")
            self.refused_equal(NoName, name, desk.say, f"image {name} room 0")
        self.assertEqual(desk.say("image world "), "ok")

    def refused_equal(self, error, found, call, *args):
        with self.assertRaises(error) as caught:
            call(*args)
        self.assertEqual((type(caught.exception), vars(caught.exception)), (error, {"found": found}))

    def test_images_stay_in_a_new_world(self):
        desk = working()
        self.assertEqual(desk.say("world x 1 4 y 2 5 z 3 6"), "ok")
        self.assertEqual((desk.say("guests"), desk.say("houses")), ("-", "x y z"))
        self.assertEqual(desk.say("come z ann echo 0 1 6"), "ok")
        self.assertEqual(desk.say("undo"), "ok")
        self.assertEqual(desk.say("undo"), "ok")
        self.assertEqual(desk.say("guests"), "ann bob")


class RefusalsTest(Case):
    def test_no_lines(self):
        for desk in (Desk(), working()):
            before = asked(desk)
            for thing in NO_LINES:
                self.refused_found(NoLine, thing, desk.say, thing)
            self.assertEqual(asked(desk), before)

    def test_while_no_world_is(self):
        desk = desk_of(LOOP)
        for line, _ in LINES:
            if line.split(" ")[0] not in ("world", "image", "undo"):
                self.refused_found(NoWorld, None, desk.say, line)
        self.assertEqual((desk.told(), desk.say("undo"), desk.told()), ([LOOP], "ok", []))
        self.refused(Over, {}, desk.say, "undo")

    def test_as_the_stages_refuse(self):
        desk = working()
        desk.say("move bob east 8 60 0 12")
        desk.say("keep ann")
        before = asked(desk)
        for line, told in (
                ("world a 0 4 b 1 4", (NoWorld, {"found": [("a", 0, 4), ("b", 1, 4)]})),
                ("world A 1 4 b 1 4 c 1 4", (NoWorld, {"found": [("A", 1, 4), ("b", 1, 4), ("c", 1, 4)]})),
                ("world a 1 4 a 1 4", (Doubled, {"found": "a"})),
                ("come nope ann nope 9 99 99", (NoImage, {"found": "nope"})),
                ("come nope ann echo 9 99 99", (NoHouse, {"found": "nope"})),
                ("come east Ann echo 9 99 99", (NoName, {"found": "Ann"})),
                ("come east cid echo 9 99 99", (NoNumber, {"found": 9})),
                ("come east ann echo 7 99 99", (Doubled, {"found": "ann"})),
                ("come east cid echo 1 99 99", (Doubled, {"found": 1})),
                ("come east cid echo 2 99 99", (NoNumber, {"found": 99})),
                ("come east cid echo 2 0 0", (NoNumber, {"found": 0})),
                ("come east cid echo 2 12 12", (TooMuch, {"many": 13})),
                ("keep zoe whole", (NoGuest, {"found": "zoe"})), ("say zoe \t", (NoGuest, {"found": "zoe"})),
                ("say ann " + "a" * 399, (Full, {"many": 400})), ("fall Nope", (NoHouse, {"found": "Nope"})),
                ("rise east", (Standing, {"found": "east"})), ("turns east 401", (NoNumber, {"found": 401})),
                ("turns nope 0", (NoHouse, {"found": "nope"})), ("up ann west 0 4", (Standing, {"found": "ann"})),
                ("move ann east 8 8 1 12", (NoHouse, {"found": "east"})), ("move bob east 9 0 1 1", (Moving, {"found": "bob"})),
                ("move ann west 9 0 1 1", (NoNumber, {"found": 9})), ("road ann round", (NotMoving, {"found": "ann"})),
                ("road bob jump", (NoDeed, {"found": "jump"})), ("road bob round 1", (NoDeed, {"found": "round"})),
                ("road bob come", (NotOnRoad, {"found": None})), ("road bob come 1", (NotOnRoad, {"found": 1})),
                ("road bob again", (NotMoving, {"found": "rounds"})), ("used nope", (NoHouse, {"found": "nope"})),
                ("letters ann", (NotMoving, {"found": "ann"}))):
            self.assertEqual(answer_or_refusal(desk, line), told)
        for word in ("where", "phase", "told", "state", "time", "stops", "letters"):
            self.assertEqual(answer_or_refusal(desk, f"{word} zoe"), (NoGuest, {"found": "zoe"}))
        self.assertEqual(answer_or_refusal(desk, "trail zoe 1"), (NoGuest, {"found": "zoe"}))
        self.assertEqual(asked(desk), before)
        desk = desk_of(WORLD, HALT, "come east ann halt 0 1 12", "turns east 2")
        self.assertEqual(answer_or_refusal(desk, "say ann "), (Ended, {"found": "ended"}))
        desk.say("fall east")
        self.assertEqual(answer_or_refusal(desk, "say ann "), (NotKept, {"found": "ann"}))
        for line in ("turns east 0", "used east", "fall east", "up ann east 99 99"):
            self.assertEqual(answer_or_refusal(desk, line), (Fallen, {"found": "east"}))


class UndoTest(Case):
    def test_as_often_as_lines_changed_the_desk_and_once_more(self):
        for seed in range(6):
            mirror = Mirror(chance_of(200 + seed), houses=TWO)
            desk, names = mirror.desk, SEVEN
            stands = [asked(Desk(), names), asked(desk, names)]
            while len(stands) < 60:
                images = mirror.images_told
                told = mirror.both()
                if mirror.images_told > images:
                    stands.append(None)
                if told is not None:
                    stands.append(asked(desk, names))
            for before in stands[-2::-1]:
                self.assertEqual(desk.say("undo"), "ok")
                if before is not None:
                    self.assertEqual(asked(desk, names), before)
            for _ in range(2):
                self.refused(Over, {}, desk.say, "undo")
            self.assertEqual(asked(desk, names), stands[0])

    def test_an_undo_cannot_be_undone(self):
        desk = working()
        before = asked(desk)
        desk.say("turns east 4")
        desk.say("say ann a")
        self.assertEqual(desk.say("undo"), "ok")
        self.assertEqual(desk.say("undo"), "ok")
        self.assertEqual(asked(desk), before)
        desk.say("say ann b")
        desk.say("undo")
        self.assertEqual(asked(desk), before)

    def test_lines_that_ask_or_are_refused_are_none_to_undo(self):
        desk = working()
        before = asked(desk)
        desk.say("turns west 3")
        asked(desk)
        answer_or_refusal(desk, "turns nope 3")
        desk.say("undo")
        self.assertEqual(asked(desk), before)

    def test_one_that_changes_nothing_is_one_to_undo(self):
        desk = working()
        desk.say("move ann west 8 8 1 8")
        before = asked(desk)
        desk.say("road ann look")
        self.assertEqual(desk.told()[-1], "road ann look")
        desk.say("undo")
        self.assertEqual(asked(desk), before)

    def test_images_are_undone_too(self):
        desk = desk_of(WORLD, LOOP, HALT.replace("halt room", "loop room"), "undo", "come east ann loop 0 1 12",
                       "turns east 3")
        self.assertEqual(desk.say("state ann"), "runs")
        desk = desk_of(WORLD, LOOP, "undo")
        self.assertEqual(answer_or_refusal(desk, "come east ann loop 0 1 12"), (NoImage, {"found": "loop"}))


class AllTest(Case):
    def test_line_by_line(self):
        lines = [WORLD, ECHO, "come east ann echo 0 1 12", "say ann a", "turns east 4", "undo", "time ann", "turns east 2",
                 "guests"]
        desk, other = Desk(), Desk()
        told = desk.say_all(lines)
        self.assertEqual((told, type(told)), ([other.say(line) for line in lines], list))
        self.assertEqual(told, ["ok", "ok", "ok", "ok", "ann waited, ann read, ann told, ann step", "ok", "0",
                                "ann waited, ann read", "ann"])
        self.assertEqual(desk.told(), lines[:4] + ["turns east 2"])
        self.assertEqual(asked(desk), asked(other))
        self.assertEqual(Desk().say_all(lines=tuple(lines)), told)

    def test_no_lines_sixty_and_one_more(self):
        desk = working()
        before = asked(desk)
        self.assertEqual((desk.say_all([]), desk.say_all(())), ([], []))
        self.assertEqual(desk.say_all(["guests"] * 60), ["ann bob"] * 60)
        self.assertEqual(asked(desk), before)
        self.assertEqual(desk.say_all(["turns east 1"] * 60), ["-"] * 60)
        self.assertEqual(desk.told()[-60:], ["turns east 1"] * 60)
        before = asked(desk)
        for thing in (["guests"] * 61, ("x",) * 61, None, True, 0, GREATEST, "", "guests", {}, {"guests": 1}):
            self.refused_found(NoLog, thing, desk.say_all, thing)
        self.assertEqual(asked(desk), before)

    def test_where_one_is_refused_all_is_as_ahead_of_the_first_one(self):
        for ahead in ([], ["turns east 3", "say ann x"], ["undo", "undo", "undo"], [HALT, "world a 1 4 b 1 4", "undo"],
                      [HALT, "come east cid halt 2 0 4", "fall west", "undo"], ["image echo "] + ["turns east 2"] * 50,
                      ["world a 1 4 b 1 4", "come a ann echo 0 1 4"]):
            for line, told in (("fall nope", (NoHouse, {"found": "nope"})), ("x", (NoLine, {"found": "x"})),
                               ("keep zoe", (NoGuest, {"found": "zoe"})), (None, (NoLine, {"found": None}))):
                self.all_refused(working(), ahead + [line], told)
        self.all_refused(working(), ["undo"] * 8, (Over, {}))
        self.all_refused(working(), ["undo"] * 7 + ["guests"], (NoWorld, {"found": None}))
        desk = Desk()
        self.refused(Over, {}, desk.say_all, [WORLD, "undo", "undo"])
        self.assertEqual(desk.told(), [])
        self.refused_found(NoWorld, None, desk.say_all, ["guests"])

    def all_refused(self, desk, lines, told):
        before = asked(desk)
        with self.assertRaises((GuestError, Missing, Barred)) as caught:
            desk.say_all(lines)
        self.assertEqual((type(caught.exception), vars(caught.exception)), told)
        self.assertEqual(asked(desk), before)
        for _ in range(7):
            desk.say("undo")
        self.refused(Over, {}, desk.say, "undo")

    def test_what_is_told_of_lines(self):
        desk = working()
        self.assertEqual(desk.told(), [WORLD, ECHO, LOOP, "come east ann echo 0 1 12", "come west bob loop 1 2 5",
                                       "say ann hi", "turns east 9"])
        desk.told().append("x")
        desk.say("guests")
        desk.say("undo")
        self.assertEqual(desk.told()[4:], ["come west bob loop 1 2 5", "say ann hi"])
        lines = ["turns east 1", "say ann a"]
        desk.say_all(lines)
        lines.append("x")
        self.assertEqual(desk.told()[6:], ["turns east 1", "say ann a"])

    def test_told_to_a_new_desk(self):
        for seed in range(8):
            chance = chance_of(300 + seed)
            mirror = Mirror(chance)
            desk, names = mirror.desk, SEVEN
            for _ in range(40):
                mirror.both()
            for _ in range(chance.randrange(12)):
                desk.say("undo")
            other = Desk()
            for line in desk.told():
                other.say(line)
            self.assertEqual(asked(other, names), asked(desk, names))
            for line in ("undo", "undo", "turns east 5", "undo", "say ann x", "keep ann", "undo"):
                self.assertEqual(answer_or_refusal(other, line), answer_or_refusal(desk, line))
                self.assertEqual(asked(other, names), asked(desk, names))

    def test_two_desks_have_nothing_in_common(self):
        one, other = working(), working()
        before = asked(other)
        one.say_all(["turns east 9", "fall west", "keep ann", "image x ", "undo", "undo"])
        self.assertEqual(asked(other), before)

    def test_the_lines_of_a_history(self):
        """The day of a world of speakers, told as lines."""
        world = World(TWO)
        lines = [WORLD, image_line("ann", SPEAKER), image_line("bob", LISTENER)]
        for deed in [("come", "east", "ann", image_text(SPEAKER), 0, 1, 12), ("turns", "east", 30), ("keep", "ann", True),
                     ("come", "west", "bob", image_text(LISTENER), 1, 1, 8), ("turns", "west", 30), ("keep", "bob", False),
                     ("say", "bob", ""), ("say", "bob", "  a "), ("fall", "east"), ("rise", "east"),
                     ("up", "ann", "east", 1, 4), ("move", "ann", "west", 8, 20, 1, 8), ("road", "ann", "round", None),
                     ("road", "ann", "come", 1), ("turns", "east", 3), ("turns", "west", 9)]:
            do(world, deed)
            lines.append(line_of(deed))
        desk = Desk()
        desk.say_all(lines)
        self.assertEqual(desk.told(), lines)
        DeedsTest.hold(self, world, desk)
        self.assertEqual({line.split(" ")[0] for line in lines}, set(CHANGING))
