"""Points 102 to 104: a move, deed by deed."""

from guestsalone.errors import Doubled, Full, NoGuest, NoHouse, NotMoving, NotOnRoad, NoNumber, TooMuch
from guestsalone.house import Guest, House
from guestsalone.moves import Move
from guestsalone.plain import run_alone
from guestsalone.snapshots import snapshot_of
from guestsalone.snaptext import guest_text
from tests.helpers import NO_ROOMS, NOT_NUMBERS, GREATEST, NOUGHTS, Case, beyond, op
from tests.test_guest import ASKER
from tests.test_house import everything, house_of
from tests.test_plain import ECHO, LOOP, image_with
from tests.test_rooms import NO_NAMES, SIX
from tests.test_snapshots import NO_HOUSES

# Every second step writes room 6 or room 7, but the first time round.
WRITER = image_with([op("add", 1, 2), op("save", 1, 40), op("set", 2, 1), op("save", 1, 48), op("jump", 0, 0)])


def move_of(image=LOOP, turns=3, **told):
    """A move of ann from a house where she did so many turns to another one, and both houses."""
    source, goal = house_of(("ann", image), ("bob", LOOP)), House(9, length=10)
    source.stop("bob")
    if turns:
        source.turns(turns)
    return Move(source, goal, "ann", **told), source, goal


def letters(move):
    """What is under way: tuples of a side and a letter."""
    return [(side, letter) for _, side, letter in move.letters()]


def words(move):
    return [letter[0] for _, letter in letters(move)]


def come_all(move):
    """Lets all letters come, in order, also those that are put meanwhile."""
    while move.letters():
        move.come(move.letters()[0][0])


def come_now(move):
    """Lets all letters come that are under way, in order."""
    for number, _, _ in move.letters():
        move.come(number)


def text_of(house, name="ann"):
    """The text of a guest with noughts for all rooms."""
    guest = snapshot_of(house, name)
    return guest_text(Guest(guest.core(), NO_ROOMS, guest.log(), ()))


def stopped(image=LOOP, turns=3, **told):
    """A move whose rooms are sure and whose guest is stopped."""
    move, source, goal = move_of(image, turns, **told)
    move.one_round()
    come_all(move)
    move.stop()
    return move, source, goal


def given(image=LOOP, **told):
    """A move whose guest left the source; its `go` is under way alone."""
    move, source, goal = stopped(image, **told)
    move.one_round()
    come_now(move)
    come_now(move)
    return move, source, goal


def at_first_and_behind(move):
    return move.phase(), move.rounds(), move.letters(), move.stopped_for(), move.unsure(), move.runs_at()


class MadeTest(Case):
    def test_at_first(self):
        source, goal = house_of(("ann", LOOP)), House(3)
        before = everything(source), everything(goal)
        move = Move(source, goal, "ann")
        self.assertEqual(at_first_and_behind(move), ("rounds", 0, [], 0, [0, 1], 0))
        self.assertEqual((everything(source), everything(goal)), before)
        source.turns(2)
        move.stop()
        source.turns(8)
        move.look()
        self.assertEqual((move.phase(), move.unsure()), ("stopped", [0, 1]))
        source.turns(1)
        move.look()
        self.assertEqual(move.phase(), "off")
        move = Move(source=source, goal=goal, name="ann", most=8, patience=60, promise=0, ceiling=1)
        self.assertEqual(at_first_and_behind(move), ("rounds", 0, [], 0, [0, 1], 0))

    def test_houses(self):
        house = house_of(("ann", LOOP))
        for thing in NO_HOUSES:
            self.refused_found(NoHouse, thing, Move, thing, [], [], most=[])
            self.refused_found(NoHouse, thing, Move, house, thing, [], most=[])
        self.refused_found(NoHouse, house, Move, house, house, [], most=[])
        self.assertEqual(Move(house, House(1), "ann").phase(), "rounds")

    def test_names(self):
        source, goal = house_of(("ann", LOOP), ("bob", LOOP)), house_of(("bob", ECHO), ("zoe", ECHO))
        for thing in NO_NAMES + ["zoe"]:
            self.refused_found(NoGuest, thing, Move, source, goal, thing, most=[])
        self.refused_found(Doubled, "bob", Move, source, goal, "bob", most=[], patience=[])

    def test_numbers(self):
        source, goal = house_of(("ann", LOOP)), house_of(("bob", LOOP), length=8)
        before = everything(source), everything(goal)
        for thing in beyond(0, 8):
            self.refused_found(NoNumber, thing, Move, source, goal, "ann", most=thing, patience=[])
        for thing in beyond(1, 60):
            self.refused_found(NoNumber, thing, Move, source, goal, "ann", patience=thing, promise=[])
        for thing in beyond(0, 8):
            self.refused_found(NoNumber, thing, Move, source, goal, "ann", promise=thing, ceiling=[])
        for thing in beyond(3, 8):
            if thing is not None:
                self.refused_found(NoNumber, thing, Move, source, goal, "ann", promise=3, ceiling=thing)
        self.refused(TooMuch, {"many": 9}, Move, source, goal, "ann", promise=8)
        self.assertRaises(TypeError, Move, source, goal, "ann", 2)
        self.assertEqual((everything(source), everything(goal)), before)
        for named in ({"most": 0, "patience": 1}, {"most": 8, "patience": 60}):
            self.assertEqual(Move(source, goal, "ann", **named).phase(), "rounds")

    def test_what_the_goal_would_refuse(self):
        source = house_of(("ann", LOOP))
        full = house_of(*[(name, LOOP) for name in SIX[1:] + ["gil"]])
        self.refused(Full, {"many": 6}, Move, source, full, "ann", promise=12)
        self.refused_found(NoNumber, 13, Move, source, full, "ann", promise=13)


class RoundTest(Case):
    def test_the_rooms_that_are_not_sure_are_put(self):
        move, source, _ = move_of()
        rooms = source.rooms_of("ann")
        self.assertEqual(move.unsure(), [0, 1])
        self.assertEqual(move.one_round(), 2)
        self.assertEqual(move.letters(), [(1, 0, ("room", 0, 1, rooms[0])), (2, 0, ("room", 1, 1, rooms[1]))])
        self.assertEqual((move.rounds(), move.phase(), move.unsure()), (1, "rounds", [0, 1]))
        self.assertIs(type(letters(move)[0][1][3]), tuple)

    def test_they_are_sure_when_the_goal_told_so(self):
        move, _, _ = move_of()
        move.one_round()
        self.assertIsNone(move.come(1))
        self.assertEqual(move.letters()[1:], [(3, 1, ("have", 0, 1))])
        self.assertEqual(move.unsure(), [0, 1])
        move.come(3)
        self.assertEqual(move.unsure(), [1])
        self.assertEqual(move.one_round(), 1)
        self.assertEqual(letters(move)[-1], (0, ("room", 1, 2, move_of()[1].rooms_of("ann")[1])))
        # What the goal tells of the first round is not what was put last.
        move.come(2)
        move.come(5)
        self.assertEqual(move.unsure(), [1])
        come_all(move)
        self.assertEqual((move.unsure(), move.one_round(), move.rounds(), move.letters()), ([], 0, 3, []))

    def test_a_room_of_noughts_is_sure_until_it_is_written(self):
        move, source, _ = move_of(WRITER, 0)
        move.one_round()
        come_all(move)
        self.assertEqual(move.unsure(), [])
        source.turns(2)
        self.assertEqual((source.rooms_of("ann")[6], move.unsure()), (NOUGHTS, []))
        source.turns(5)
        self.assertEqual((source.rooms_of("ann")[6], move.unsure()), ((1,) + NOUGHTS[1:], [6]))
        source.turns(2)
        self.assertEqual(move.unsure(), [6, 7])
        self.assertEqual(move.one_round(), 2)
        self.assertEqual([letter[:3] for _, letter in letters(move)], [("room", 6, 2), ("room", 7, 2)])

    def test_a_room_is_written_again_behind_its_have(self):
        move, source, _ = move_of(WRITER, 9)
        move.one_round()
        come_all(move)
        self.assertEqual(move.unsure(), [])
        source.turns(3)
        self.assertEqual(move.unsure(), [6])
        move.one_round()
        source.turns(5)
        come_all(move)
        self.assertEqual(move.unsure(), [6, 7])

    def test_a_room_that_has_the_words_of_then_again_is_sure(self):
        image = image_with([op("set", 0, 1), op("save", 0, 40), op("set", 0, 0), op("save", 0, 40), op("jump", 0, 0)])
        move, source, _ = move_of(image, 2)
        move.one_round()
        come_all(move)
        self.assertEqual(move.unsure(), [])
        source.turns(2)
        self.assertEqual((source.rooms_of("ann")[6], move.unsure()), (NOUGHTS, [6]))
        source.turns(3)
        self.assertEqual((source.rooms_of("ann")[6][0], move.unsure()), (1, []))

    def test_a_room_that_was_put_and_is_noughts_is_not_sure_of_itself(self):
        image = image_with([op("set", 0, 1), op("save", 0, 40), op("set", 0, 0), op("save", 0, 40), op("jump", 0, 0)])
        move, source, _ = move_of(image, 2)
        move.one_round()
        source.turns(2)
        self.assertEqual((source.rooms_of("ann")[6], move.unsure()), (NOUGHTS, [0, 1, 6]))

    def test_the_have_that_came_last_counts(self):
        move, _, _ = move_of()
        move.one_round()
        move.come(1)
        move.one_round()
        self.assertEqual([letter[:3] for _, letter in letters(move)],
                         [("room", 1, 1), ("have", 0, 1), ("room", 0, 2), ("room", 1, 2)])
        move.come(4)
        move.come(6)
        self.assertEqual(move.unsure(), [1])
        # The elder one comes behind the later one.
        move.come(3)
        self.assertEqual(move.unsure(), [0, 1])

    def test_a_round_while_it_is_stopped_has_its_core_behind(self):
        move, source, _ = move_of(WRITER, 9)
        move.one_round()
        come_all(move)
        source.turns(3)
        move.stop()
        source.arrive("ann", "net", 5)
        self.assertEqual(move.one_round(), 2)
        self.assertEqual(letters(move), [
            (0, ("room", 6, 2, source.rooms_of("ann")[6])), (0, ("core", 2, text_of(source), (1, 1, 0, 0, 0, 0, 2, 1)))])
        self.assertIn("log 12 net 5", letters(move)[1][1][2])
        self.assertNotIn("room", letters(move)[1][1][2])


class StopTest(Case):
    def test_the_source_stops_the_guest(self):
        move, source, goal = move_of(most=2)
        self.assertIsNone(move.stop())
        self.assertEqual((move.phase(), source.is_stopped("ann"), move.runs_at(), move.unsure()),
                         ("stopped", True, None, [0, 1]))
        self.assertEqual((source.turns(2), goal.names(), move.rounds()), ([(None, None)] * 2, [], 0))

    def test_too_much(self):
        move, source, _ = move_of(most=1)
        before = everything(source)
        self.refused(TooMuch, {"many": 2}, move.stop)
        self.assertEqual((everything(source), move.phase()), (before, "rounds"))
        move.one_round()
        move.come(1)
        move.come(3)
        move.stop()
        self.assertEqual(move.phase(), "stopped")

    def test_most_0_and_8(self):
        move, _, _ = move_of(most=0)
        self.refused(TooMuch, {"many": 2}, move.stop)
        move.one_round()
        come_all(move)
        move.stop()
        image = (tuple((room + 1,) * 8 for room in range(8)), NO_ROOMS)
        move, _, _ = move_of(image, 0, most=7)
        self.refused(TooMuch, {"many": 8}, move.stop)
        move, _, _ = move_of(image, 0, most=8)
        move.stop()
        self.assertEqual((move.phase(), move.unsure()), ("stopped", list(range(8))))


class ComeTest(Case):
    def test_in_order_it_is_done(self):
        move, source, goal = stopped()
        self.assertEqual(move.one_round(), 1)
        core, rooms, log, trail = (source.core("ann"), source.rooms_of("ann"), source.log("ann"), source.trail("ann"))
        come_now(move)
        self.assertEqual((letters(move), move.phase(), move.runs_at()), ([(1, ("whole", 2))], "stopped", None))
        self.assertEqual((source.names(), goal.names()), (["ann", "bob"], []))
        come_now(move)
        self.assertEqual((letters(move), move.phase(), move.runs_at(), move.unsure(), move.stopped_for()),
                         ([(0, ("go", 2))], "given", None, [], 0))
        self.assertEqual((source.names(), goal.names()), (["bob"], []))
        come_now(move)
        self.assertEqual((letters(move), move.phase(), move.runs_at()), ([(1, ("runs",))], "given", 1))
        self.assertEqual((source.names(), goal.names()), (["bob"], ["ann"]))
        self.assertEqual((goal.core("ann"), goal.rooms_of("ann"), goal.log("ann"), goal.trail("ann")),
                         (core, rooms, log, trail))
        self.assertEqual((goal.is_stopped("ann"), goal.stepped("ann")), (False, []))
        come_now(move)
        self.assertEqual(at_first_and_behind(move), ("done", 2, [], 0, [], 1))
        goal.turns(20)
        self.assertEqual(goal.trail("ann"), run_alone(LOOP, end=23).trail())

    def test_promise_and_ceiling(self):
        move, _, goal = given(promise=3, ceiling=4)
        come_all(move)
        self.assertEqual(goal.shares().counting("ann"), (3, 4))
        move, _, goal = given()
        come_all(move)
        self.assertEqual(goal.shares().counting("ann"), (1, 10))

    def test_asks_under_way_are_put_into_the_goals_queue(self):
        move, source, goal = stopped(ASKER, 5)
        self.assertTrue(source.core("ann").asks())
        asks = [ask[0] for ask in source.core("ann").asks()]
        move.one_round()
        come_all(move)
        self.assertEqual((goal.queue().of("ann"), source.queue().of("ann"), move.phase()), (asks, [], "done"))

    def test_a_guest_that_ended_is_moved_too(self):
        move, _, goal = stopped(image_with([op("halt")]))
        move.one_round()
        come_all(move)
        self.assertEqual((goal.core("ann").state(), move.phase()), ("ended", "done"))

    def test_rooms_of_a_lesser_round_do_nothing_but_an_answer(self):
        move, source, goal = move_of(WRITER, 9)
        move.one_round()
        source.turns(5)
        move.one_round()
        later = [number for number, _, letter in move.letters() if letter[1:3] == (6, 2)][0]
        sooner = [number for number, _, letter in move.letters() if letter[1:3] == (6, 1)][0]
        move.come(later)
        move.come(sooner)
        self.assertEqual(letters(move)[-2:], [(1, ("have", 6, 2)), (1, ("have", 6, 2))])
        come_all(move)
        move.stop()
        move.one_round()
        rooms = source.rooms_of("ann")
        come_all(move)
        self.assertEqual((move.phase(), goal.rooms_of("ann")), ("done", rooms))

    def test_a_core_of_a_lesser_round_does_nothing(self):
        move, source, goal = stopped()
        move.one_round()
        source.arrive("ann", "line", 7)
        move.one_round()
        sooner, later = [number for number, _, _ in move.letters()]
        move.come(later)
        self.assertEqual(letters(move)[1:], [(1, ("whole", 3))])
        move.come(sooner)
        self.assertEqual(letters(move), [(1, ("whole", 3))] * 2)
        come_all(move)
        self.assertEqual((goal.core("ann").queue("line"), move.phase()), ([7], "done"))

    def test_whole_only_with_the_rooms_of_just_these_rounds(self):
        move, source, _ = move_of(WRITER, 9, most=8)
        move.one_round()
        come_all(move)
        source.turns(3)
        move.stop()
        move.one_round()
        room, core = [number for number, _, _ in move.letters()]
        move.come(core)
        self.assertEqual(words(move), ["room"])
        move.come(room)
        self.assertEqual(letters(move), [(1, ("have", 6, 2)), (1, ("whole", 2))])

    def test_a_whole_that_a_lost_room_puts_off(self):
        move, source, goal = move_of(most=8)
        move.stop()
        move.one_round()
        move.lose(2)
        come_all(move)
        self.assertEqual((move.unsure(), move.phase(), goal.names()), ([1], "stopped", []))
        self.assertEqual(move.one_round(), 2)
        self.assertEqual(letters(move)[1][1][3], (1, 2, 0, 0, 0, 0, 0, 0))
        come_all(move)
        self.assertEqual((move.phase(), goal.names(), source.names()), ("done", ["ann"], ["bob"]))

    def test_whole_while_the_guest_has_changed_since(self):
        move, source, goal = stopped()
        move.one_round()
        come_now(move)
        source.arrive("ann", "line", 5)
        come_now(move)
        self.assertEqual((move.phase(), move.letters(), source.names()), ("stopped", [], ["ann", "bob"]))
        move.one_round()
        come_all(move)
        self.assertEqual((move.phase(), goal.log("ann"), goal.core("ann").queue("line")), ("done", [(3, "line", 5)], [5]))

    def test_whole_of_an_elder_round_where_nothing_changed(self):
        move, source, goal = stopped()
        move.one_round()
        come_now(move)
        move.one_round()
        move.come(move.letters()[0][0])
        self.assertEqual((letters(move)[-1], move.phase()), ((0, ("go", 2)), "given"))
        self.assertEqual(words(move), ["core", "go"])
        come_now(move)
        self.assertEqual((goal.names(), words(move)), (["ann"], ["whole", "runs"]))
        come_now(move)
        self.assertEqual((move.phase(), words(move)), ("done", ["go"]))
        come_all(move)
        self.assertEqual((move.phase(), goal.names(), source.names()), ("done", ["ann"], ["bob"]))

    def test_it_keeps_the_guest_whole_whatever_comes_later(self):
        move, source, goal = stopped()
        trail = source.trail("ann")
        move.one_round()
        come_now(move)
        whole = move.letters()[0][0]
        move.double(whole)
        # The haves of this round tell of elder rooms now: the rooms are put again.
        move.one_round()
        move.come(whole)
        self.assertEqual(words(move), ["whole", "core", "go"])
        core, go = [number for number, _, letter in move.letters() if letter[0] in ("core", "go")]
        move.come(core)
        move.come(go)
        self.assertEqual((goal.names(), goal.trail("ann"), move.runs_at()), (["ann"], trail, 1))

    def test_go_twice(self):
        move, _, goal = given()
        go = move.letters()[0][0]
        move.double(go)
        come_now(move)
        self.assertEqual((letters(move), goal.names()), ([(1, ("runs",))] * 2, ["ann"]))
        goal.turns(3)
        before = everything(goal)
        move.again()
        come_all(move)
        self.assertEqual((move.phase(), everything(goal)), ("done", before))

    def test_by_default_two_rooms_may_be_unsure(self):
        image = (tuple((room + 1,) * 8 for room in range(3)) + (NOUGHTS,) * 5, NO_ROOMS)
        move, _, _ = move_of(image, 0)
        self.refused(TooMuch, {"many": 3}, move.stop)

    def test_go_where_the_guest_has_left_the_goal_since(self):
        move, _, goal = given()
        go = move.letters()[0][0]
        move.double(go)
        move.come(go)
        goal.leave("ann")
        come_all(move)
        self.assertEqual((move.phase(), goal.names(), move.runs_at()), ("done", [], 1))
        move, _, goal = given()
        come_all(move)
        self.assertEqual(move.phase(), "done")

    def test_whole_in_done_and_off_does_nothing(self):
        for end in ("done", "off"):
            move, source, goal = stopped()
            move.one_round()
            come_now(move)
            whole = move.letters()[0][0]
            move.double(whole)
            double = move.letters()[1][0]
            if end == "off":
                move.call_off()
            else:
                move.come(whole)
                while move.phase() != "done":
                    move.come(move.letters()[-1][0])
            self.assertEqual(move.phase(), end)
            many = len(move.letters())
            move.come(double)
            self.assertEqual((move.phase(), len(move.letters())), (end, many - 1))
            self.assertEqual((len(source.names()), len(goal.names())), (2, 0) if end == "off" else (1, 1))

    def test_again_where_go_was_lost(self):
        move, _, goal = given()
        move.lose(move.letters()[0][0])
        self.assertIsNone(move.again())
        self.assertEqual(letters(move), [(0, ("go", 2))])
        come_all(move)
        self.assertEqual((move.phase(), goal.names()), ("done", ["ann"]))

    def test_again_where_runs_was_lost(self):
        move, _, goal = given()
        come_now(move)
        move.lose(move.letters()[0][0])
        self.assertEqual((move.phase(), move.runs_at()), ("given", 1))
        move.again()
        come_all(move)
        self.assertEqual((move.phase(), goal.names()), ("done", ["ann"]))

    def test_whole_in_given_puts_the_same_go(self):
        move, _, _ = stopped()
        move.one_round()
        come_now(move)
        whole = move.letters()[0][0]
        move.double(whole)
        come_now(move)
        self.assertEqual((letters(move), move.phase()), ([(0, ("go", 2))] * 2, "given"))

    def test_haves_and_runs_in_other_phases_do_nothing(self):
        move, source, goal = move_of()
        move.one_round()
        move.double(1)
        move.come(1)
        move.call_off()
        haves = [number for number, _, letter in move.letters() if letter[0] == "have"]
        move.come(haves[0])
        self.assertEqual((move.phase(), move.unsure(), source.is_stopped("ann")), ("off", [], False))
        come_all(move)
        self.assertEqual((move.phase(), goal.names(), move.letters()), ("off", [], []))


class RefusingGoalTest(Case):
    def fill(self, goal, way):
        if way == "name":
            goal.come("ann", ECHO)
        elif way == "full":
            for name in SIX[1:] + ["gil"]:
                goal.come(name, ECHO)
        else:
            goal.come("bob", ECHO, promise=10)

    def test_at_whole_the_move_is_called_off(self):
        for way in ("name", "full", "promised"):
            move, source, goal = stopped()
            move.one_round()
            come_now(move)
            self.fill(goal, way)
            before = everything(goal)
            come_now(move)
            self.assertEqual((move.phase(), letters(move), source.is_stopped("ann")), ("off", [(0, ("off",))], False))
            come_all(move)
            self.assertEqual((everything(goal), source.names(), move.runs_at()), (before, ["ann", "bob"], 0))

    def test_at_go_nothing_is_done(self):
        for way in ("name", "full", "promised"):
            move, _, goal = given()
            self.fill(goal, way)
            before = everything(goal)
            come_now(move)
            self.assertEqual((move.phase(), move.letters(), move.runs_at()), ("given", [], None))
            self.assertEqual(everything(goal), before)
            goal.leave(goal.names()[-1])
            move.again()
            come_all(move)
            self.assertEqual((move.phase(), move.runs_at(), goal.trail("ann")), ("done", 1, run_alone(LOOP, end=3).trail()))


class PatienceTest(Case):
    def test_just_as_many_turns_and_one_more(self):
        for patience in (1, 8, 60):
            move, source, _ = stopped(patience=patience)
            source.turns(patience)
            self.assertEqual(move.stopped_for(), patience)
            self.assertIsNone(move.look())
            self.assertEqual((move.phase(), source.is_stopped("ann")), ("stopped", True))
            source.turns(1)
            self.assertEqual((move.phase(), move.stopped_for()), ("stopped", patience + 1))
            move.look()
            self.assertEqual((move.phase(), source.is_stopped("ann"), letters(move), move.stopped_for()),
                             ("off", False, [(0, ("off",))], 0))

    def test_turns_ahead_of_the_stop_do_not_count(self):
        move, source, goal = stopped(turns=50, patience=1)
        goal.turns(50)
        move.look()
        self.assertEqual((move.phase(), move.stopped_for()), ("stopped", 0))
        source.turns(1)
        self.assertEqual(move.stopped_for(), 1)

    def test_it_stands_whatever_becomes_of_the_deed(self):
        for deed in ("one_round", "stop", "again", "call_off"):
            move, source, _ = stopped(patience=1)
            source.turns(2)
            self.refused_found(NotMoving, "off", getattr(move, deed))
            self.assertEqual((move.phase(), source.is_stopped("ann"), letters(move)), ("off", False, [(0, ("off",))]))
        for deed in ("come", "lose", "double"):
            move, source, _ = stopped(patience=1)
            source.turns(2)
            self.refused_found(NotOnRoad, 99, getattr(move, deed), 99)
            self.assertEqual((move.phase(), source.is_stopped("ann")), ("off", False))

    def test_a_whole_that_comes_too_late(self):
        move, source, goal = stopped(patience=1)
        move.one_round()
        come_now(move)
        source.turns(2)
        come_now(move)
        self.assertEqual((move.phase(), source.names(), goal.names()), ("off", ["ann", "bob"], []))

    def test_in_other_phases_turns_do_not_matter(self):
        move, source, _ = move_of(patience=1)
        source.turns(5)
        move.look()
        self.assertEqual((move.phase(), move.stopped_for()), ("rounds", 0))
        move, source, _ = given(patience=1)
        source.turns(5)
        move.look()
        self.assertEqual((move.phase(), move.stopped_for()), ("given", 0))


class OffTest(Case):
    def test_in_rounds(self):
        move, source, goal = move_of()
        same = source.twin()
        move.one_round()
        self.assertIsNone(move.call_off())
        self.assertEqual((at_first_and_behind(move)[0], words(move), move.runs_at()), ("off", ["room", "room", "off"], 0))
        come_all(move)
        self.assertEqual((everything(source), everything(goal)), (everything(same), everything(House(9, length=10))))

    def test_in_stopped_the_guest_goes_on(self):
        move, source, _ = stopped()
        same = source.twin()
        move.call_off()
        same.go_on("ann")
        self.assertEqual((move.phase(), everything(source)), ("off", everything(same)))

    def test_one_that_was_stopped_ahead_of_it_stays_so(self):
        move, source, _ = move_of()
        source.stop("ann")
        move.stop()
        move.call_off()
        self.assertEqual((move.phase(), source.is_stopped("ann")), ("off", True))
        move, source, _ = move_of()
        source.stop("ann")
        move.call_off()
        self.assertIs(source.is_stopped("ann"), True)

    def test_off_ahead_of_all(self):
        move, source, goal = stopped()
        move.one_round()
        move.call_off()
        off = [number for number, _, letter in move.letters() if letter[0] == "off"][0]
        move.come(off)
        come_all(move)
        self.assertEqual((move.phase(), move.letters(), goal.names(), source.names()), ("off", [], [], ["ann", "bob"]))

    def test_what_comes_behind_off_is_not_answered(self):
        move, _, _ = move_of()
        move.one_round()
        move.call_off()
        move.come(3)
        move.come(1)
        move.come(2)
        self.assertEqual(move.letters(), [])

    def test_called_off_ahead_of_whole(self):
        move, source, goal = stopped()
        move.one_round()
        come_now(move)
        move.call_off()
        come_all(move)
        self.assertEqual((move.phase(), source.names(), goal.names()), ("off", ["ann", "bob"], []))
        self.assertEqual(source.turns(1)[0][0], "ann")

    def test_again_where_it_is_called_off_and_moved_anew(self):
        move, source, goal = stopped()
        move.call_off()
        move = Move(source, goal, "ann", most=8)
        move.stop()
        move.one_round()
        come_all(move)
        self.assertEqual((move.phase(), goal.names()), ("done", ["ann"]))


class PhaseTest(Case):
    def moves(self):
        done, off = given()[0], move_of()[0]
        come_all(done)
        off.call_off()
        return {"rounds": move_of()[0], "stopped": stopped()[0], "given": given()[0], "done": done, "off": off}

    def test_deeds_that_are_not_of_the_phase(self):
        may = {"one_round": ("rounds", "stopped"), "stop": ("rounds",), "again": ("given",),
               "call_off": ("rounds", "stopped")}
        for deed, phases in may.items():
            for phase, move in self.moves().items():
                if phase not in phases:
                    before = at_first_and_behind(move)
                    self.refused(NotMoving, {"found": phase}, getattr(move, deed))
                    self.assertEqual(at_first_and_behind(move), before)

    def test_letters_in_each_phase(self):
        for move in self.moves().values():
            before = at_first_and_behind(move)
            for call in (move.come, move.lose, move.double):
                for thing in NOT_NUMBERS + [0, -1, 999, GREATEST]:
                    self.refused_found(NotOnRoad, thing, call, thing)
            self.assertIsNone(move.look())
            self.assertEqual(at_first_and_behind(move), before)

    def test_lost_and_doubled(self):
        move, source, _ = move_of()
        before = everything(source)
        move.one_round()
        self.assertIsNone(move.lose(number=1))
        self.assertIsNone(move.double(number=2))
        self.assertIsNone(move.double(3))
        self.assertEqual([(number, letter[:3]) for number, _, letter in move.letters()],
                         [(2, ("room", 1, 1)), (3, ("room", 1, 1)), (4, ("room", 1, 1))])
        move.come(number=4)
        self.assertEqual((words(move), everything(source)), (["room", "room", "have"], before))

    def test_what_is_told_is_new_each_time(self):
        move, _, _ = move_of()
        move.one_round()
        before = at_first_and_behind(move)
        move.letters().clear()
        move.unsure().clear()
        self.assertEqual(at_first_and_behind(move), before)
        self.assertEqual((type(move.letters()), type(move.letters()[0]), type(move.unsure())), (list, tuple, list))
