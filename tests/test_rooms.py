"""Points 51 to 56: the rooms of a house, one by one."""

from guestsalone.errors import Doubled, Full, NoGuest, NoImage, NoName, NoNumber, NoWord
from guestsalone.rooms import Rooms
from tests.helpers import GREATEST, NO_ROOMS, Case, beyond, rows
from tests.test_core import NO_BLOCKS

NO_NAMES = [None, True, 0, GREATEST, "", "Ann", "ann1", "abcdefghi", [], ["ann"], ("ann",), {"ann": 1}]
SIX = ["ann", "bob", "cid", "dan", "eve", "fay"]


def filled(number):
    """Rooms each of which has eight times a word of its own, told by a number from 0 to 500."""
    return tuple((number * 8 + room + 1,) * 8 for room in range(8))


def everything(rooms):
    """All that Rooms tell."""
    return (
        rooms.how_many(), rooms.names(), rooms.in_use(), rooms.shared(),
        [rooms.lying(number) for number in range(rooms.how_many())],
        [(name, room, rooms.way(name, room), rooms.words(name, room)) for name in rooms.names() for room in range(8)],
        [rooms.rooms_of(name) for name in rooms.names()],
    )


def with_guests(many, *guests):
    """So many rooms, with guests, tuples of a name and rooms."""
    rooms = Rooms(many)
    for name, told in guests:
        rooms.come(name, told)
    return rooms


def ways(rooms, name):
    return [rooms.way(name, room) for room in range(8)]


def shared_by_two(many):
    """At least two rooms; room 0 of ann and of bob lie in room 0 of the house, all others are blank."""
    rooms = with_guests(many, ("ann", rows({0: [7] * 8})), ("bob", rows({0: [7] * 8})))
    rooms.read_cell("ann", 0, 0)
    rooms.read_cell("bob", 0, 0)
    rooms.share()
    return rooms


class MadeTest(Case):
    def test_one_and_64_rooms(self):
        for many in (1, 2, 64):
            rooms = Rooms(many)
            self.assertEqual((rooms.how_many(), rooms.names(), rooms.in_use(), rooms.shared()), (many, [], [], 0))
            self.assertEqual([rooms.lying(number) for number in range(many)], [[]] * many)
            self.refused(NoNumber, {"found": many}, rooms.lying, many)

    def test_no_number(self):
        for thing in beyond(1, 64):
            self.refused_found(NoNumber, thing, Rooms, thing)
        self.assertEqual(Rooms(many=3).how_many(), 3)


class ComeTest(Case):
    def test_blank_and_away(self):
        rooms = Rooms(2)
        told = rows({1: [0, 0, 0, 0, 0, 0, 0, 1], 2: [5], 7: [4095] * 8})
        self.assertIsNone(rooms.come("ann", told))
        self.assertEqual(ways(rooms, "ann"), ["blank", "away", "away"] + ["blank"] * 4 + ["away"])
        self.assertEqual(rooms.rooms_of("ann"), told)
        self.assertEqual([rooms.words("ann", room) for room in range(8)], [list(room) for room in told])
        self.assertEqual((rooms.in_use(), rooms.shared(), rooms.names()), ([], 0, ["ann"]))

    def test_names_in_the_order_of_coming(self):
        rooms = with_guests(1, *[(name, NO_ROOMS) for name in ("eve", "ann", "zoe", "bob")])
        self.assertEqual(rooms.names(), ["eve", "ann", "zoe", "bob"])
        rooms.go("ann")
        rooms.come("ann", NO_ROOMS)
        self.assertEqual(rooms.names(), ["eve", "zoe", "bob", "ann"])

    def test_six_guests_and_a_seventh(self):
        rooms = with_guests(3, *[(name, NO_ROOMS) for name in SIX])
        before = everything(rooms)
        self.refused(Full, {"many": 6}, rooms.come, "gil", NO_ROOMS)
        self.refused_found(Doubled, "cid", rooms.come, "cid", NO_ROOMS)
        self.assertEqual(everything(rooms), before)
        rooms.go("ann")
        rooms.come("gil", NO_ROOMS)
        self.assertEqual(rooms.names(), SIX[1:] + ["gil"])

    def test_refusals(self):
        rooms = with_guests(3, ("ann", filled(1)))
        rooms.read_cell("ann", 2, 2)
        before = everything(rooms)
        for thing in NO_NAMES:
            self.refused_found(NoName, thing, rooms.come, thing, NO_ROOMS)
            self.refused_found(NoName, thing, rooms.come, thing, [])
        for thing in NO_BLOCKS:
            self.refused_found(NoImage, thing, rooms.come, "bob", thing)
            self.refused_found(NoImage, thing, rooms.come, "ann", thing)
        self.refused_found(Doubled, "ann", rooms.come, "ann", NO_ROOMS)
        self.assertEqual(everything(rooms), before)

    def test_by_names(self):
        rooms = Rooms(1)
        rooms.come(name="ann", rooms=filled(1))
        rooms.replaced(name="ann", rooms=filled(2))
        rooms.write_cell(name="ann", room=1, cell=2, word=3)
        self.assertEqual(rooms.read_cell(name="ann", room=1, cell=2), 3)
        self.assertEqual((rooms.way(name="ann", room=1), rooms.words(name="ann", room=0)), (0, [17] * 8))
        self.assertEqual(rooms.lying(number=0), [("ann", 1)])
        self.assertIs(rooms.take_back(name="ann", room=1), True)
        self.assertEqual(rooms.store(name="ann").read_cell(room=1, cell=2), 3)
        self.assertEqual(rooms.go(name="ann")[0], (17,) * 8)


class GoTest(Case):
    def test_its_rooms_are_told_and_free(self):
        rooms = with_guests(4, ("ann", filled(1)), ("bob", filled(2)))
        rooms.read_cell("ann", 3, 0)
        rooms.read_cell("bob", 3, 0)
        rooms.write_cell("ann", 4, 1, 9)
        told = rooms.go("ann")
        self.assertEqual(told, filled(1)[:4] + ((13, 9, 13, 13, 13, 13, 13, 13),) + filled(1)[5:])
        self.assertEqual({type(room) for room in told} | {type(told)}, {tuple})
        self.assertEqual((rooms.names(), rooms.in_use()), (["bob"], [1]))
        self.assertEqual([rooms.lying(number) for number in range(4)], [[], [("bob", 3)], [], []])

    def test_others_stay_in_a_shared_room(self):
        rooms = shared_by_two(3)
        rooms.go("ann")
        self.assertEqual((rooms.lying(0), rooms.shared(), rooms.words("bob", 0)), ([("bob", 0)], 0, [7] * 8))

    def test_nobody(self):
        rooms = with_guests(1, ("ann", filled(1)))
        before = everything(rooms)
        for thing in NO_NAMES + ["bob"]:
            self.refused_found(NoGuest, thing, rooms.go, thing)
        self.assertEqual(everything(rooms), before)


class ReplacedTest(Case):
    def test_others_are_blank_or_away_and_the_order_stays(self):
        rooms = with_guests(3, ("ann", filled(1)), ("bob", filled(2)))
        rooms.read_cell("ann", 0, 0)
        rooms.write_cell("ann", 1, 0, 1)
        rooms.read_cell("bob", 0, 0)
        self.assertIsNone(rooms.replaced("ann", rows({1: [3]})))
        self.assertEqual(ways(rooms, "ann"), ["blank", "away"] + ["blank"] * 6)
        self.assertEqual((rooms.names(), rooms.in_use(), rooms.rooms_of("ann")), (["ann", "bob"], [2], rows({1: [3]})))

    def test_refusals(self):
        rooms = with_guests(1, ("ann", filled(1)))
        before = everything(rooms)
        for thing in NO_NAMES + ["bob"]:
            self.refused_found(NoGuest, thing, rooms.replaced, thing, [])
        for thing in NO_BLOCKS:
            self.refused_found(NoImage, thing, rooms.replaced, "ann", thing)
        self.assertEqual(everything(rooms), before)


class CellsTest(Case):
    def test_a_blank_room_that_is_read_stays_blank(self):
        rooms = with_guests(2, ("ann", NO_ROOMS))
        self.assertEqual([rooms.read_cell("ann", 3, cell) for cell in range(8)], [0] * 8)
        self.assertEqual((ways(rooms, "ann"), rooms.in_use()), (["blank"] * 8, []))

    def test_a_room_that_is_away_is_brought_in(self):
        rooms = with_guests(3, ("ann", filled(1)))
        self.assertEqual(rooms.read_cell("ann", 5, 7), 14)
        self.assertEqual((rooms.way("ann", 5), rooms.lying(0), rooms.in_use()), (0, [("ann", 5)], [0]))
        self.assertEqual(rooms.read_cell("ann", 5, 0), 14)
        self.assertEqual(rooms.read_cell("ann", 0, 0), 9)
        self.assertEqual((rooms.way("ann", 0), rooms.in_use()), (1, [0, 1]))

    def test_a_blank_room_that_is_written_is_brought_in(self):
        rooms = with_guests(2, ("ann", NO_ROOMS))
        self.assertIsNone(rooms.write_cell("ann", 3, 2, 9))
        self.assertEqual((rooms.way("ann", 3), rooms.words("ann", 3)), (0, [0, 0, 9, 0, 0, 0, 0, 0]))

    def test_noughts_that_lie_in_a_room_are_not_blank(self):
        rooms = with_guests(2, ("ann", NO_ROOMS))
        rooms.write_cell("ann", 3, 2, 0)
        self.assertEqual((rooms.way("ann", 3), rooms.words("ann", 3), rooms.in_use()), (0, [0] * 8, [0]))
        self.assertIs(rooms.take_back("ann", 3), True)
        self.assertEqual(rooms.way("ann", 3), "away")
        rooms.read_cell("ann", 3, 0)
        self.assertEqual(rooms.way("ann", 3), 0)

    def test_a_room_that_is_away_is_brought_in_and_written(self):
        rooms = with_guests(2, ("ann", filled(1)))
        rooms.write_cell("ann", 1, 0, 9)
        self.assertEqual((rooms.way("ann", 1), rooms.words("ann", 1)), (0, [9] + [10] * 7))

    def test_refusals(self):
        rooms = with_guests(2, ("ann", filled(1)))
        before = everything(rooms)
        for thing in NO_NAMES + ["bob"]:
            self.refused_found(NoGuest, thing, rooms.read_cell, thing, 8, 8)
            self.refused_found(NoGuest, thing, rooms.write_cell, thing, 8, 8, 4096)
        for thing in beyond(0, 7):
            self.refused_found(NoNumber, thing, rooms.read_cell, "ann", thing, [])
            self.refused_found(NoNumber, thing, rooms.read_cell, "ann", 0, thing)
            self.refused_found(NoNumber, thing, rooms.write_cell, "ann", thing, [], [])
            self.refused_found(NoNumber, thing, rooms.write_cell, "ann", 0, thing, [])
        for thing in beyond(0, 4095):
            self.refused_found(NoWord, thing, rooms.write_cell, "ann", 0, 0, thing)
        self.assertEqual(everything(rooms), before)


class GivenTest(Case):
    def test_the_free_room_of_the_least_number(self):
        rooms = with_guests(4, ("ann", filled(1)))
        for room in range(4):
            rooms.read_cell("ann", room, 0)
        rooms.take_back("ann", 2)
        rooms.take_back("ann", 1)
        self.assertEqual(rooms.in_use(), [0, 3])
        rooms.read_cell("ann", 7, 0)
        self.assertEqual(rooms.way("ann", 7), 1)

    def test_where_none_is_free_that_which_was_given_longest_ago(self):
        rooms = with_guests(3, ("ann", filled(1)), ("bob", filled(2)))
        rooms.read_cell("ann", 0, 0)
        rooms.read_cell("bob", 0, 0)
        rooms.read_cell("ann", 1, 0)
        rooms.take_back("ann", 0)
        rooms.read_cell("bob", 7, 0)
        self.assertEqual([rooms.lying(number) for number in range(3)], [[("bob", 7)], [("bob", 0)], [("ann", 1)]])
        # It was read since, and that is no giving.
        rooms.read_cell("bob", 0, 0)
        rooms.write_cell("bob", 0, 1, 77)
        rooms.read_cell("ann", 5, 0)
        self.assertEqual([rooms.lying(number) for number in range(3)], [[("bob", 7)], [("ann", 5)], [("ann", 1)]])
        self.assertEqual((rooms.way("bob", 0), rooms.words("bob", 0)), ("away", [17, 77] + [17] * 6))
        rooms.read_cell("ann", 6, 0)
        rooms.read_cell("ann", 7, 0)
        self.assertEqual([rooms.lying(number) for number in range(3)], [[("ann", 7)], [("ann", 5)], [("ann", 6)]])

    def test_one_room_for_all(self):
        rooms = with_guests(1, ("ann", filled(1)), ("bob", NO_ROOMS))
        rooms.write_cell("bob", 0, 0, 5)
        self.assertEqual(rooms.read_cell("ann", 2, 1), 11)
        self.assertEqual((rooms.way("bob", 0), rooms.words("bob", 0)), ("away", [5] + [0] * 7))
        self.assertEqual((rooms.read_cell("bob", 0, 0), rooms.way("ann", 2), rooms.in_use()), (5, "away", [0]))

    def test_all_that_lie_in_it_are_away(self):
        rooms = shared_by_two(2)
        rooms.write_cell("bob", 1, 0, 1)
        rooms.write_cell("bob", 2, 0, 1)
        self.assertEqual((rooms.way("ann", 0), rooms.way("bob", 0), rooms.way("bob", 2)), ("away", "away", 0))
        self.assertEqual((rooms.words("ann", 0), rooms.words("bob", 0)), ([7] * 8, [7] * 8))
        rooms.write_cell("ann", 0, 0, 8)
        self.assertEqual(rooms.words("bob", 0), [7] * 8)

    def test_a_room_has_nothing_of_what_was_in_it(self):
        rooms = with_guests(1, ("ann", filled(1)), ("bob", NO_ROOMS))
        rooms.read_cell("ann", 0, 0)
        rooms.go("ann")
        rooms.write_cell("bob", 0, 3, 1)
        self.assertEqual(rooms.words("bob", 0), [0, 0, 0, 1, 0, 0, 0, 0])
        rooms.write_cell("bob", 1, 0, 2)
        self.assertEqual(rooms.words("bob", 1), [2, 0, 0, 0, 0, 0, 0, 0])


class TakeBackTest(Case):
    def test_by_hand(self):
        rooms = with_guests(2, ("ann", filled(1)))
        self.assertIs(rooms.take_back("ann", 0), False)
        rooms.write_cell("ann", 0, 0, 5)
        self.assertIs(rooms.take_back("ann", 0), True)
        self.assertEqual((rooms.way("ann", 0), rooms.in_use(), rooms.words("ann", 0)), ("away", [], [5] + [9] * 7))
        self.assertIs(rooms.take_back("ann", 0), False)

    def test_a_blank_room_stays_blank(self):
        rooms = with_guests(2, ("ann", NO_ROOMS))
        self.assertIs(rooms.take_back("ann", 0), False)
        self.assertEqual(rooms.way("ann", 0), "blank")

    def test_others_stay(self):
        rooms = shared_by_two(2)
        self.assertIs(rooms.take_back("ann", 0), True)
        self.assertEqual((rooms.way("ann", 0), rooms.way("bob", 0), rooms.lying(0)), ("away", 0, [("bob", 0)]))
        self.assertEqual((rooms.words("ann", 0), rooms.shared()), ([7] * 8, 0))
        rooms.write_cell("bob", 0, 0, 5)
        self.assertEqual((rooms.words("ann", 0), rooms.words("bob", 0)), ([7] * 8, [5] + [7] * 7))

    def test_refusals(self):
        rooms = with_guests(2, ("ann", filled(1)))
        for call in (rooms.take_back, rooms.way, rooms.words):
            for thing in NO_NAMES + ["bob"]:
                self.refused_found(NoGuest, thing, call, thing, 8)
            for thing in beyond(0, 7):
                self.refused_found(NoNumber, thing, call, "ann", thing)
        for thing in NO_NAMES + ["bob"]:
            self.refused_found(NoGuest, thing, rooms.rooms_of, thing)
            self.refused_found(NoGuest, thing, rooms.store, thing)
        for thing in beyond(0, 1):
            self.refused_found(NoNumber, thing, rooms.lying, thing)


class ShareTest(Case):
    def test_equal_rooms_are_shared(self):
        rooms = with_guests(6, ("ann", rows({0: [7] * 8, 1: [7] * 8, 2: [8] * 8})),
                            ("bob", rows({3: [7] * 8, 4: [8] * 8, 5: [9]})))
        for name, room in (("bob", 5), ("bob", 3), ("ann", 2), ("ann", 1), ("ann", 0), ("bob", 4)):
            rooms.read_cell(name, room, 0)
        self.assertEqual(rooms.share(), 3)
        self.assertEqual([rooms.lying(number) for number in range(6)], [
            [("bob", 5)], [("ann", 0), ("ann", 1), ("bob", 3)], [("ann", 2), ("bob", 4)], [], [], []])
        self.assertEqual((rooms.shared(), rooms.in_use()), (2, [0, 1, 2]))
        self.assertEqual(rooms.share(), 0)

    def test_blank_rooms_and_those_away_are_not_shared(self):
        rooms = with_guests(3, ("ann", rows({1: [7] * 8})), ("bob", rows({1: [7] * 8})))
        rooms.read_cell("ann", 1, 0)
        self.assertEqual((rooms.share(), rooms.in_use(), rooms.way("bob", 1)), (0, [0], "away"))

    def test_noughts_that_lie_in_rooms_are_shared(self):
        rooms = with_guests(3, ("ann", NO_ROOMS), ("bob", NO_ROOMS))
        rooms.write_cell("ann", 0, 0, 0)
        rooms.write_cell("bob", 0, 0, 0)
        self.assertEqual((rooms.share(), rooms.lying(0), rooms.way("ann", 1)), (1, [("ann", 0), ("bob", 0)], "blank"))

    def test_a_word_written_in_a_shared_room(self):
        rooms = shared_by_two(3)
        rooms.write_cell("ann", 0, 1, 9)
        self.assertEqual((rooms.way("ann", 0), rooms.way("bob", 0)), (1, 0))
        self.assertEqual((rooms.words("ann", 0), rooms.words("bob", 0)), ([7, 9] + [7] * 6, [7] * 8))
        self.assertEqual(rooms.shared(), 0)
        rooms.write_cell("bob", 0, 1, 9)
        self.assertEqual((rooms.way("bob", 0), rooms.words("ann", 0)), (0, rooms.words("bob", 0)))

    def test_the_same_word_written_in_a_shared_room(self):
        rooms = shared_by_two(3)
        rooms.write_cell("bob", 0, 1, 7)
        self.assertEqual((rooms.way("ann", 0), rooms.way("bob", 0), rooms.shared()), (0, 1, 0))
        self.assertEqual((rooms.share(), rooms.way("bob", 0)), (1, 0))

    def test_made_equal_again_by_a_write(self):
        rooms = shared_by_two(3)
        rooms.write_cell("ann", 0, 1, 9)
        rooms.write_cell("ann", 0, 1, 7)
        self.assertEqual((rooms.way("ann", 0), rooms.shared()), (1, 0))
        self.assertEqual((rooms.share(), rooms.lying(0)), (1, [("ann", 0), ("bob", 0)]))

    def test_reading_a_shared_room_leaves_it_shared(self):
        rooms = shared_by_two(3)
        self.assertEqual((rooms.read_cell("ann", 0, 1), rooms.read_cell("bob", 0, 1), rooms.shared()), (7, 7, 1))

    def test_a_write_where_the_shared_room_itself_is_taken_back(self):
        rooms = shared_by_two(2)
        rooms.write_cell("ann", 5, 0, 3)
        self.assertEqual(rooms.in_use(), [0, 1])
        rooms.write_cell("bob", 0, 2, 9)
        self.assertEqual((rooms.way("bob", 0), rooms.words("bob", 0)), (0, [7, 7, 9] + [7] * 5))
        self.assertEqual((rooms.way("ann", 0), rooms.words("ann", 0), rooms.way("ann", 5)), ("away", [7] * 8, 1))

    def test_a_write_where_another_room_is_taken_back_leaves_the_others(self):
        rooms = with_guests(3, ("ann", rows({0: [7] * 8, 1: [1], 2: [2]})), ("bob", rows({0: [7] * 8, 3: [3]})))
        rooms.read_cell("ann", 1, 0)
        rooms.read_cell("ann", 2, 0)
        rooms.take_back("ann", 1)
        rooms.read_cell("ann", 0, 0)
        rooms.read_cell("bob", 0, 0)
        rooms.share()
        rooms.read_cell("bob", 3, 0)
        self.assertEqual([rooms.lying(number) for number in range(3)],
                         [[("ann", 0), ("bob", 0)], [("ann", 2)], [("bob", 3)]])
        rooms.write_cell("ann", 0, 1, 9)
        self.assertEqual([rooms.lying(number) for number in range(3)], [[("bob", 0)], [("ann", 0)], [("bob", 3)]])
        self.assertEqual((rooms.words("ann", 0), rooms.words("bob", 0)), ([7, 9] + [7] * 6, [7] * 8))
        self.assertEqual((rooms.way("ann", 2), rooms.words("ann", 2)), ("away", [2] + [0] * 7))

    def test_a_shared_room_counts_as_given_when_it_was(self):
        rooms = with_guests(3, ("ann", rows({0: [7] * 8, 1: [6]})), ("bob", rows({0: [7] * 8, 1: [5], 2: [4]})))
        for name, room in (("ann", 0), ("ann", 1), ("bob", 0)):
            rooms.read_cell(name, room, 0)
        rooms.share()
        rooms.read_cell("bob", 1, 0)
        rooms.read_cell("bob", 2, 0)
        self.assertEqual([rooms.lying(number) for number in range(3)], [[("bob", 2)], [("ann", 1)], [("bob", 1)]])
        self.assertEqual((rooms.way("ann", 0), rooms.way("bob", 0)), ("away", "away"))

    def test_two_rooms_of_one_guest(self):
        rooms = with_guests(2, ("ann", rows({2: [7] * 8, 5: [7] * 8})))
        rooms.read_cell("ann", 5, 0)
        rooms.read_cell("ann", 2, 0)
        self.assertEqual((rooms.share(), rooms.lying(0), rooms.shared()), (1, [("ann", 2), ("ann", 5)], 1))
        rooms.write_cell("ann", 2, 0, 1)
        self.assertEqual((rooms.words("ann", 2), rooms.words("ann", 5)), ([1] + [7] * 7, [7] * 8))


class StoreTest(Case):
    def test_it_works_with_these_rooms(self):
        rooms = with_guests(2, ("ann", filled(1)))
        store = rooms.store("ann")
        self.assertEqual(store.read_cell(3, 0), 12)
        self.assertIsNone(store.write_cell(3, 1, 99))
        self.assertEqual((rooms.words("ann", 3), rooms.way("ann", 3)), ([12, 99] + [12] * 6, 0))
        rooms.write_cell("ann", 3, 2, 98)
        self.assertEqual(store.read_cell(3, 2), 98)

    def test_it_refuses_as_these_rooms_do(self):
        rooms = with_guests(2, ("ann", filled(1)))
        store = rooms.store("ann")
        before = everything(rooms)
        for thing in beyond(0, 7):
            self.refused_found(NoNumber, thing, store.read_cell, thing, [])
            self.refused_found(NoNumber, thing, store.read_cell, 0, thing)
            self.refused_found(NoNumber, thing, store.write_cell, thing, [], [])
            self.refused_found(NoNumber, thing, store.write_cell, 0, thing, [])
        for thing in beyond(0, 4095):
            self.refused_found(NoWord, thing, store.write_cell, 0, 0, thing)
        self.assertEqual(everything(rooms), before)

    def test_by_a_name_that_nobody_has_and_that_another_one_has(self):
        rooms = with_guests(2, ("ann", filled(1)), ("bob", filled(3)))
        store = rooms.store("ann")
        store.read_cell(0, 0)
        rooms.go("ann")
        before = everything(rooms)
        self.refused(NoGuest, {"found": "ann"}, store.read_cell, 0, 0)
        self.refused(NoGuest, {"found": "ann"}, store.read_cell, [], [])
        self.refused(NoGuest, {"found": "ann"}, store.write_cell, [], [], [])
        self.assertEqual(everything(rooms), before)
        rooms.come("ann", filled(2))
        self.assertEqual(store.read_cell(0, 0), 17)
        store.write_cell(0, 0, 1)
        self.assertEqual(rooms.words("ann", 0), [1] + [17] * 7)

    def test_a_store_of_a_twin_is_its_own(self):
        rooms = with_guests(2, ("ann", filled(1)))
        store, twin = rooms.store("ann"), rooms.twin()
        store.write_cell(0, 0, 99)
        twin.store("ann").write_cell(1, 0, 98)
        self.assertEqual((rooms.words("ann", 0)[0], twin.words("ann", 0)[0]), (99, 9))
        self.assertEqual((rooms.words("ann", 1)[0], twin.words("ann", 1)[0]), (10, 98))


class ToldTest(Case):
    def test_telling_changes_nothing(self):
        rooms = with_guests(3, ("ann", filled(1)), ("bob", rows({1: [3]})))
        rooms.read_cell("ann", 0, 0)
        rooms.write_cell("bob", 5, 0, 0)
        before = everything(rooms)
        self.assertEqual(everything(rooms), before)
        self.assertEqual(rooms.twin().in_use(), [0, 1])

    def test_lists_are_new_each_time(self):
        rooms = shared_by_two(3)
        before = everything(rooms)
        rooms.names().append("eve")
        rooms.in_use().clear()
        rooms.words("ann", 0)[0] = 1
        rooms.words("ann", 1)[0] = 1
        rooms.lying(0).clear()
        rooms.take_back("ann", 0)
        rooms.words("ann", 0)[0] = 1
        rooms.read_cell("ann", 0, 0)
        rooms.share()
        self.assertEqual(everything(rooms), before)

    def test_lying_by_the_guests_order_and_the_rooms(self):
        rooms = with_guests(4, ("zoe", rows({6: [1], 2: [1]})), ("ann", rows({7: [1], 0: [1]})))
        for name, room in (("ann", 7), ("zoe", 6), ("ann", 0), ("zoe", 2)):
            rooms.read_cell(name, room, 0)
        rooms.share()
        self.assertEqual(rooms.lying(0), [("zoe", 2), ("zoe", 6), ("ann", 0), ("ann", 7)])

    def test_twins(self):
        rooms = shared_by_two(2)
        rooms.write_cell("ann", 3, 0, 3)
        twin = rooms.twin()
        before = everything(rooms)
        self.assertEqual(everything(twin), before)
        twin.write_cell("bob", 0, 0, 1)
        twin.come("cid", filled(5))
        twin.go("ann")
        self.assertEqual(everything(rooms), before)
        after = everything(twin)
        rooms.write_cell("ann", 0, 0, 1)
        rooms.write_cell("bob", 0, 0, 2)
        rooms.replaced("ann", filled(4))
        self.assertEqual(everything(twin), after)

    def test_a_word_written_where_it_lies_is_not_the_twins(self):
        rooms = with_guests(2, ("ann", filled(1)))
        rooms.read_cell("ann", 0, 0)
        rooms.read_cell("ann", 1, 0)
        twin = rooms.twin()
        rooms.write_cell("ann", 0, 0, 1)
        twin.write_cell("ann", 1, 0, 2)
        self.assertEqual((rooms.words("ann", 0), rooms.words("ann", 1)), ([1] + [9] * 7, [10] * 8))
        self.assertEqual((twin.words("ann", 0), twin.words("ann", 1)), ([9] * 8, [2] + [10] * 7))

    def test_a_twin_gives_and_takes_back_likewise(self):
        rooms = with_guests(3, ("ann", filled(1)))
        for room in (4, 2, 6):
            rooms.read_cell("ann", room, 0)
        rooms.take_back("ann", 4)
        rooms.read_cell("ann", 0, 0)
        twin = rooms.twin()
        for room in (1, 3, 5, 7):
            for one in (rooms, twin):
                one.read_cell("ann", room, 0)
            self.assertEqual(everything(rooms), everything(twin))
