"""Point 101: roads."""

import random

from guestsalone.core import Core
from guestsalone.errors import NoNumber, NotOnRoad
from guestsalone.roads import Road
from tests.helpers import NO_ROOMS, NOT_NUMBERS, GREATEST, Case, beyond

LETTERS = [None, True, 0, -GREATEST, "", "letter", [], (), {}, [1, [2]], ({"a": [1]}, (2, [3])), {"a": {"b": (1, [])}},
           {("a", 1): [1]}, {1: None, None: 1}]


def road_of(*letters):
    """A road with letters, tuples of a side and a letter."""
    road = Road()
    for side, letter in letters:
        road.put(side, letter)
    return road


def everything(road):
    return road.under_way(), len(road)


class PutTest(Case):
    def test_numbers_rise_from_1_on(self):
        road = Road()
        self.assertEqual(everything(road), ([], 0))
        self.assertEqual([road.put(0, "a"), road.put(1, "b"), road.put(side=0, letter="c")], [1, 2, 3])
        self.assertEqual(everything(road), ([(1, 0, "a"), (2, 1, "b"), (3, 0, "c")], 3))

    def test_no_number_is_given_again(self):
        road = road_of((0, "a"), (1, "b"))
        road.come(2)
        road.lose(1)
        self.assertEqual((road.put(1, "c"), road.double(3), road.put(0, "d")), (3, 4, 5))
        self.assertEqual(everything(road), ([(3, 1, "c"), (4, 1, "c"), (5, 0, "d")], 3))

    def test_any_things(self):
        road = Road()
        for number, letter in enumerate(LETTERS):
            self.assertEqual(road.put(number % 2, letter), number + 1)
        self.assertEqual(road.under_way(), [(at + 1, at % 2, letter) for at, letter in enumerate(LETTERS)])
        for number, letter in enumerate(LETTERS):
            told = road.come(number + 1)
            self.assertEqual((told, type(told), type(told[1])), ((1 - number % 2, letter), tuple, type(letter)))

    def test_no_side(self):
        road = road_of((0, "a"))
        for thing in beyond(0, 1):
            if thing is not True and thing is not False:
                self.refused_found(NoNumber, thing, road.put, thing, "b")
        for thing in (True, False):
            self.refused_found(NoNumber, thing, road.put, thing, "b")
        self.assertEqual((everything(road), road.put(1, "b")), (([(1, 0, "a")], 1), 2))


class ComeTest(Case):
    def test_comes_to_the_other_side_in_any_order(self):
        road = road_of((0, "a"), (1, "b"), (0, "c"))
        self.assertEqual((road.come(3), road.come(1), road.come(number=2)), ((1, "c"), (1, "a"), (0, "b")))
        self.assertEqual(everything(road), ([], 0))

    def test_lost(self):
        road = road_of((0, "a"), (1, "b"))
        self.assertEqual((road.lose(2), road.lose(number=1)), ((0, "b"), (1, "a")))
        self.assertEqual(everything(road), ([], 0))

    def test_doubled_and_doubled_again(self):
        road = road_of((1, ["a"]), (0, "b"))
        self.assertEqual((road.double(1), road.double(number=1), road.double(3)), (3, 4, 5))
        self.assertEqual(road.under_way(), [(1, 1, ["a"]), (2, 0, "b"), (3, 1, ["a"]), (4, 1, ["a"]), (5, 1, ["a"])])
        self.assertEqual((road.come(1), road.come(4), road.lose(3), road.come(5)), ((0, ["a"]),) * 4)
        self.assertEqual(everything(road), ([(2, 0, "b")], 1))

    def test_not_on_the_road(self):
        road = road_of((0, "a"), (0, "b"), (1, "c"))
        road.come(2)
        before = everything(road)
        for call in (road.come, road.lose, road.double):
            for thing in NOT_NUMBERS + [0, 2, 4, -1, GREATEST, "a", (1,), {1: 1}]:
                self.refused_found(NotOnRoad, thing, call, thing)
        self.assertEqual((everything(road), road.put(0, "d")), (before, 4))

    def test_one_that_came_is_there_no_more(self):
        road = road_of((0, "a"))
        road.come(1)
        for call in (road.come, road.lose, road.double):
            self.refused_found(NotOnRoad, 1, call, 1)


class CopiesTest(Case):
    def letter(self):
        inner = [1]
        return inner, [inner, (inner, {"a": inner}), {"b": (inner,)}]

    def test_what_is_put_is_a_copy(self):
        inner, letter = self.letter()
        road, same = road_of((0, letter)), self.letter()[1]
        inner.append(2)
        letter.append(3)
        letter[2]["c"] = 4
        self.assertEqual(road.under_way(), [(1, 0, same)])
        self.assertEqual(road.come(1), (1, same))

    def test_what_is_told_is_a_copy(self):
        road, same = road_of((0, self.letter()[1])), self.letter()[1]
        told = road.under_way()
        told[0][2][1][0].append(2)
        told[0][2][1][1]["a"].append(2)
        told[0][2].clear()
        told.clear()
        self.assertEqual(road.under_way(), [(1, 0, same)])

    def test_doubled_ones_have_nothing_in_common(self):
        road, same = road_of((0, self.letter()[1])), self.letter()[1]
        road.double(1)
        twin = road.twin()
        _, letter = road.come(1)
        letter[0].append(2)
        letter[1][1].clear()
        self.assertEqual((road.under_way(), twin.under_way()), ([(2, 0, same)], [(1, 0, same), (2, 0, same)]))
        _, letter = twin.lose(2)
        letter[2].clear()
        self.assertEqual((road.come(2), twin.come(1)), ((1, same), (1, same)))

    def test_objects_are_borne_themselves(self):
        core = Core(NO_ROOMS)
        road = road_of((0, core), (1, [core, (core, {"a": core})]))
        twin = road.twin()
        core.arrive("line", 1)
        for one in (road, twin):
            self.assertIs(one.under_way()[0][2], core)
            one.double(2)
            self.assertIs(one.come(1)[1], core)
            for number in (2, 3):
                _, letter = one.come(number)
                self.assertTrue(letter[0] is core and letter[1][0] is core and letter[1][1]["a"] is core)

    def test_twins(self):
        road = road_of((0, ["a"]), (1, "b"))
        twin, before = road.twin(), everything(road)
        self.assertEqual((twin.double(1), twin.lose(2), twin.put(0, "c")), (3, (0, "b"), 4))
        self.assertEqual((everything(road), road.put(1, "d")), (before, 3))
        twin, before = road.twin(), everything(road)
        road.come(1)
        road.put(0, "e")
        self.assertEqual((everything(twin), twin.put(0, "f")), (before, 4))


class ChanceTest(Case):
    def test_against_a_list(self):
        for seed in range(60):
            chance = random.Random(seed)
            road, letters, given = Road(), [], 0
            for _ in range(80):
                kind = chance.choice(["put", "put", "double", "come", "lose"])
                if kind == "put":
                    given += 1
                    letters.append((given, chance.randrange(2), chance.choice(LETTERS)))
                    self.assertEqual(road.put(*letters[-1][1:]), given)
                elif letters:
                    at = chance.randrange(len(letters))
                    number, side, letter = letters[at]
                    if kind == "double":
                        given += 1
                        letters.append((given, side, letter))
                        self.assertEqual(road.double(number), given)
                    else:
                        del letters[at]
                        self.assertEqual(getattr(road, kind)(number), (1 - side, letter))
                self.assertEqual(everything(road), (letters, len(letters)))
                if chance.random() < 0.1:
                    road = road.twin()
