"""Point 75: the first stretch and guest whose shares a told run does not keep."""

import random

from guestsalone.errors import NoLog, NoNumber, NoShare
from guestsalone.shares import Shares, first_broken
from tests.helpers import GREATEST, Case, beyond
from tests.test_rooms import NO_NAMES, SIX

TWO = {"ann": (2, 3), "bob": (1, 4)}
BOTH = ["ann", "bob"]
KEPT = ["ann", "ann", "bob", "ann"]

NO_SHARES = [
    None, True, 0, GREATEST, "", "ann", [], (), [("ann", (1, 2))], {"ann": None}, {"ann": [1, 2]}, {"ann": (1,)},
    {"ann": (1, 2, 3)}, {"ann": 1}, {"ann": "12"}, {"ann": {1: 2}}, {"ann": (-1, 2)}, {"ann": (5, 5)}, {"ann": (0, 0)},
    {"ann": (2, 1)}, {"ann": (1, 5)}, {"ann": (True, 2)}, {"ann": (0, True)}, {"ann": (None, 2)}, {"ann": ("1", 2)},
    {"ann": (1, None)}, {"Ann": (1, 2)}, {"": (1, 2)}, {1: (1, 2)}, {None: (1, 2)}, {("ann",): (1, 2)},
    {"ann": (2, 2), "bob": (3, 3)}, {"ann": (1, 2), "bob": [1, 2]}, {name: (0, 1) for name in SIX + ["gil"]},
]


class KeptTest(Case):
    def test_none(self):
        self.assertIsNone(first_broken(4, TWO, [BOTH] * 4, KEPT))
        self.assertIsNone(first_broken(4, TWO, [BOTH] * 8, KEPT * 2))
        self.assertIsNone(first_broken(4, {}, [], []))
        self.assertIsNone(first_broken(4, TWO, [], []))
        self.assertIsNone(first_broken(60, {"ann": (60, 60)}, [["ann"]] * 400, ["ann"] * 400))
        self.assertIsNone(first_broken(length=4, guests=TWO, ready=((), ["ann"]), dealt=(None, "ann")))

    def test_without_guests(self):
        self.assertIsNone(first_broken(4, {}, [[], ()], [None, None]))

    def test_a_turn_may_be_left(self):
        self.assertIsNone(first_broken(4, TWO, [BOTH] * 4, ["ann", None, "bob", "ann"]))

    def test_what_it_is_told_stays(self):
        guests, ready, dealt = dict(TWO), [list(BOTH) for _ in range(5)], KEPT + ["ann"]
        first_broken(4, guests, ready, dealt)
        self.assertEqual((guests, ready, dealt), (TWO, [BOTH] * 5, KEPT + ["ann"]))


class BrokenTest(Case):
    def test_a_turn_at_which_it_was_not_ready(self):
        self.assertEqual(first_broken(4, TWO, [BOTH, ["bob"], BOTH, BOTH], KEPT), (0, "ann"))
        self.assertEqual(first_broken(4, TWO, [BOTH] * 4 + [["ann"]], KEPT + ["bob"]), (1, "bob"))
        self.assertEqual(first_broken(4, TWO, [[]], ["ann"]), (0, "ann"))

    def test_more_than_its_ceiling(self):
        self.assertIsNone(first_broken(8, {"ann": (0, 1)}, [["ann"]] * 9, [None] * 7 + ["ann", "ann"]))
        self.assertEqual(first_broken(8, {"ann": (0, 1)}, [["ann"]] * 8, [None] * 6 + ["ann", "ann"]), (0, "ann"))
        self.assertEqual(first_broken(8, {"ann": (0, 1)}, [["ann"]] * 10, [None] * 8 + ["ann", "ann"]), (1, "ann"))
        self.assertEqual(first_broken(4, {"ann": (2, 3)}, [["ann"]] * 4, ["ann"] * 4), (0, "ann"))

    def test_fewer_than_its_promise(self):
        self.assertEqual(first_broken(4, TWO, [BOTH] * 4, ["ann", "bob", None, None]), (0, "ann"))
        self.assertEqual(first_broken(4, TWO, [BOTH] * 8, KEPT + ["ann", "ann", None, "ann"]), (1, "bob"))
        self.assertIsNone(first_broken(4, TWO, [BOTH] * 3 + [["bob"]], ["ann", "bob", None, None]))

    def test_a_promise_holds_for_whole_stretches_alone(self):
        self.assertIsNone(first_broken(4, TWO, [BOTH] * 7, KEPT + [None] * 3))
        self.assertEqual(first_broken(4, TWO, [BOTH] * 8, KEPT + [None] * 4), (1, "ann"))
        self.assertIsNone(first_broken(4, TWO, [BOTH] * 3, [None] * 3))

    def test_a_promise_of_the_whole_length_and_of_nought(self):
        guests = {"ann": (4, 4), "bob": (0, 4)}
        self.assertIsNone(first_broken(4, guests, [BOTH] * 4, ["ann"] * 4))
        self.assertEqual(first_broken(4, guests, [BOTH] * 4, ["ann"] * 3 + ["bob"]), (0, "ann"))
        self.assertEqual(first_broken(4, guests, [BOTH] * 4, ["ann"] * 3 + [None]), (0, "ann"))

    def test_by_stretches_and_then_in_the_order_of_the_dict(self):
        ready, dealt = [BOTH] * 8, ["ann", "ann", None, None] + [None] * 4
        self.assertEqual(first_broken(4, TWO, ready, dealt), (0, "bob"))
        self.assertEqual(first_broken(4, TWO, ready, [None] * 8), (0, "ann"))
        self.assertEqual(first_broken(4, {"bob": (1, 4), "ann": (2, 3)}, ready, [None] * 8), (0, "bob"))

    def test_what_shares_deal_is_kept(self):
        for seed in range(60):
            chance = random.Random(seed)
            length = chance.choice([4, 7, 12])
            shares, guests, ready, dealt = Shares(length), {}, [], []
            for name in SIX[:chance.randrange(1, 7)]:
                promise = chance.randrange(length - shares.promised() + 1)
                guests[name] = (promise, chance.randrange(max(1, promise), length + 1))
                shares.come(name, *guests[name])
            for _ in range(chance.randrange(40)):
                ready.append([name for name in guests if chance.random() < 0.9])
                dealt.append(shares.deal(ready[-1]))
            self.assertIsNone(first_broken(length, guests, ready, dealt))


class RefusedTest(Case):
    def test_the_length(self):
        for thing in beyond(4, 60):
            self.refused_found(NoNumber, thing, first_broken, thing, None, None, None)

    def test_the_guests(self):
        for thing in NO_SHARES:
            self.refused_found(NoShare, thing, first_broken, 4, thing, None, None)
        self.assertIsNone(first_broken(4, {name: (0, 1) for name in SIX}, [], []))
        self.assertIsNone(first_broken(4, {"ann": (2, 2), "bob": (2, 4)}, [], []))

    def test_the_lists(self):
        for thing in [None, True, 0, "", "ann", {}, {0: []}, ["ann"], [None], [0], [["ann"], "bob"], [{"ann": 1}],
                      [["cid"]], [["ann", "cid"]], [[["ann"]]], [[None]], [[True]]] + [[[name]] for name in NO_NAMES]:
            self.refused_found(NoLog, thing, first_broken, 4, TWO, thing, None)
        for thing in [None, True, 0, "", "ann", {}, {0: "ann"}, [], ["ann"], ["ann"] * 3, [True, None], [0, None],
                      ["cid", "ann"], [None, "cid"], [["ann"], None], [None, ("ann",)], [{}, None]]:
            self.refused_found(NoLog, thing, first_broken, 4, TWO, [BOTH] * 2, thing)

    def test_four_hundred_turns_and_one_more(self):
        self.assertIsNone(first_broken(4, {"ann": (0, 4)}, [["ann"]] * 400, [None] * 400))
        ready, dealt = [["ann"]] * 401, [None] * 401
        self.refused_found(NoLog, ready, first_broken, 4, TWO, ready, dealt)
        self.refused_found(NoLog, dealt, first_broken, 4, TWO, ready[:400], dealt)
