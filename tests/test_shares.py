"""Points 71 to 74: turns dealt by promises and ceilings."""

import random

from guestsalone.errors import Doubled, Full, NoGuest, NoName, NoNumber, TooMuch
from guestsalone.shares import Shares
from tests.helpers import GREATEST, Case, beyond
from tests.test_rooms import NO_NAMES, SIX

NO_LISTS = [None, True, 0, GREATEST, "", "ann", {}, {"ann": 1}]


def shares_of(length, *guests):
    shares = Shares(length)
    for name, promise, ceiling in guests:
        shares.come(name, promise, ceiling)
    return shares


def everything(shares):
    """All that Shares tell."""
    return (shares.length(), shares.names(), shares.passed(), shares.promised(), shares.dealt(),
            [(name, shares.promise(name), shares.ceiling(name), shares.counting(name), shares.used(name))
             for name in shares.names()])


def dealt(shares, ready, many):
    return [shares.deal(ready) for _ in range(many)]


class MadeTest(Case):
    def test_4_and_60_turns(self):
        for length in (4, 12, 60):
            shares = Shares(length)
            self.assertEqual(everything(shares), (length, [], 0, 0, [], []))
        self.assertEqual(Shares(length=5).length(), 5)

    def test_no_number(self):
        for thing in beyond(4, 60):
            self.refused_found(NoNumber, thing, Shares, thing)


class ComeTest(Case):
    def test_told_as_they_came(self):
        shares = Shares(12)
        self.assertIsNone(shares.come("zoe", 0, 1))
        shares.come(name="ann", promise=5, ceiling=12)
        self.assertEqual(everything(shares), (12, ["zoe", "ann"], 0, 5, [], [("zoe", 0, 1, (0, 1), 0),
                                                                            ("ann", 5, 12, (5, 12), 0)]))

    def test_promises_of_the_whole_length_and_one_more(self):
        shares = shares_of(8, ("ann", 8, 8))
        self.refused(TooMuch, {"many": 9}, shares.come, "bob", 1, 8)
        shares.come("bob", 0, 8)
        shares = shares_of(8, ("ann", 3, 4), ("bob", 5, 5))
        before = everything(shares)
        self.refused(TooMuch, {"many": 16}, shares.come, "cid", 8, 8)
        self.assertEqual((everything(shares), shares.promised()), (before, 8))

    def test_six_guests_and_a_seventh(self):
        shares = shares_of(8, *[(name, 1, 8) for name in SIX])
        before = everything(shares)
        self.refused(Full, {"many": 6}, shares.come, "gil", 8, 8)
        self.refused(Full, {"many": 6}, shares.come, "gil", 0, 8)
        self.refused_found(Doubled, "fay", shares.come, "fay", 8, 8)
        self.assertEqual(everything(shares), before)
        shares.go("ann")
        shares.come("gil", 3, 8)
        self.assertEqual(shares.names(), SIX[1:] + ["gil"])

    def test_refusals(self):
        shares = shares_of(10, ("ann", 4, 6))
        shares.deal(["ann"])
        before = everything(shares)
        for thing in NO_NAMES:
            self.refused_found(NoName, thing, shares.come, thing, [], [])
        for thing in beyond(0, 10):
            self.refused_found(NoNumber, thing, shares.come, "bob", thing, [])
            self.refused_found(NoNumber, thing, shares.come, "ann", thing, 10)
        for thing in beyond(1, 10):
            self.refused_found(NoNumber, thing, shares.come, "bob", 0, thing)
            self.refused_found(NoNumber, thing, shares.come, "ann", 10, thing)
        for thing in beyond(3, 10):
            self.refused_found(NoNumber, thing, shares.come, "bob", 3, thing)
        self.refused_found(Doubled, "ann", shares.come, "ann", 10, 10)
        self.assertEqual(everything(shares), before)

    def test_the_least_ceilings(self):
        shares = shares_of(10, ("ann", 0, 1), ("bob", 1, 1), ("cid", 2, 2))
        self.assertEqual([shares.counting(name) for name in shares.names()], [(0, 1), (1, 1), (2, 2)])


class GoTest(Case):
    def test_gone_and_come_again(self):
        shares = shares_of(6, ("ann", 2, 6), ("bob", 2, 6))
        dealt(shares, ["ann", "bob"], 4)
        self.assertIsNone(shares.go("ann"))
        self.assertEqual((shares.names(), shares.promised(), shares.passed()), (["bob"], 2, 4))
        shares.come("ann", 4, 5)
        self.assertEqual((shares.names(), shares.used("ann"), shares.counting("ann")), (["bob", "ann"], 0, (0, 5)))
        self.assertEqual(dealt(shares, ["ann", "bob"], 2), ["ann", "ann"])
        self.assertEqual((shares.passed(), shares.counting("ann"), shares.promise("ann")), (0, (4, 5), 4))

    def test_nobody(self):
        shares = shares_of(6, ("ann", 2, 6))
        before = everything(shares)
        for thing in NO_NAMES + ["bob"]:
            for call in (shares.go, shares.promise, shares.ceiling, shares.counting, shares.used):
                self.refused_found(NoGuest, thing, call, thing)
            self.refused_found(NoGuest, thing, shares.change, thing, [], [])
        shares.go(name="ann")
        self.refused_found(NoGuest, "ann", shares.go, "ann")
        self.assertNotEqual(everything(shares), before)


class ChangeTest(Case):
    def test_while_a_stretch_is_just_beginning(self):
        shares = shares_of(6, ("ann", 2, 6), ("bob", 0, 6))
        self.assertIsNone(shares.change("ann", 0, 1))
        self.assertEqual((shares.counting("ann"), shares.promise("ann"), shares.ceiling("ann")), ((0, 1), 0, 1))
        dealt(shares, ["ann", "bob"], 6)
        shares.change(name="bob", promise=4, ceiling=5)
        self.assertEqual((shares.counting("bob"), shares.promised()), ((4, 5), 4))

    def test_within_a_stretch_it_counts_from_the_next_one_on(self):
        shares = shares_of(4, ("ann", 2, 4), ("bob", 2, 2))
        self.assertEqual(dealt(shares, ["ann", "bob"], 2), ["ann", "bob"])
        shares.change("ann", 0, 1)
        shares.change("bob", 4, 4)
        self.assertEqual((shares.counting("ann"), shares.counting("bob")), ((2, 4), (2, 2)))
        self.assertEqual((shares.promise("ann"), shares.ceiling("ann"), shares.promised()), (0, 1, 4))
        self.assertEqual((shares.used("ann"), shares.used("bob"), shares.names()), (1, 1, ["ann", "bob"]))
        self.assertEqual(dealt(shares, ["ann", "bob"], 2), ["ann", "bob"])
        self.assertEqual((shares.counting("ann"), shares.counting("bob")), ((0, 1), (4, 4)))
        self.assertEqual(dealt(shares, ["ann", "bob"], 4), ["bob"] * 4)

    def test_what_is_told_last_counts(self):
        shares = shares_of(4, ("ann", 2, 4))
        shares.deal([])
        shares.change("ann", 3, 3)
        shares.change("ann", 1, 2)
        self.assertEqual(shares.counting("ann"), (2, 4))
        dealt(shares, [], 3)
        self.assertEqual(shares.counting("ann"), (1, 2))

    def test_who_came_within_and_is_changed_within(self):
        shares = shares_of(4, ("ann", 0, 4))
        shares.deal(["ann"])
        shares.come("bob", 3, 3)
        shares.change("bob", 1, 1)
        self.assertEqual((shares.counting("bob"), shares.promised()), ((0, 3), 1))
        dealt(shares, ["ann"], 3)
        self.assertEqual(shares.counting("bob"), (1, 1))

    def test_refusals(self):
        shares = shares_of(10, ("ann", 4, 6), ("bob", 5, 10))
        dealt(shares, ["ann"], 3)
        before = everything(shares)
        for thing in NO_NAMES + ["cid"]:
            self.refused_found(NoGuest, thing, shares.change, thing, [], [])
        for thing in beyond(0, 10):
            self.refused_found(NoNumber, thing, shares.change, "ann", thing, [])
        for thing in beyond(5, 10):
            self.refused_found(NoNumber, thing, shares.change, "ann", 5, thing)
        for thing in beyond(1, 10):
            self.refused_found(NoNumber, thing, shares.change, "ann", 0, thing)
        self.refused(TooMuch, {"many": 11}, shares.change, "ann", 6, 6)
        self.refused(TooMuch, {"many": 14}, shares.change, "bob", 10, 10)
        self.assertEqual(everything(shares), before)
        shares.change("ann", 5, 5)
        self.assertEqual(shares.promised(), 10)

    def test_six_may_be_changed(self):
        shares = shares_of(10, *[(name, 1, 10) for name in SIX])
        shares.change("fay", 5, 10)
        self.assertEqual(shares.promised(), 10)


class StretchTest(Case):
    def test_who_comes_within_has_no_promise_up_to_its_end_and_its_ceiling_at_once(self):
        shares = shares_of(6, ("ann", 2, 6))
        shares.deal(["ann"])
        shares.come("bob", 4, 4)
        self.assertEqual((shares.counting("bob"), shares.promise("bob")), ((0, 4), 4))
        self.assertEqual(dealt(shares, ["ann", "bob"], 5), ["ann", "bob", "bob", "ann", "bob"])
        self.assertEqual(shares.counting("bob"), (4, 4))

    def test_who_comes_while_it_is_just_beginning_has_its_promise(self):
        shares = shares_of(4, ("ann", 2, 4))
        dealt(shares, ["ann"], 4)
        shares.come("bob", 2, 2)
        self.assertEqual((shares.counting("bob"), shares.passed()), ((2, 2), 0))

    def test_a_turn_that_nobody_got_has_passed(self):
        shares = shares_of(4, ("ann", 1, 1))
        self.assertEqual(dealt(shares, [], 3), [None] * 3)
        self.assertEqual((shares.passed(), shares.dealt()), (3, [None] * 3))
        self.assertEqual(dealt(shares, ["ann"], 3), ["ann", "ann", None])
        self.assertEqual((shares.passed(), shares.used("ann")), (2, 1))
        shares.deal([])
        shares.deal([])
        self.assertEqual((shares.passed(), shares.used("ann")), (0, 0))

    def test_without_guests(self):
        shares = Shares(4)
        self.assertEqual(dealt(shares, [], 5), [None] * 5)
        self.assertEqual((shares.passed(), shares.dealt()), (1, [None] * 5))

    def test_stretches_of_4_and_of_60(self):
        for length in (4, 60):
            shares = shares_of(length, ("ann", 1, 2), ("bob", 1, length))
            self.assertEqual(dealt(shares, ["ann", "bob"], length),
                             ["ann", "bob"] * 2 + ["bob"] * (length - 4))
            self.assertEqual((shares.passed(), shares.used("ann"), shares.used("bob")), (0, 0, 0))


class DealTest(Case):
    def test_the_least_part_of_the_promise(self):
        shares = shares_of(12, ("ann", 2, 12), ("bob", 6, 12), ("cid", 3, 12))
        self.assertEqual(dealt(shares, ["ann", "bob", "cid"], 11),
                         ["ann", "bob", "cid", "bob", "bob", "cid", "ann", "bob", "bob", "cid", "bob"])

    def test_equal_parts_go_to_the_first_that_came(self):
        shares = shares_of(12, ("bob", 2, 12), ("ann", 4, 12))
        self.assertEqual(dealt(shares, ["ann", "bob"], 6), ["bob", "ann", "ann", "bob", "ann", "ann"])
        shares = shares_of(12, ("ann", 4, 12), ("bob", 2, 12))
        self.assertEqual(dealt(shares, ["bob", "ann"], 6), ["ann", "bob", "ann", "ann", "bob", "ann"])

    def test_behind_the_promises_who_used_fewest(self):
        shares = shares_of(12, ("ann", 3, 12), ("bob", 1, 12), ("cid", 0, 2))
        self.assertEqual(dealt(shares, ["ann", "bob", "cid"], 12),
                         ["ann", "bob", "ann", "ann", "cid", "bob", "cid", "bob", "ann", "bob", "ann", "bob"])

    def test_a_promise_of_nought_waits_for_the_others(self):
        shares = shares_of(4, ("ann", 0, 4), ("bob", 4, 4))
        self.assertEqual(dealt(shares, ["ann", "bob"], 4), ["bob"] * 4)
        self.assertEqual(dealt(shares, ["ann"], 2) + dealt(shares, ["ann", "bob"], 2), ["ann", "ann", "bob", "bob"])

    def test_the_ready_alone_have_turns(self):
        shares = shares_of(6, ("ann", 3, 6), ("bob", 3, 6))
        self.assertEqual(dealt(shares, ["bob"], 4), ["bob"] * 4)
        self.assertEqual(dealt(shares, ("ann", "bob"), 2), ["ann", "ann"])

    def test_a_ceiling_of_1(self):
        shares = shares_of(5, ("ann", 0, 1), ("bob", 1, 1))
        self.assertEqual(dealt(shares, ["ann", "bob"], 10), ["bob", "ann", None, None, None] * 2)

    def test_a_name_told_twice(self):
        shares = shares_of(5, ("ann", 1, 2))
        self.assertEqual(dealt(shares, ["ann", "ann"], 3), ["ann", "ann", None])

    def test_refusals(self):
        shares = shares_of(5, ("ann", 1, 2), ("bob", 1, 2))
        before = everything(shares)
        for thing in NO_LISTS:
            self.refused_found(NoGuest, thing, shares.deal, thing)
        for thing in NO_NAMES + ["cid"]:
            self.refused_found(NoGuest, thing, shares.deal, ["ann", thing, ["zoe"]])
            self.refused_found(NoGuest, thing, shares.deal, (thing, "ann"))
        self.assertEqual(everything(shares), before)

    def test_the_list_that_is_handed_in_stays(self):
        shares, ready = shares_of(5, ("ann", 1, 2)), ["ann"]
        shares.deal(ready=ready)
        self.assertEqual(ready, ["ann"])


class ToldTest(Case):
    def test_new_each_time(self):
        shares = shares_of(5, ("ann", 1, 2), ("bob", 1, 2))
        dealt(shares, ["ann"], 2)
        before = everything(shares)
        shares.names().clear()
        shares.dealt().append("bob")
        self.assertEqual(everything(shares), before)

    def test_all_that_were_dealt_over_several_stretches(self):
        shares = shares_of(4, ("ann", 1, 2))
        told = dealt(shares, ["ann"], 4) + dealt(shares, [], 1)
        shares.go("ann")
        self.assertEqual(shares.dealt(), told)
        self.assertEqual(told, ["ann", "ann", None, None, None])

    def test_twins(self):
        shares = shares_of(6, ("ann", 1, 2), ("bob", 1, 6))
        dealt(shares, ["ann", "bob"], 3)
        twin, before = shares.twin(), everything(shares)
        self.assertEqual(everything(twin), before)
        twin.deal(["ann", "bob"])
        twin.change("ann", 3, 3)
        twin.come("cid", 0, 1)
        twin.go("bob")
        self.assertEqual(everything(shares), before)
        twin = shares.twin()
        shares.change("bob", 0, 1)
        dealt(shares, ["bob"], 4)
        shares.go("ann")
        self.assertEqual(everything(twin), before)


class Model:
    """Each guest is a dict; parts are held against each other as the document tells."""

    def __init__(self, length):
        self.length, self.guests, self.passed, self.dealt = length, [], 0, []

    def at(self, name):
        return [guest for guest in self.guests if guest["name"] == name][0]

    def come(self, name, promise, ceiling):
        counts = (0 if self.passed else promise, ceiling)
        self.guests.append({"name": name, "told": (promise, ceiling), "counts": counts, "used": 0})

    def change(self, name, promise, ceiling):
        self.at(name)["told"] = (promise, ceiling)
        if not self.passed:
            self.at(name)["counts"] = (promise, ceiling)

    def deal(self, ready):
        there = [guest for guest in self.guests if guest["name"] in ready]
        first = [guest for guest in there if guest["used"] < guest["counts"][0]]
        then = [guest for guest in there if guest["used"] < guest["counts"][1]]
        got = None
        for guest in first:
            if all(guest["used"] * other["counts"][0] <= other["used"] * guest["counts"][0] for other in first):
                got = guest
                break
        if got is None and then:
            got = min(then, key=lambda guest: guest["used"])
        if got is not None:
            got["used"] += 1
        self.passed = (self.passed + 1) % self.length
        if self.passed == 0:
            for guest in self.guests:
                guest["used"], guest["counts"] = 0, guest["told"]
        self.dealt.append(got and got["name"])
        return self.dealt[-1]

    def everything(self):
        return (self.length, [guest["name"] for guest in self.guests], self.passed,
                sum(guest["told"][0] for guest in self.guests), self.dealt,
                [(guest["name"], *guest["told"], guest["counts"], guest["used"]) for guest in self.guests])


class ChanceTest(Case):
    def share(self, chance, model, name):
        """A promise and a ceiling that this guest may have."""
        others = sum(guest["told"][0] for guest in model.guests if guest["name"] != name)
        promise = chance.randrange(min(model.length - others, chance.choice([1, 3, 60])) + 1)
        return promise, chance.randrange(max(1, promise), model.length + 1)

    def test_against_the_model(self):
        for seed in range(80):
            chance = random.Random(seed)
            length = chance.choice([4, 5, 7, 12, 60])
            shares, model = Shares(length), Model(length)
            for _ in range(150):
                name, there = chance.choice(SIX), shares.names()
                kind = chance.choice(["come", "go", "change", "change"] + ["deal"] * 12)
                if kind == "come" and name not in there:
                    share = self.share(chance, model, name)
                    shares.come(name, *share)
                    model.come(name, *share)
                elif kind == "go" and name in there and chance.random() < 0.5:
                    shares.go(name)
                    model.guests.remove(model.at(name))
                elif kind == "change" and name in there:
                    share = self.share(chance, model, name)
                    shares.change(name, *share)
                    model.change(name, *share)
                else:
                    ready = [other for other in there if chance.random() < 0.7]
                    chance.shuffle(ready)
                    self.assertEqual(shares.deal(ready), model.deal(ready))
                self.assertEqual(everything(shares), model.everything())
                if chance.random() < 0.05:
                    shares = shares.twin()

    def test_who_is_ready_all_along_has_its_promise_and_none_more_than_its_ceiling(self):
        for seed in range(80):
            chance = random.Random(seed)
            model = Model(chance.choice([4, 9, 20, 60]))
            shares = Shares(model.length)
            for name in SIX:
                share = self.share(chance, model, name)
                shares.come(name, *share)
                model.come(name, *share)
            always = chance.choice(SIX)
            for _ in range(3):
                used = {name: 0 for name in SIX}
                for _ in range(model.length):
                    ready = [name for name in SIX if name == always or chance.random() < 0.6]
                    got = shares.deal(ready)
                    if got is None:
                        self.assertTrue(all(used[name] == shares.ceiling(name) for name in ready))
                    else:
                        used[got] += 1
                self.assertGreaterEqual(used[always], shares.promise(always))
                self.assertTrue(all(used[name] <= shares.ceiling(name) for name in SIX))
