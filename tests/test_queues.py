"""Points 61 to 63: the queue of asks, and the switch."""

import random

from guestsalone.errors import Doubled, Full, NoAsk, NoName, NoNumber, NoWord
from guestsalone.queues import Queue, Switch
from tests.helpers import GREATEST, NOT_NUMBERS, Case, beyond
from tests.test_rooms import NO_NAMES, SIX

NO_COUNTS = NOT_NUMBERS + [-1, -GREATEST]


def queue_of(*asks):
    queue = Queue()
    for name, number in asks:
        queue.put(name, number)
    return queue


def everything(queue):
    """All that a Queue tells."""
    waiting = queue.waiting()
    return (waiting, len(queue), [queue.comes_at(name, number) for name, number in waiting],
            [(name, queue.of(name)) for name in SIX], queue.twin().waiting())


def served(queue):
    """All servings until nothing waits."""
    told = []
    while len(queue) > 0:
        told.append(queue.serve())
    return told


class ServeTest(Case):
    def test_empty(self):
        queue = Queue()
        self.assertEqual((queue.serve(), queue.waiting(), len(queue), queue.of("ann"), queue.leave("ann")),
                         (None, [], 0, [], []))
        self.assertIsNone(queue.serve())

    def test_one_guest_in_order(self):
        queue = queue_of(("ann", 5), ("ann", 0), ("ann", GREATEST))
        self.assertEqual(served(queue), [("ann", 5), ("ann", 0), ("ann", GREATEST)])
        self.assertIsNone(queue.serve())

    def test_guests_in_turn(self):
        queue = queue_of(("ann", 0), ("ann", 1), ("ann", 2), ("bob", 0), ("cid", 7), ("bob", 1))
        self.assertEqual(served(queue), [("ann", 0), ("bob", 0), ("cid", 7), ("ann", 1), ("bob", 1), ("ann", 2)])

    def test_who_comes_while_others_wait_goes_to_the_end_of_the_row(self):
        queue = queue_of(("ann", 0), ("ann", 1), ("bob", 0), ("bob", 1))
        self.assertEqual(queue.serve(), ("ann", 0))
        queue.put("cid", 0)
        self.assertEqual(served(queue), [("bob", 0), ("ann", 1), ("cid", 0), ("bob", 1)])

    def test_who_has_no_more_leaves_the_row(self):
        queue = queue_of(("ann", 0), ("bob", 0), ("cid", 0))
        queue.serve()
        queue.put("ann", 1)
        self.assertEqual(served(queue), [("bob", 0), ("cid", 0), ("ann", 1)])

    def test_put_tells_none_and_what_was_served_may_be_put_again(self):
        queue = Queue()
        self.assertIsNone(queue.put("ann", 3))
        queue.serve()
        self.assertIsNone(queue.put(name="ann", number=3))
        self.assertEqual(queue.waiting(), [("ann", 3)])


class LeaveTest(Case):
    def test_with_all_its_asks(self):
        queue = queue_of(("ann", 4), ("bob", 1), ("ann", 2), ("cid", 1), ("ann", 3))
        self.assertEqual(queue.leave("ann"), [4, 2, 3])
        self.assertEqual((queue.waiting(), queue.of("ann"), len(queue)), ([("bob", 1), ("cid", 1)], [], 2))
        self.assertEqual(queue.leave("ann"), [])
        self.assertEqual(served(queue), [("bob", 1), ("cid", 1)])

    def test_amid_the_row_and_comes_again(self):
        queue = queue_of(("ann", 0), ("bob", 0), ("cid", 0), ("ann", 1), ("bob", 1), ("cid", 1))
        queue.serve()
        queue.leave(name="bob")
        queue.put("bob", 0)
        self.assertEqual(served(queue), [("cid", 0), ("ann", 1), ("bob", 0), ("cid", 1)])

    def test_the_first_of_the_row(self):
        queue = queue_of(("ann", 0), ("bob", 0))
        queue.leave("ann")
        queue.put("ann", 0)
        self.assertEqual(served(queue), [("bob", 0), ("ann", 0)])


class ToldTest(Case):
    def test_as_they_were_put(self):
        queue = queue_of(("bob", 9), ("ann", 5), ("bob", 2), ("ann", 0))
        self.assertEqual(queue.waiting(), [("bob", 9), ("ann", 5), ("bob", 2), ("ann", 0)])
        self.assertEqual((queue.of("bob"), queue.of(name="ann"), queue.of("zoe")), ([9, 2], [5, 0], []))
        queue.serve()
        self.assertEqual(queue.waiting(), [("ann", 5), ("bob", 2), ("ann", 0)])

    def test_how_many_servings(self):
        asks = [("ann", 0), ("ann", 1), ("ann", 2), ("bob", 0), ("cid", 0), ("bob", 1)]
        queue = queue_of(*asks)
        self.assertEqual([queue.comes_at(name, number) for name, number in asks], [1, 4, 6, 2, 3, 5])
        queue.serve()
        self.assertEqual([queue.comes_at(name=name, number=number) for name, number in asks[1:]], [3, 5, 1, 2, 4])

    def test_no_ask(self):
        queue = queue_of(("ann", 1), ("bob", 0))
        before = everything(queue)
        for name, number in [("ann", 0), ("ann", 2), ("bob", 1), ("cid", 1), ("ann", True), ("bob", False), ("ann", "1"),
                             ("ann", -1), (None, None), (["ann"], 1), ("ann", [1]), ({}, {}), (True, 1), ("", 0)]:
            with self.assertRaises(NoAsk) as caught:
                queue.comes_at(name, number)
            found = caught.exception.found
            self.assertEqual((type(found), len(found)), (tuple, 2))
            self.assertIs(found[0], name)
            self.assertIs(found[1], number)
        queue.serve()
        self.assertRaises(NoAsk, queue.comes_at, "ann", 1)
        self.assertEqual(before, everything(queue_of(("ann", 1), ("bob", 0))))

    def test_lists_are_new_each_time(self):
        queue = queue_of(("ann", 1), ("bob", 0), ("ann", 0))
        before = everything(queue)
        queue.waiting().clear()
        queue.of("ann").append(7)
        self.assertEqual(everything(queue), before)
        queue.leave("bob").append(8)
        self.assertEqual(queue.of("bob"), [])

    def test_twins(self):
        queue = queue_of(("ann", 1), ("bob", 0), ("ann", 0))
        twin, before = queue.twin(), everything(queue)
        self.assertEqual(everything(twin), before)
        twin.serve()
        twin.put("cid", 1)
        twin.leave("bob")
        self.assertEqual(everything(queue), before)
        twin, other = queue.twin(), queue.twin()
        queue.serve()
        queue.put("cid", 1)
        self.assertEqual(everything(twin), before)
        self.assertEqual(served(twin), served(other))


class RefusedTest(Case):
    def test_put(self):
        queue = queue_of(("ann", 1), ("bob", 0))
        before = everything(queue)
        for thing in NO_NAMES:
            self.refused_found(NoName, thing, queue.put, thing, [])
            self.refused_found(NoName, thing, queue.leave, thing)
            self.refused_found(NoName, thing, queue.of, thing)
        for thing in NO_COUNTS:
            self.refused_found(NoNumber, thing, queue.put, "ann", thing)
        with self.assertRaises(Doubled) as caught:
            queue.put("ann", 1)
        self.assertEqual(caught.exception.found, ("ann", 1))
        self.assertEqual(everything(queue), before)

    def test_sixty_and_one_more(self):
        queue = Queue()
        for number in range(60):
            queue.put(SIX[number % 6], number)
        before = everything(queue)
        self.assertEqual(len(queue), 60)
        self.refused(Full, {"many": 60}, queue.put, "ann", 60)
        self.refused(Full, {"many": 60}, queue.put, "zoe", 0)
        self.refused_found(NoName, "", queue.put, "", 1)
        self.refused_found(NoNumber, True, queue.put, "zoe", True)
        with self.assertRaises(Doubled) as caught:
            queue.put("bob", 1)
        self.assertEqual(caught.exception.found, ("bob", 1))
        self.assertEqual(everything(queue), before)
        self.assertEqual(queue.serve(), ("ann", 0))
        queue.put("zoe", 0)
        self.refused(Full, {"many": 60}, queue.put, "zoe", 1)


class Model:
    """Lists of asks by guests, a row, and a count of all that were put."""

    def __init__(self):
        self.row = []
        self.asks = {}
        self.puts = 0

    def put(self, name, number):
        self.puts += 1
        if name not in self.row:
            self.row = self.row + [name]
        self.asks.setdefault(name, []).append((self.puts, number))

    def serve(self):
        if not self.row:
            return None
        name, *self.row = self.row
        _, number = self.asks[name].pop(0)
        if self.asks[name]:
            self.row.append(name)
        return name, number

    def leave(self, name):
        self.row = [other for other in self.row if other != name]
        return [number for _, number in self.asks.pop(name, [])]

    def waiting(self):
        found = [(at, name, number) for name, asks in self.asks.items() for at, number in asks]
        return [(name, number) for _, name, number in sorted(found)]


class ChanceTest(Case):
    def test_against_the_model(self):
        for seed in range(60):
            chance = random.Random(seed)
            queue, model = Queue(), Model()
            for _ in range(120):
                name, number = chance.choice(SIX), chance.randrange(20)
                kind = chance.choice(["put"] * 6 + ["serve"] * 4 + ["leave"])
                if kind == "put" and (name, number) not in model.waiting() and len(model.waiting()) < 60:
                    queue.put(name, number)
                    model.put(name, number)
                elif kind == "leave" and chance.random() < 0.3:
                    self.assertEqual(queue.leave(name), model.leave(name))
                elif kind == "serve":
                    self.assertEqual(queue.serve(), model.serve())
                self.assertEqual((queue.waiting(), len(queue)), (model.waiting(), len(model.waiting())))
            for at, ask in enumerate(served(queue.twin())):
                self.assertEqual(queue.comes_at(*ask), at + 1)

    def test_none_is_served_twice_between_two_servings(self):
        for seed in range(60):
            chance = random.Random(seed)
            queue, since, most = Queue(), {}, 0
            due = {}
            for at in range(200):
                name = chance.choice(SIX)
                if len(queue) < 60 and chance.random() < 0.6:
                    if name not in since:
                        since[name] = []
                    queue.put(name, at)
                most = max(most, len([other for other in SIX if queue.of(other)]))
                for other in SIX:
                    for place, number in enumerate(queue.of(other)):
                        due.setdefault((other, number), (place + 1, []))
                told = queue.serve()
                if told is None:
                    continue
                place, row = due[told]
                self.assertLessEqual(len(row) + 1, place * most)
                for other, seen in since.items():
                    if queue.of(other) or other == told[0]:
                        self.assertNotIn(told[0], seen)
                    seen.append(told[0])
                since[told[0]] = []
                for other in SIX:
                    if not queue.of(other):
                        since.pop(other, None)
                for ask in queue.waiting():
                    due[ask][1].append(told)


class SwitchTest(Case):
    def test_words_for_ports(self):
        switch = Switch()
        for port, word in ((3, 5), (0, 4095), (3, 0), (7, 9), (3, 5)):
            self.assertIsNone(switch.post(port, word))
        self.assertEqual([switch.posted(port) for port in range(8)], [[4095], [], [], [5, 0, 5], [], [], [], [9]])
        self.assertEqual([switch.how_many(port) for port in range(8)], [1, 0, 0, 3, 0, 0, 0, 1])
        self.assertEqual([switch.letter(3, number) for number in (0, 1, 2, 3, 4, 200, GREATEST)],
                         [5, 0, 5, None, None, None, None])
        self.assertIsNone(switch.letter(1, 0))

    def test_by_names(self):
        switch = Switch()
        switch.post(port=2, word=7)
        self.assertEqual((switch.posted(port=2), switch.how_many(port=2), switch.letter(port=2, number=0)), ([7], 1, 7))

    def test_200_and_one_more(self):
        switch = Switch()
        for word in range(200):
            switch.post(5, word)
        self.refused(Full, {"many": 200}, switch.post, 5, 1)
        self.assertEqual((switch.how_many(5), switch.posted(5)), (200, list(range(200))))
        self.assertEqual((switch.letter(5, 199), switch.letter(5, 200)), (199, None))
        switch.post(4, 1)
        self.assertEqual(switch.posted(4), [1])
        self.refused_found(NoNumber, 8, switch.post, 8, 1)
        self.refused_found(NoWord, 4096, switch.post, 5, 4096)

    def test_refusals(self):
        switch = Switch()
        switch.post(1, 1)
        for thing in beyond(0, 7):
            self.refused_found(NoNumber, thing, switch.post, thing, [])
            self.refused_found(NoNumber, thing, switch.posted, thing)
            self.refused_found(NoNumber, thing, switch.how_many, thing)
            self.refused_found(NoNumber, thing, switch.letter, thing, -1)
        for thing in NO_COUNTS:
            self.refused_found(NoNumber, thing, switch.letter, 1, thing)
        for thing in beyond(0, 4095):
            self.refused_found(NoWord, thing, switch.post, 1, thing)
        self.assertEqual([switch.posted(port) for port in range(8)], [[], [1], [], [], [], [], [], []])

    def test_told_new_each_time_and_twins(self):
        switch = Switch()
        switch.post(1, 1)
        switch.posted(1).append(2)
        twin = switch.twin()
        twin.post(1, 3)
        switch.post(2, 4)
        self.assertEqual((switch.posted(1), switch.posted(2)), ([1], [4]))
        self.assertEqual((twin.posted(1), twin.posted(2)), ([1, 3], []))
