"""Points 8 and 104: moves whose letters come in order, in another order, late, lost, doubled."""

from guestsalone.errors import TooMuch
from guestsalone.house import House
from guestsalone.moves import Move
from tests.chance import chance_of, some_image
from tests.helpers import Case
from tests.test_house import everything
from tests.test_house_runs import alone
from tests.test_rooms import SIX


class MoveRunTest(Case):
    def houses(self, chance, image):
        """A source with ann and some others, and a goal with none or some."""
        source, goal = House(chance.choice([1, 4, 20])), House(chance.choice([1, 4, 20]), length=chance.choice([4, 12]))
        source.come("ann", image)
        for name in SIX[1:chance.randrange(1, 4)]:
            source.come(name, some_image(chance))
        for name in SIX[4:chance.randrange(4, 7)]:
            goal.come(name, some_image(chance))
        return source, goal

    def where(self, source, goal):
        return [house for house in (source, goal) if "ann" in house.names()]

    def look(self, image, move, source, goal):
        """What holds at each moment."""
        there = self.where(source, goal)
        phase, runs_at = move.phase(), move.runs_at()
        if phase in ("rounds", "off"):
            self.assertEqual((there, runs_at), ([source], 0))
        elif phase == "stopped":
            self.assertEqual((there, runs_at, source.is_stopped("ann")), ([source], None, True))
        elif phase == "given":
            self.assertEqual((there, runs_at), ([goal], 1) if "ann" in goal.names() else ([], None))
        else:
            self.assertEqual((there, runs_at, phase), ([goal], 1, "done"))
        for house in there:
            machine = alone(image, house.log("ann"), house.core("ann"))
            self.assertEqual((house.trail("ann"), house.core("ann"), house.rooms_of("ann")),
                             (machine.trail(), machine.core(), machine.store().rooms()))

    def arrive(self, chance, source, goal):
        for house in self.where(source, goal):
            if house.core("ann").state() in ("runs", "idle"):
                house.arrive("ann", "net", chance.randrange(4096))

    def letter(self, chance, move):
        """Something becomes of one of the letters."""
        numbers = [number for number, _, _ in move.letters()]
        if numbers:
            number = chance.choice(numbers)
            chance.choice([move.come] * 7 + [move.lose, move.double])(number)

    def control(self, chance, move):
        """A deed of the phase in which the move is."""
        if move.phase() in ("rounds", "stopped") and len(move.letters()) < 12:
            move.one_round()
        if move.phase() == "rounds" and chance.random() < 0.6:
            try:
                move.stop()
            except TooMuch as refusal:
                self.assertEqual(refusal.many, len(move.unsure()))
        if move.phase() == "given":
            move.again()
        if move.phase() in ("rounds", "stopped") and chance.random() < 0.01:
            move.call_off()

    def test_by_chance(self):
        ends = {}
        for seed in range(120):
            chance = chance_of(seed)
            image = some_image(chance)
            source, goal = self.houses(chance, image)
            source.turns(chance.randrange(1, 30))
            move = Move(source, goal, "ann", most=chance.randrange(3, 9), patience=chance.randrange(5, 61))
            for _ in range(140):
                kind = chance.choice(["letter"] * 14 + ["control"] * 3 + ["turns", "goal", "arrive", "look"])
                if kind == "letter":
                    self.letter(chance, move)
                elif kind == "control":
                    self.control(chance, move)
                elif kind == "arrive" and chance.random() < 0.4:
                    self.arrive(chance, source, goal)
                elif kind == "look":
                    move.look()
                elif kind in ("turns", "goal"):
                    (source if kind == "turns" else goal).turns(chance.randrange(1, 6))
                    move.look()
                self.look(image, move, source, goal)
                self.assertLessEqual(move.stopped_for(), 60)
            ends[move.phase()] = ends.get(move.phase(), 0) + 1
        self.assertGreater(ends["done"], 30)
        self.assertGreater(ends["off"], 20)

    def test_in_order_with_turns_between(self):
        """Rounds until few rooms are written meanwhile, then the stop, and all letters in order."""
        moved = 0
        for seed in range(120):
            chance = chance_of(seed)
            image = some_image(chance)
            source, goal = self.houses(chance, image)
            move = Move(source, goal, "ann", most=8, patience=60)
            for _ in range(4):
                source.turns(chance.randrange(1, 9))
                move.one_round()
                self.arrive(chance, source, goal)
                self.all_come(move)
            move.stop()
            source.turns(5)
            move.one_round()
            self.all_come(move)
            self.assertEqual(move.phase(), "done")
            goal.turns(40)
            self.look(image, move, source, goal)
            moved += len(goal.stepped("ann"))
        self.assertGreater(moved, 600)

    def all_come(self, move):
        while move.letters():
            move.come(move.letters()[0][0])

    def test_one_that_is_called_off_leaves_both_as_if_there_had_been_none(self):
        for seed in range(80):
            chance = chance_of(seed)
            image = some_image(chance)
            source, goal = self.houses(chance, image)
            same, other = source.twin(), goal.twin()
            move = Move(source, goal, "ann", most=8, patience=60)
            stop, off = chance.randrange(12), 6 + chance.randrange(12)
            for at in range(20):
                many = chance.randrange(1, 4)
                for one in (source, same, goal, other):
                    one.turns(many)
                if move.phase() == "rounds" and at == stop:
                    move.stop()
                    same.stop("ann")
                if at == off and move.phase() in ("rounds", "stopped"):
                    if move.phase() == "stopped":
                        same.go_on("ann")
                    move.call_off()
                if move.phase() in ("rounds", "stopped") and stop < off:
                    move.one_round()
                # No `whole` comes, so that the guest stays.
                for _ in range(6):
                    for number, _, letter in move.letters():
                        if letter[0] == "whole":
                            move.lose(number)
                    self.letter(chance, move)
            self.assertEqual(move.phase(), "off")
            self.assertEqual((everything(source), everything(goal)), (everything(same), everything(other)))

    def test_the_others_learn_nothing_of_a_move(self):
        for seed in range(40):
            chance = chance_of(seed)
            source, goal = self.houses(chance, some_image(chance))
            others = [(house, name) for house in (source, goal) for name in house.names() if name != "ann"]
            same = {(house, name): house.core(name) for house, name in others}
            move = Move(source, goal, "ann", most=8)
            move.one_round()
            self.all_come(move)
            move.stop()
            move.one_round()
            self.all_come(move)
            self.assertEqual(move.phase(), "done")
            for (house, name), core in same.items():
                self.assertEqual(house.core(name), core)
