"""Worlds for the tests: images that speak to one another, all that a World tells, and deeds by chance."""

from guestsalone.deeds import do
from guestsalone.errors import Barred, GuestError, Missing
from guestsalone.images import image_text, read_image
from guestsalone.world import World
from tests import test_house
from tests.chance import some_image
from tests.helpers import op
from tests.oracle import Oracle
from tests.test_images import EMPTY
from tests.test_plain import image_with
from tests.test_rooms import SIX

TWO = [("east", 6, 12), ("west", 4, 8)]
THREE = [("east", 6, 12), ("west", 4, 8), ("north", 64, 60)]
SEVEN = SIX + ["gus"]


def sender(port):
    """Sends 1, 2, 3 and so on to a port, and tells what the card has."""
    return image_with([op("set", 1, 1), op("set", 3, port), op("add", 2, 1), op("out", 2, 1), op("in", 0, 1),
                       op("out", 0, 0), op("jump", 0, 2)])


def answerer(port):
    """Waits for a word, tells it, and sends one more back."""
    return image_with([op("set", 1, 1), op("set", 3, port), op("wait"), op("in", 2, 1), op("out", 2, 0),
                       op("add", 2, 1), op("out", 2, 1), op("jump", 0, 2)])


SPEAKER = sender(1)
LISTENER = answerer(0)
HALT = image_with([op("halt")])
FALLEN = EMPTY


def world_of(*guests, houses=None):
    """A world with guests: tuples of a house, a name and an image; ports from 0 on."""
    world = World(TWO if houses is None else houses)
    for port, (house, name, image) in enumerate(guests):
        world.come(house, name, image, port=port)
    return world


def talking():
    """A world of a speaker, who is kept now and then, and a listener."""
    world = world_of(("east", "ann", SPEAKER), ("west", "bob", LISTENER))
    world.turns("east", 20)
    world.keep("ann")
    world.turns("west", 9)
    return world


def everything(world):
    """All that a World tells."""
    return (
        world.made(), world.houses(), world.standing(), world.names(), world.deeds(),
        [world.posted(port) for port in range(8)],
        [(name, world.where(name), world.port(name), world.phase(name), world.told(name), world.kept(name),
          world.letters(name) if world.phase(name) else None) for name in world.names()],
        [of_house(world.house(house)) for house in world.standing()],
    )


def of_house(house):
    """All that a House tells, without names that no guest of it has."""
    told = test_house.everything(house)
    return told[:5] + (house.queue().waiting(),) + told[6:]


def all_come(world, name):
    """Lets all letters of a Move come, in order, also those that are put meanwhile."""
    while world.phase(name) is not None and world.letters(name):
        world.move_deed(name, "come", world.letters(name)[0][0])


def moved(world, name, house, **told):
    """Moves a guest as a whole."""
    world.move(name, house, **told)
    world.move_deed(name, "round")
    all_come(world, name)
    world.move_deed(name, "stop")
    world.move_deed(name, "round")
    all_come(world, name)


def oracle_of(image, log, core):
    """A second machine, run to where a core stands."""
    return Oracle(image).run(log, core.time() + (1 if core.state() == "idle" else 0))


class Ruler:
    """Does deeds by chance with a World, and knows what it must tell of what is kept and posted."""

    def __init__(self, chance, houses=None, images=some_image, names=SEVEN, places=None):
        self.chance = chance
        self.images_by = images
        self.world = World(houses or chance.choice([TWO, THREE]))
        self.names = list(names)
        self.images = {}
        self.kept = {}
        self.posted = [[] for _ in range(8)]
        self.refused = 0
        self.whole = 0
        self.ends = {}

    def house(self):
        return self.chance.choice(self.world.houses())

    def ceiling(self):
        return self.chance.choice([None, None, 4, 7])

    def any_deed(self):
        """Some deed, which the world may refuse."""
        world, chance = self.world, self.chance
        came = world.names()
        if len(came) < 3 or (len(came) < len(self.names) and chance.random() < 0.05):
            text = image_text(self.images_by(chance))
            return ("come", self.house(), self.names[len(came)], text, len(came), chance.randrange(3), self.ceiling())
        moving = [name for name in came if world.phase(name) is not None]
        if moving and chance.random() < 0.7:
            return self.road(chance.choice(moving))
        name = chance.choice(came)
        kind = chance.choice(["turns"] * 6 + ["keep"] * 4 + ["say", "say", "move", "move", "move", "fall", "rise",
                                                              "rise"] + ["up"] * 4)
        if kind == "turns":
            return kind, self.house(), chance.randrange(1, 50)
        if kind == "keep":
            return kind, name, chance.random() < 0.3
        if kind == "say":
            return kind, name, "".join(chance.choice(" hi!~") for _ in range(chance.randrange(4)))
        if kind == "move":
            most, patience = chance.randrange(3, 9), chance.choice([2, 20, 60, 60])
            return kind, name, self.house(), most, patience, chance.randrange(2), self.ceiling()
        if kind == "up":
            return kind, name, self.house(), chance.randrange(2), self.ceiling()
        if kind == "fall" and chance.random() < 0.6:
            return "turns", self.house(), 3
        return kind, self.house()

    def road(self, name):
        """A deed of a Move under way."""
        chance, letters = self.chance, self.world.letters(name)
        if letters and chance.random() < 0.88:
            word = chance.choice(["come"] * 14 + ["lose", "double"])
            return "road", name, word, chance.choice(letters[:3])[0]
        word = {"rounds": ["round", "round", "stop"], "stopped": ["round"], "given": ["again"]}[self.world.phase(name)]
        return "road", name, "off" if chance.random() < 0.02 else chance.choice(word + ["look"]), None

    def deed(self):
        """Does some deed; tells it, or None where it was refused."""
        deed = self.any_deed()
        return deed if self.done(deed) else None

    def done(self, deed):
        """Does a deed; tells whether it was not refused."""
        world = self.world
        before = world.deeds()
        kept = {name: world.kept(name) for name in world.names()}
        phase = world.phase(deed[1]) if deed[0] == "road" else None
        try:
            told = do(world, deed)
        except (GuestError, Missing, Barred):
            self.refused += 1
            assert world.deeds() == before
            return False
        assert world.deeds() == before + [deed]
        if deed[0] == "come":
            self.images[deed[2]] = read_image(deed[3])
            self.kept[deed[2]] = (0, [], 0, 0, 0)
        elif deed[0] == "keep":
            self.keep(deed[1], kept[deed[1]])
        elif deed[0] == "turns":
            assert len(told) == deed[2]
        elif deed[0] == "road" and phase == "given" and world.phase(deed[1]) is None:
            self.whole += 1
        return True

    def keep(self, name, before):
        """What is kept and posted then."""
        house = self.world.house(self.world.where(name))
        core = house.core(name)
        come = len([1 for _, kind, _ in house.log(name) if kind == "net"])
        self.kept[name] = (core.time(), house.log(name), len(core.told()), len(core.sent()), come)
        for port, word in core.sent()[before[3]:]:
            if len(self.posted[port]) < 200:
                self.posted[port].append(word)
