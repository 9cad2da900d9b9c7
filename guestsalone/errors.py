"""The refusals of Guestsalone, in three families.

A refusal keeps the very things that it is made of. Its message leaves them
out: they may be anything, of any size.
"""


class GuestError(ValueError):
    """What was handed in is not what is wanted."""

    def __init__(self, text):
        ValueError.__init__(self, text)


class Missing(KeyError):
    """What was asked for is not there."""

    def __init__(self, text):
        KeyError.__init__(self, text)


class Barred(LookupError):
    """What was asked for cannot be now."""

    def __init__(self, text):
        LookupError.__init__(self, text)


class NoNumber(GuestError):
    def __init__(self, found):
        GuestError.__init__(self, "not a whole number within its bounds")
        self.found = found


class NoName(GuestError):
    def __init__(self, found):
        GuestError.__init__(self, "not a name")
        self.found = found


class NoWord(GuestError):
    def __init__(self, found):
        GuestError.__init__(self, "not a word")
        self.found = found


class NoOp(GuestError):
    def __init__(self, found):
        GuestError.__init__(self, "not the name of an op")
        self.found = found


class NoTruth(GuestError):
    def __init__(self, found):
        GuestError.__init__(self, "neither True nor False")
        self.found = found


class NoBits(GuestError):
    def __init__(self, found):
        GuestError.__init__(self, "not a list of twelve truths")
        self.found = found


class Nought(GuestError):
    def __init__(self, found):
        GuestError.__init__(self, "cannot be divided by 0")
        self.found = found


class NoImage(GuestError):
    def __init__(self, found):
        GuestError.__init__(self, "not an image, or not a part of one")
        self.found = found


class NoText(GuestError):
    def __init__(self, found):
        GuestError.__init__(self, "not a text")
        self.found = found


class NoStore(GuestError):
    def __init__(self, found):
        GuestError.__init__(self, "not a store")
        self.found = found


class NoKind(GuestError):
    def __init__(self, found):
        GuestError.__init__(self, "not a kind of arrival")
        self.found = found


class NoLog(GuestError):
    def __init__(self, found):
        GuestError.__init__(self, "not a log")
        self.found = found


class NoShare(GuestError):
    def __init__(self, found):
        GuestError.__init__(self, "not the shares of guests")
        self.found = found


class NoSnapshot(GuestError):
    def __init__(self, found):
        GuestError.__init__(self, "not a snapshot, or not a part of one")
        self.found = found


class NoHouse(GuestError):
    def __init__(self, found):
        GuestError.__init__(self, "not a house")
        self.found = found


class NoDeed(GuestError):
    def __init__(self, found):
        GuestError.__init__(self, "not a deed")
        self.found = found


class NoWorld(GuestError):
    def __init__(self, found):
        GuestError.__init__(self, "not a world")
        self.found = found


class NoPaper(GuestError):
    def __init__(self, found):
        GuestError.__init__(self, "not a paper")
        self.found = found


class NoLine(GuestError):
    def __init__(self, found):
        GuestError.__init__(self, "not a line")
        self.found = found


class Doubled(GuestError):
    def __init__(self, found):
        GuestError.__init__(self, "is there already")
        self.found = found


class NoRow(GuestError):
    def __init__(self, at):
        GuestError.__init__(self, "a row is not as it should be")
        self.at = at


class TooMuch(GuestError):
    def __init__(self, many):
        GuestError.__init__(self, "too much at once")
        self.many = many


class NoGuest(Missing):
    def __init__(self, found):
        Missing.__init__(self, "no guest of this name")
        self.found = found


class NoAsk(Missing):
    def __init__(self, found):
        Missing.__init__(self, "no such ask waits")
        self.found = found


class NotOnRoad(Missing):
    def __init__(self, found):
        Missing.__init__(self, "no letter of this number is under way")
        self.found = found


class NotKept(Missing):
    def __init__(self, found):
        Missing.__init__(self, "this guest is in no house")
        self.found = found


class Ended(Barred):
    def __init__(self, found):
        Barred.__init__(self, "the machine has ended")
        self.found = found


class Moving(Barred):
    def __init__(self, found):
        Barred.__init__(self, "a move is under way")
        self.found = found


class NotMoving(Barred):
    def __init__(self, found):
        Barred.__init__(self, "no move is under way, or not in this phase")
        self.found = found


class Fallen(Barred):
    def __init__(self, found):
        Barred.__init__(self, "the house has fallen")
        self.found = found


class Standing(Barred):
    def __init__(self, found):
        Barred.__init__(self, "stands already")
        self.found = found


class Full(Barred):
    def __init__(self, many):
        Barred.__init__(self, "full")
        self.many = many


class Parted(Barred):
    def __init__(self, found, at):
        Barred.__init__(self, "the runs part")
        self.found = found
        self.at = at


class Over(Barred):
    def __init__(self):
        Barred.__init__(self, "nothing is left to undo")
