"""Refusals of arguments that many files look at alike."""

from guestsalone.errors import NoGuest, NoName, NoNumber, NoWord
from guestsalone.words import is_name, is_whole, is_word


def check_number(thing, low, high):
    """Refuses what is no whole number from low to high."""
    if not is_whole(thing, low, high):
        raise NoNumber(thing)


def check_word(thing):
    """Refuses what is no word."""
    if not is_word(thing):
        raise NoWord(thing)


def check_name(thing):
    """Refuses what is no name."""
    if not is_name(thing):
        raise NoName(thing)


def check_guest(thing, guests):
    """Refuses what is not the name of one of these guests."""
    if not is_name(thing) or thing not in guests:
        raise NoGuest(thing)
