"""Refusals of arguments that many files look at alike."""

from guestsalone.errors import NoNumber, NoWord
from guestsalone.words import is_whole, is_word


def check_number(thing, low, high):
    """Refuses what is no whole number from low to high."""
    if not is_whole(thing, low, high):
        raise NoNumber(thing)


def check_word(thing):
    """Refuses what is no word."""
    if not is_word(thing):
        raise NoWord(thing)
