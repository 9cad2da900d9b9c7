"""Whole numbers, words, names, and numbers that are written as figures."""

MOST = 4095


def is_count(thing):
    """Whether it is a whole number from 0 on."""
    return isinstance(thing, int) and not isinstance(thing, bool) and thing >= 0


def is_whole(thing, low, high):
    """Whether it is a whole number from low to high, both counted."""
    return isinstance(thing, int) and not isinstance(thing, bool) and low <= thing <= high


def is_word(thing):
    """Whether it is a word: a whole number from 0 to 4095."""
    return is_whole(thing, 0, MOST)


def is_name(thing):
    """Whether it is a text of one to eight small letters from a to z."""
    return isinstance(thing, str) and 1 <= len(thing) <= 8 and _all_within(thing, "a", "z")


def number_in(thing, *, least=0, most=MOST):
    """The number from least to most that a text writes by one to six figures, else None."""
    if not isinstance(thing, str) or not 1 <= len(thing) <= 6 or not _all_within(thing, "0", "9"):
        return None
    if len(thing) > 1 and thing.startswith("0"):
        return None
    number = int(thing)
    return number if least <= number <= most else None


def _all_within(text, first, last):
    return all([first <= sign <= last for sign in text])
