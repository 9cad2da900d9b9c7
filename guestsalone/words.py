"""Whole numbers, words, names, and numbers that are written as figures."""

MOST = 4095
SHORT = 6
LONG = 30


def is_count(thing):
    """Whether it is a whole number from 0 on."""
    return isinstance(thing, int) and not isinstance(thing, bool) and thing >= 0


def is_whole(thing, low, high):
    """Whether it is a whole number from low to high, both counted."""
    return isinstance(thing, int) and not isinstance(thing, bool) and low <= thing <= high


def is_word(thing):
    """Whether it is a word: a whole number from 0 to 4095."""
    return is_whole(thing, 0, MOST)


def is_name(thing):
    """Whether it is a text of one to eight small letters from a to z."""
    return isinstance(thing, str) and 1 <= len(thing) <= 8 and _all_within(thing, "a", "z")


def number_in(thing, *, least=0, most=MOST):
    """The number from least to most that a text writes by one to six figures, else None."""
    number = _written(thing, SHORT)
    return number if number is not None and least <= number <= most else None


def long_number_in(thing):
    """The number that a text writes by one to thirty figures, else None."""
    return _written(thing, LONG)


def are_signs(thing):
    """Whether it is a text of signs from the blank to the tilde."""
    return isinstance(thing, str) and _all_within(thing, " ", "~")


def _written(thing, figures):
    """The number that a text writes by so many figures at most, without a 0 ahead of others, else None."""
    if not isinstance(thing, str) or not 1 <= len(thing) <= figures or not _all_within(thing, "0", "9"):
        return None
    return int(thing) if len(thing) == 1 or not thing.startswith("0") else None


def _all_within(text, first, last):
    return all([first <= sign <= last for sign in text])
