"""Words as codes, as entries of a table, as numbers, and as bits."""

from guestsalone.checks import check_number, check_word
from guestsalone.errors import NoBits, NoOp, Nought, NoTruth
from guestsalone.words import MOST

OPS = (
    "halt", "set", "load", "save", "from", "into", "add", "sub",
    "part", "jump", "base", "trap", "time", "out", "in", "wait",
)
BITS = 12


def parts_of(word):
    """A word's op, register and rest."""
    check_word(word)
    return word // 256, word // 64 % 4, word % 64


def code(op, which, rest):
    """The word whose op, register and rest these are."""
    check_number(op, 0, 15)
    check_number(which, 0, 3)
    check_number(rest, 0, 63)
    return op * 256 + which * 64 + rest


def op_of(name):
    """The number of the op of this name."""
    for number, op in enumerate(OPS):
        if op == name:
            return number
    raise NoOp(name)


def entry(room, *, write=False):
    """The least word that, as an entry, leads to the room and may be written, or may not."""
    check_number(room, 0, 7)
    if not isinstance(write, bool):
        raise NoTruth(write)
    return room * 4 + (3 if write else 1)


def entry_parts(word):
    """The room to which an entry leads and whether it may be written, or None."""
    check_word(word)
    if word % 2 == 0:
        return None
    return word // 4 % 8, word // 2 % 2 == 1


def sum_of(one, other):
    """The sum of two words, modulo 4096."""
    _check_words(one, other)
    return (one + other) % (MOST + 1)


def difference(one, other):
    """The difference of two words, modulo 4096."""
    _check_words(one, other)
    return (one - other) % (MOST + 1)


def divided(one, other):
    """The quotient and the rest of two words."""
    _check_words(one, other)
    if other == 0:
        raise Nought(one)
    return one // other, one % other


def bits_of(word):
    """A word's twelve bits, the lowest first."""
    check_word(word)
    return [(word >> place) % 2 == 1 for place in range(BITS)]


def word_of_bits(bits):
    """The word that has these twelve bits, the lowest first."""
    if not isinstance(bits, (list, tuple)) or len(bits) != BITS:
        raise NoBits(bits)
    if not all([isinstance(bit, bool) for bit in bits]):
        raise NoBits(bits)
    return sum([1 << place for place, bit in enumerate(bits) if bit])


def _check_words(one, other):
    check_word(one)
    check_word(other)
