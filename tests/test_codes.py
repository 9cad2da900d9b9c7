"""Points 12, 13 and 14: words as codes, entries, numbers and bits."""

from guestsalone import codes
from guestsalone.codes import (
    OPS, bits_of, code, difference, divided, entry, entry_parts, op_of, parts_of, sum_of, word_of_bits,
)
from guestsalone.core import Core
from guestsalone.errors import NoBits, NoNumber, NoOp, Nought, NoTruth, NoWord
from tests.helpers import GREATEST, NO_ROOMS, Case, beyond

NAMES = "halt set load save from into add sub part jump base trap time out in wait".split()
NO_WORDS = beyond(0, 4095)


class PartsTest(Case):
    def test_ops(self):
        self.assertEqual(OPS, tuple(NAMES))
        self.assertEqual([op_of(name) for name in NAMES], list(range(16)))

    def test_no_op(self):
        for thing in [None, True, 0, 1, "", "Halt", "halt ", "hal", "noop", [], ["halt"], ("halt",), {"halt": 0},
                      GREATEST, Core(NO_ROOMS)]:
            self.refused_found(NoOp, thing, op_of, thing)

    def test_parts_of_words(self):
        for word, parts in ((0, (0, 0, 0)), (4095, (15, 3, 63)), (256, (1, 0, 0)), (255, (0, 3, 63)),
                            (64, (0, 1, 0)), (63, (0, 0, 63)), (325, (1, 1, 5))):
            self.assertEqual(parts_of(word), parts)
            self.assertEqual(code(*parts), word)

    def test_every_word_is_made_of_its_parts(self):
        self.assertEqual([code(*parts_of(word)) for word in range(4096)], list(range(4096)))

    def test_no_word(self):
        for thing in NO_WORDS:
            self.refused_found(NoWord, thing, parts_of, thing)

    def test_each_part_is_refused(self):
        for thing in beyond(0, 15) + ["halt"]:
            self.refused_found(NoNumber, thing, code, thing, 0, 0)
        for thing in beyond(0, 3):
            self.refused_found(NoNumber, thing, code, 0, thing, 0)
        for thing in beyond(0, 63):
            self.refused_found(NoNumber, thing, code, 0, 0, thing)

    def test_the_first_wrong_part_goes(self):
        one, other, third = [1], [2], [3]
        self.refused_found(NoNumber, one, code, one, other, third)
        self.refused_found(NoNumber, other, code, 0, other, third)

    def test_by_names(self):
        self.assertEqual(code(op=1, which=0, rest=2), 258)
        self.assertEqual((parts_of(word=1), op_of(name="set")), ((0, 0, 1), 1))


class EntryTest(Case):
    def test_entries(self):
        for room in range(8):
            self.assertEqual(entry(room), room * 4 + 1)
            self.assertEqual(entry(room, write=False), room * 4 + 1)
            self.assertEqual(entry(room, write=True), room * 4 + 3)

    def test_the_entry_is_the_least_word_that_leads_so(self):
        for room in range(8):
            for write in (True, False):
                words = [word for word in range(4096) if entry_parts(word) == (room, write)]
                self.assertEqual(entry(room, write=write), words[0])

    def test_parts_of_every_word(self):
        for word in range(4096):
            parts = entry_parts(word)
            if word % 2 == 0:
                self.assertIsNone(parts)
            else:
                self.assertEqual(parts, (word // 4 % 8, word // 2 % 2 == 1))
                self.assertIs(type(parts), tuple)
                self.assertIs(type(parts[1]), bool)

    def test_refusals(self):
        for thing in beyond(0, 7):
            self.refused_found(NoNumber, thing, entry, thing)
        for thing in (None, 0, 1, "", "True", [], [True], (), {}, GREATEST):
            self.refused_found(NoTruth, thing, entry, 0, write=thing)
        for thing in NO_WORDS:
            self.refused_found(NoWord, thing, entry_parts, thing)

    def test_the_room_is_looked_at_first(self):
        self.refused_found(NoNumber, 8, entry, 8, write=1)

    def test_write_is_told_by_its_name_alone(self):
        self.assertRaises(TypeError, entry, 0, True)


class ReckoningTest(Case):
    def test_sums_and_differences(self):
        for one, other in ((0, 0), (1, 2), (2, 1), (4095, 1), (0, 1), (4095, 4095), (0, 4095)):
            self.assertEqual(sum_of(one, other), (one + other) & 4095)
            self.assertEqual(difference(one, other), (one - other) & 4095)

    def test_quotients(self):
        for one, other, told in ((7, 2, (3, 1)), (0, 1, (0, 0)), (4095, 4095, (1, 0)), (5, 9, (0, 5)),
                                 (4095, 1, (4095, 0))):
            self.assertEqual(divided(one, other), told)
            self.assertIs(type(divided(one, other)), tuple)

    def test_by_nought(self):
        for one in (0, 5, 4095):
            self.refused_found(Nought, one, divided, one, 0)

    def test_refusals(self):
        for call in (sum_of, difference, divided):
            for thing in NO_WORDS:
                self.refused_found(NoWord, thing, call, thing, 1)
                self.refused_found(NoWord, thing, call, 1, thing)

    def test_the_first_that_is_due_goes(self):
        one, other = [1], [2]
        for call in (sum_of, difference, divided):
            self.refused_found(NoWord, one, call, one, other)
            self.refused_found(NoWord, 4096, call, 4096, 0)

    def test_by_names(self):
        for call in (sum_of, difference, divided):
            self.assertEqual(call(one=6, other=4), call(6, 4))


class BitsTest(Case):
    def test_bits_and_words(self):
        self.assertEqual(bits_of(0), [False] * 12)
        self.assertEqual(bits_of(4095), [True] * 12)
        self.assertEqual(bits_of(1), [True] + [False] * 11)
        self.assertEqual(bits_of(2048), [False] * 11 + [True])
        for word in range(4096):
            bits = bits_of(word)
            self.assertEqual([type(bit) for bit in bits], [bool] * 12)
            self.assertEqual(word_of_bits(bits), word)
            self.assertEqual(word_of_bits(tuple(bits)), word)

    def test_bits_are_told_new_each_time(self):
        bits = bits_of(5)
        bits.append(True)
        self.assertEqual(len(bits_of(5)), 12)

    def test_bits_handed_in_are_not_changed(self):
        bits = [True] * 12
        word_of_bits(bits)
        self.assertEqual(bits, [True] * 12)

    def test_refusals(self):
        for thing in NO_WORDS:
            self.refused_found(NoWord, thing, bits_of, thing)
        for thing in [None, True, 0, 4095, "", "010101010101", [], (), [True] * 11, [True] * 13, [1] * 12,
                      [True] * 11 + [0], [None] + [True] * 11, [[True]] * 12, {at: True for at in range(12)}]:
            self.refused_found(NoBits, thing, word_of_bits, thing)

    def test_words_are_whole_numbers(self):
        for word in (word_of_bits([False] * 12), sum_of(1, 2), entry(1), codes.code(1, 1, 1), op_of("set")):
            self.assertIs(type(word), int)
