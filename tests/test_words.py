"""Point 11: whole numbers, names, and numbers that are written."""

import unittest

from guestsalone.words import MOST, is_name, is_whole, number_in
from tests.helpers import GREATEST, NOT_NUMBERS


class WholeTest(unittest.TestCase):
    def test_both_bounds_are_counted(self):
        for thing, told in ((2, False), (3, True), (4, True), (5, True), (6, False)):
            self.assertIs(is_whole(thing, 3, 5), told)
        self.assertIs(is_whole(7, 7, 7), True)

    def test_bounds_below_nought(self):
        for thing, told in ((-6, False), (-5, True), (-1, True), (0, False)):
            self.assertIs(is_whole(thing, -5, -1), told)
        self.assertIs(is_whole(0, -1, 1), True)

    def test_nothing_is_between_a_greater_low_and_a_lesser_high(self):
        for thing in (2, 3, 4, 5, 6):
            self.assertIs(is_whole(thing, 5, 3), False)

    def test_thirty_figures(self):
        self.assertIs(is_whole(GREATEST, -GREATEST, GREATEST), True)
        self.assertIs(is_whole(-GREATEST, -GREATEST, GREATEST), True)
        self.assertIs(is_whole(GREATEST, 0, GREATEST - 1), False)

    def test_other_things_are_none(self):
        for thing in NOT_NUMBERS:
            self.assertIs(is_whole(thing, -10, 10), False)

    def test_by_names(self):
        self.assertIs(is_whole(thing=1, low=0, high=1), True)


class NameTest(unittest.TestCase):
    def test_one_to_eight_letters(self):
        for thing in ("a", "z", "ab", "azazaza", "abcdefgh"):
            self.assertIs(is_name(thing), True)
        for thing in ("", "abcdefghi", "a" * 6000):
            self.assertIs(is_name(thing), False)

    def test_other_signs(self):
        for thing in ("A", "aB", "a1", "1", "a b", " a", "a ", "a\n", "a-b", "`", "{", "a_b"):
            self.assertIs(is_name(thing), False)

    def test_other_things(self):
        for thing in (None, True, 1, ["a"], ("a",), {"a": "a"}, ["a", "b"], []):
            self.assertIs(is_name(thing), False)


class NumberInTest(unittest.TestCase):
    def test_most(self):
        self.assertEqual(MOST, 4095)

    def test_figures(self):
        for text, number in (("0", 0), ("7", 7), ("10", 10), ("4095", 4095)):
            self.assertEqual(number_in(text), number)
            self.assertIs(type(number_in(text)), int)

    def test_bounds_are_counted(self):
        self.assertIsNone(number_in("4096"))
        self.assertEqual([number_in(text, least=3, most=5) for text in "23456"], [None, 3, 4, 5, None])
        self.assertEqual(number_in("3", least=-5), 3)
        self.assertIsNone(number_in("3", least=5, most=1))
        self.assertIsNone(number_in("0", least=1))

    def test_six_and_seven_figures(self):
        self.assertEqual(number_in("999999", most=GREATEST), 999999)
        self.assertIsNone(number_in("1000000", most=GREATEST))
        self.assertIsNone(number_in("", most=GREATEST))

    def test_a_nought_ahead(self):
        for text in ("00", "01", "000000", "012"):
            self.assertIsNone(number_in(text))

    def test_other_texts(self):
        for text in ("-1", "+1", " 1", "1 ", "1\n", "1_0", "1.0", "a", "1e3", "0x1", "/", ":"):
            self.assertIsNone(number_in(text, least=-GREATEST, most=GREATEST))

    def test_other_things(self):
        for thing in (None, True, 1, 0, ["1"], ("1",), {"1": 1}, []):
            self.assertIsNone(number_in(thing))

    def test_bounds_are_told_by_names_alone(self):
        self.assertRaises(TypeError, number_in, "1", 0)
