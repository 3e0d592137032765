"""Whole numbers, names and bounds [0.5] [1.1]."""

import unittest

from lastlife import years
from lastlife.years import is_name, is_whole
from tests.helpers import NOT_NAMES, NOT_WHOLE, FamilyTest


class TestYears(FamilyTest):
    def test_constants(self):
        self.same((years.MOST_YEAR, years.LATE, years.MOST), (10 ** 9, 10 ** 10, 10 ** 6))

    def test_whole_numbers_in_their_range_with_both_ends(self):
        for number, low, high, wanted in (
                (5, 1, 9, True), (1, 1, 9, True), (9, 1, 9, True), (0, 1, 9, False), (10, 1, 9, False),
                (-3, -3, -3, True), (-4, -3, -3, False), (-2, -3, -3, False), (0, 0, 0, True), (5, 9, 1, False),
                (10 ** 300, 10 ** 299, 10 ** 300, True), (10 ** 300 + 1, 0, 10 ** 300, False)):
            self.assertIs(is_whole(number, low, high), wanted, (number, low, high))

    def test_things_of_other_kinds_are_not_whole(self):
        for thing in NOT_WHOLE:
            self.assertIs(is_whole(thing, -9, 9), False, thing)

    def test_names_of_one_to_eight_letters(self):
        for name in ("a", "z", "az", "abcdefgh", "zzzzzzzz"):
            self.assertIs(is_name(name), True, name)

    def test_all_letters_from_a_to_z_and_no_other_sign(self):
        for code in range(300):
            self.assertIs(is_name(chr(code)), chr(code) in "abcdefghijklmnopqrstuvwxyz", code)
            self.assertIs(is_name("a" + chr(code)), chr(code) in "abcdefghijklmnopqrstuvwxyz", code)

    def test_other_things_are_no_names(self):
        for thing in NOT_NAMES:
            self.assertIs(is_name(thing), False, thing)


if __name__ == "__main__":
    unittest.main()
