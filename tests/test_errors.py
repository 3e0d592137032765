"""The errors [0.8]."""

import unittest

from lastlife import errors
from tests.helpers import FamilyTest

LISTED = {
    "BadCustoms": ("what",), "BadLives": ("index", "what"), "BadRecord": ("index", "what"), "NoRow": (),
    "NoLife": ("name",), "NoPerson": ("name",), "OtherLives": (), "BadKin": ("what",), "BadDate": ("what",),
    "BadTaker": ("what",), "BadCondition": ("what",), "BadGift": ("what",), "BadDeed": ("index", "what"),
    "NoGift": ("name",), "BadYear": ("year",), "BadSystem": ("index", "what"), "BadTimes": (),
    "OtherCount": (), "NoInstant": ("instant",), "NoTimes": ("path",), "BadFormula": ("what",),
    "BadText": ("row", "what"), "BadMeasuring": ("what",), "BadYears": ("years",), "NotAClass": ("name",),
    "BadCause": ("cause",), "BadCustom": ("custom",), "BadLater": ("later",), "NotMember": ("name",),
    "NoRoom": ("name",), "BadWatch": ("what",), "NotTrue": ("what", "row"), "BadCase": ("what",),
    "BadChange": ("index", "what"), "BadPool": ("what", "index"),
}


class TestErrors(FamilyTest):
    def test_the_base_is_directly_under_value_error(self):
        self.assertEqual(errors.DeedError.__bases__, (ValueError,))

    def test_each_other_error_is_directly_under_the_base(self):
        for name in LISTED:
            self.assertEqual(getattr(errors, name).__bases__, (errors.DeedError,), name)

    def test_there_are_no_others_and_all_are_defined_here(self):
        found = [name for name, thing in vars(errors).items() if isinstance(thing, type)]
        self.assertEqual(sorted(found), sorted([*LISTED, "DeedError"]))
        for name in found:
            self.assertEqual(getattr(errors, name).__module__, "lastlife.errors")

    def test_arguments_are_kept_by_position_under_their_names_as_they_were_passed(self):
        for name, attributes in LISTED.items():
            things = [[place] for place in range(len(attributes))]
            error = getattr(errors, name)(*things)
            self.assertEqual(list(vars(error)), list(attributes), name)
            for attribute, thing in zip(attributes, things):
                self.assertIs(getattr(error, attribute), thing, name)

    def test_each_is_made_with_exactly_its_arguments(self):
        for name, attributes in LISTED.items():
            if attributes:
                self.assertRaises(TypeError, getattr(errors, name))
                self.assertRaises(TypeError, getattr(errors, name), *attributes, 1)

    def test_an_error_can_be_raised_and_shown(self):
        with self.assertRaises(ValueError) as caught:
            raise errors.BadRecord(3, "young")
        self.assertIn("young", str(caught.exception))


if __name__ == "__main__":
    unittest.main()
