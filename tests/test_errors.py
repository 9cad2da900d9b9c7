"""Point 7: the families of refusals, and the fields of each."""

import unittest

from guestsalone import errors

FAMILIES = {"GuestError": ValueError, "Missing": KeyError, "Barred": LookupError}
FIELDS = {
    "GuestError": {
        **{name: ("found",) for name in (
            "NoNumber", "NoName", "NoWord", "NoOp", "NoTruth", "NoBits", "Nought", "NoImage", "NoText", "NoStore",
            "NoKind", "NoLog", "NoShare", "NoSnapshot", "NoHouse", "NoDeed", "NoWorld", "NoPaper", "NoLine", "Doubled",
        )},
        "NoRow": ("at",), "TooMuch": ("many",),
    },
    "Missing": {name: ("found",) for name in ("NoGuest", "NoAsk", "NotOnRoad", "NotKept")},
    "Barred": {
        **{name: ("found",) for name in ("Ended", "Moving", "NotMoving", "Fallen", "Standing")},
        "Full": ("many",), "Parted": ("found", "at"), "Over": (),
    },
}
CLASSES = [(family, name, fields) for family, classes in FIELDS.items() for name, fields in classes.items()]
THINGS = [0, True, None, "", "text", [1, [2]], (1,), {"a": [1]}, 10 ** 30 - 1, errors.Over()]


class FamiliesTest(unittest.TestCase):
    def test_families_stand_straight_under_pythons_own_errors(self):
        for name, base in FAMILIES.items():
            self.assertEqual(getattr(errors, name).__bases__, (base,))

    def test_each_family_is_made_of_one_text(self):
        for name in FAMILIES:
            family = getattr(errors, name)
            self.assertIn("some text", str(family("some text")))
            self.assertRaises(TypeError, family)
            self.assertRaises(TypeError, family, "one", "two")

    def test_each_class_stands_straight_under_its_family(self):
        for family, name, _ in CLASSES:
            self.assertEqual(getattr(errors, name).__bases__, (getattr(errors, family),), name)

    def test_no_class_is_caught_as_one_of_another_family(self):
        for family, name, fields in CLASSES:
            refusal = getattr(errors, name)(*fields)
            for other in FAMILIES:
                self.assertEqual(isinstance(refusal, getattr(errors, other)), other == family, name)

    def test_the_file_has_just_these_classes(self):
        found = [name for name, thing in vars(errors).items() if isinstance(thing, type)]
        self.assertEqual(sorted(found), sorted([*FAMILIES, *[name for _, name, _ in CLASSES]]))


class FieldsTest(unittest.TestCase):
    def test_fields_by_place_are_the_very_things(self):
        for _, name, fields in CLASSES:
            for thing in THINGS:
                things = [[thing, at] for at in range(len(fields))]
                refusal = getattr(errors, name)(*things)
                self.assertEqual(set(vars(refusal)), set(fields))
                for field, given in zip(fields, things):
                    self.assertIs(getattr(refusal, field), given)

    def test_fields_by_name_are_the_very_things(self):
        for _, name, fields in CLASSES:
            for thing in THINGS:
                named = {field: [thing, field] for field in fields}
                refusal = getattr(errors, name)(**named)
                for field in fields:
                    self.assertIs(getattr(refusal, field), named[field])

    def test_too_few_and_too_many_fields(self):
        for _, name, fields in CLASSES:
            error = getattr(errors, name)
            self.assertRaises(TypeError, error, *fields, "more")
            if fields:
                self.assertRaises(TypeError, error, *fields[1:])

    def test_a_thing_that_grows_by_sharing_is_no_hindrance(self):
        thing = [0] * 400
        for _ in range(5):
            thing = [thing] * 400
        self.assertIs(errors.NoNumber(thing).found, thing)
        str(errors.NoNumber(thing))
