"""The error classes: [0.3] and the interface."""

import unittest

from cellyard import errors

NAMES = [
    "NoNumber", "NoName", "NoWants", "NoLayers", "NoPath", "NoWords", "NoKinds", "NoProcess",
    "NoGroup", "NoStore", "NoCell", "Taken", "Itself", "Frozen", "Capped", "Over", "TooFew",
    "Guarded", "NoSuch", "NoChild", "NotYet", "NoMount", "Fixed", "NoFile", "Held", "NotClosed",
    "NoPicture", "NoDeeds", "NoText",
]
WITH_FIELD = {"Frozen": ("group", "den"), "Capped": ("group", "yard"), "Over": ("many", 7)}


def made(name):
    """An error of the class of this name."""
    return getattr(errors, name)(WITH_FIELD[name][1] if name in WITH_FIELD else "some words")


class TestErrors(unittest.TestCase):
    def test_all_classes_are_there_and_no_others(self):
        found = [name for name, thing in vars(errors).items() if isinstance(thing, type)]
        self.assertEqual(sorted(found), sorted(NAMES + ["CellError"]))

    def test_any_refusal_is_a_value_error(self):
        self.assertEqual(errors.CellError.__bases__, (ValueError,))

    def test_each_stands_under_any_refusal(self):
        for name in NAMES:
            with self.subTest(name):
                self.assertEqual(getattr(errors, name).__bases__, (errors.CellError,))

    def test_none_stands_under_another(self):
        for one in NAMES:
            for other in NAMES:
                below = issubclass(getattr(errors, one), getattr(errors, other))
                self.assertEqual(below, one == other, (one, other))

    def test_each_is_raised_and_taken_as_any_refusal(self):
        for name in NAMES:
            with self.subTest(name):
                with self.assertRaises(errors.CellError) as taken:
                    raise made(name)
                self.assertEqual(taken.exception.__class__.__name__, name)
                self.assertTrue(str(taken.exception))

    def test_fields(self):
        for name, (field, value) in WITH_FIELD.items():
            with self.subTest(name):
                self.assertEqual(vars(made(name)), {field: value})

    def test_fields_are_each_errors_own(self):
        one, other = errors.Capped("den"), errors.Capped("yard")
        self.assertEqual((one.group, other.group), ("den", "yard"))
        one, other = errors.Frozen("den"), errors.Frozen("yard")
        self.assertEqual((one.group, other.group), ("den", "yard"))
        one, other = errors.Over(0), errors.Over(9999)
        self.assertEqual((one.many, other.many), (0, 9999))


if __name__ == "__main__":
    unittest.main()
