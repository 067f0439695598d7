"""The interface of armedexits.errors."""

import unittest

from armedexits import errors

PARENTS = {
    "ExitError": "ValueError",
    "InvalidProgram": "ExitError",
    "BadSize": "InvalidProgram",
    "BadName": "InvalidProgram",
    "DuplicateName": "InvalidProgram",
    "UnknownName": "InvalidProgram",
    "BackwardStretch": "InvalidProgram",
    "ArmedTwice": "ExitError",
    "NotArmed": "ExitError",
    "LeftStretch": "ExitError",
    "CrossedStretch": "ExitError",
    "Parted": "ExitError",
    "WrongReturn": "Parted",
    "LostReturn": "Parted",
    "RefusedPerform": "Parted",
    "NotProcedures": "ExitError",
    "BadListing": "ExitError",
}

FIELDS = {
    "BadName": {"word": "A"},
    "DuplicateName": {"word": "main"},
    "UnknownName": {"word": "zz"},
    "BackwardStretch": {"first": "b", "last": "a"},
    "ArmedTwice": {"held": ((0, 1),), "way": (2, 3)},
    "NotArmed": {"paragraph": 5},
    "LeftStretch": {"first": 1, "last": 3},
    "CrossedStretch": {"first": 0, "last": 2},
    "WrongReturn": {"paragraph": 1, "way": (0, 1), "steps": 4, "why": "crossed"},
    "LostReturn": {"paragraph": 2, "way": (3, 1), "steps": 7},
    "RefusedPerform": {"paragraph": 3, "way": (1, 2), "steps": 0},
    "NotProcedures": {"kind": "wrong", "answers": (True, False), "steps": 4},
}


def class_called(name):
    return ValueError if name == "ValueError" else getattr(errors, name)


def ancestors(name):
    """The names above this one in the table."""
    above = []
    while name in PARENTS:
        name = PARENTS[name]
        above.append(name)
    return above


class ErrorClasses(unittest.TestCase):
    def test_each_class_stands_under_its_class_and_under_no_other(self):
        for name in PARENTS:
            for other in PARENTS:
                with self.subTest(name=name, other=other):
                    expected = other == name or other in ancestors(name)
                    self.assertEqual(issubclass(class_called(name), class_called(other)), expected)
            self.assertTrue(issubclass(class_called(name), ValueError))

    def test_each_class_is_defined_in_this_module(self):
        for name in PARENTS:
            self.assertEqual(class_called(name).__module__, "armedexits.errors")

    def test_arguments_are_attributes(self):
        for name, fields in FIELDS.items():
            error = class_called(name)(*fields.values())
            for field, value in fields.items():
                with self.subTest(name=name, field=field):
                    self.assertEqual(getattr(error, field), value)

    def test_each_error_with_arguments_has_a_message(self):
        for name, fields in FIELDS.items():
            self.assertNotEqual(str(class_called(name)(*fields.values())), "")


if __name__ == "__main__":
    unittest.main()
