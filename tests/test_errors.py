"""loopbounds.errors: each class, its fields and the classes above it (points 5 and 7)."""

import itertools

from loopbounds import errors
from tests.helping import ODD_VALUES, Checks, nested

BASES = {"InputError": ValueError, "StateError": LookupError, "LimitError": ArithmeticError}
FIELDS = {
    "InputError": {
        "InvalidNumber": ["number"], "InvalidRatio": ["value"], "InvalidName": ["name"], "InvalidRange": ["name"],
        "InvalidSum": ["value"], "InvalidBases": ["index"], "InvalidValues": ["index"], "InvalidDeeds": ["index"],
        "InvalidText": ["text"], "InvalidCommand": ["command"], "NotASum": ["value"], "NotALoop": ["value"],
        "UnlikeRanges": ["name"], "ZeroDivisor": [],
    },
    "StateError": {
        "UnknownName": ["name"], "TwiceAssigned": ["name"], "Ring": ["ring"], "Refused": ["name"],
        "Broken": ["rounds", "beginning"], "Busy": [], "NothingToUndo": [],
    },
    "LimitError": {"TooMany": ["found"], "TooLong": [], "TooFar": []},
}
ROWS = [(base, name, fields) for base in FIELDS for name, fields in FIELDS[base].items()]


class ErrorsTest(Checks):
    def test_the_classes_are_these(self):
        found = [name for name, value in vars(errors).items() if isinstance(value, type)]
        wanted = list(BASES) + [name for _, name, _ in ROWS]
        self.assertEqual(sorted(found), sorted(wanted))

    def test_classes_above(self):
        for base, python_class in BASES.items():
            self.assertEqual(getattr(errors, base).__bases__, (python_class,))
        for base, name, _ in ROWS:
            self.assertEqual(getattr(errors, name).__bases__, (getattr(errors, base),), name)

    def test_instance_of_no_other_class(self):
        for base, name, fields in ROWS:
            error = getattr(errors, name)(*fields)
            for other in list(BASES) + [other for _, other, _ in ROWS]:
                self.assertEqual(isinstance(error, getattr(errors, other)), other in (base, name), (name, other))
            for python_class in (ValueError, LookupError, ArithmeticError):
                self.assertEqual(isinstance(error, python_class), python_class is BASES[base], name)
            for python_class in (KeyError, IndexError, TypeError, ZeroDivisionError, OverflowError):
                self.assertNotIsInstance(error, python_class)

    def test_fields_by_position_and_by_name(self):
        for value in ODD_VALUES + (nested(70), list(range(1000))):
            for _, name, fields in ROWS:
                kind = getattr(errors, name)
                if len(fields) == 1:
                    self.check_fields(kind(value), {fields[0]: value})
                    self.check_fields(kind(**{fields[0]: value}), {fields[0]: value})

    def test_two_fields(self):
        for one, two in itertools.product(ODD_VALUES, repeat=2):
            wanted = {"rounds": one, "beginning": two}
            self.check_fields(errors.Broken(one, two), wanted)
            self.check_fields(errors.Broken(one, beginning=two), wanted)
            self.check_fields(errors.Broken(beginning=two, rounds=one), wanted)

    def test_without_fields(self):
        for _, name, fields in ROWS:
            if not fields:
                self.check_fields(getattr(errors, name)(), {})

    def check_fields(self, error, wanted):
        self.assertEqual(sorted(vars(error)), sorted(wanted))
        for field in wanted:
            self.assertIs(getattr(error, field), wanted[field])

    def test_values_are_kept_as_they_are(self):
        value = [1, [2]]
        error = errors.InvalidRatio(value)
        self.assertEqual(value, [1, [2]])
        value.append(3)
        self.assertEqual(error.value, [1, [2], 3])

    def test_raised_and_caught_by_the_classes_above(self):
        for base, name, fields in ROWS:
            for kind in (getattr(errors, name), getattr(errors, base), BASES[base]):
                with self.assertRaises(kind):
                    raise getattr(errors, name)(*fields)

    def test_equality_and_truth(self):
        for _, name, fields in ROWS:
            one, two = getattr(errors, name)(*fields), getattr(errors, name)(*fields)
            self.assertTrue(one)
            self.assertTrue(one == one)
            self.assertFalse(one != one)
            self.assertFalse(one == two)
            self.assertTrue(one != two)
