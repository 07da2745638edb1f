"""What several test files use."""

import unittest
from fractions import Fraction

from loopbounds.ratios import Ratio
from loopbounds.sums import Sum

LONG = 12345678901234567890123456789012345678901234567891
ODD_VALUES = (
    None, True, False, "", "x", b"x", [], [1, [2, None]], (), ((1, (2, ())), (3,)), {}, {"x": 1}, object(),
    10 ** 100, -1, ValueError("x"), int,
)
NO_NUMBERS = tuple(value for value in ODD_VALUES if isinstance(value, bool) or not isinstance(value, int))
# "self" is left out here: Python itself takes it for the object.
NO_KEYWORDS = (
    "", "A", "Self", "xY", "x1", "1", "x_", "_x", "the_constan", "x y", " x", "x ", "-x", "abcdefghi", "x\n", "a" * 999,
    "+", "\u00e9", "x\u00df",
)


def nested(levels):
    """A tuple within tuples, as deep as a wrong argument may be."""
    value = ()
    for _ in range(levels):
        value = (value,)
    return value


NO_NAMES = tuple(value for value in ODD_VALUES if value != "x") + NO_KEYWORDS + ("self", ("x",), ["x"], nested(70))
NO_INTEGERS = NO_NUMBERS + (Ratio(0), Ratio(1), Ratio(1, 2), Sum(1), nested(70))


def ratio(number):
    """The ratio with the value of a fraction or integer."""
    wanted = Fraction(number)
    return Ratio(wanted.numerator, wanted.denominator)


def fraction(number):
    """The fraction with the value of a ratio, an integer or a fraction."""
    return Fraction(number.top, number.bottom) if isinstance(number, Ratio) else Fraction(number)


class Checks(unittest.TestCase):
    def check_error(self, kind, fields, call, *args, **more):
        """The call raises just this class of error, and each field is the very value."""
        try:
            call(*args, **more)
        except Exception as error:
            self.assertIs(type(error), kind, repr(error))
            for field in fields:
                self.assertIs(getattr(error, field), fields[field])
            self.assertEqual(sorted(vars(error)), sorted(fields))
        else:
            self.fail(f"{kind.__name__} was not raised")

    def check_same(self, value, wanted):
        """The value is equal to what is wanted, and of the same class: 1 is neither True nor a ratio."""
        self.assertIs(type(value), type(wanted))
        self.assertEqual(value, wanted)

    def check_raised(self, kind, fields, call, *args, **more):
        """The call raises just this class of error, and the fields are equal to these."""
        with self.assertRaises(kind) as caught:
            call(*args, **more)
        self.assertIs(type(caught.exception), kind)
        self.assertEqual(vars(caught.exception), fields)
        for field in fields:
            self.assertIs(type(getattr(caught.exception, field)), type(fields[field]))

    def check_is_ratio(self, value, wanted):
        """The value is a ratio with the value of an integer, fraction or ratio."""
        self.assertIs(type(value), Ratio)
        self.assertEqual(fraction(value), fraction(wanted))

    def check_beginning(self, loop, beginning):
        """The tuple of the pairs of all variables of a loop, names ascending, and ratios in their ranges."""
        self.assertIs(type(beginning), tuple)
        self.assertEqual(tuple(name for name, _ in beginning), loop.names)
        for pair in beginning:
            self.assertIs(type(pair), tuple)
            low, high = loop.range_of(pair[0])
            self.assertIs(type(pair[1]), Ratio)
            self.assertTrue(low <= pair[1] and (high is None or pair[1] <= high), beginning)
