"""What several test files use."""

import unittest

ODD_VALUES = (
    None, True, False, "", "x", b"x", [], [1, [2, None]], (), ((1, (2, ())), (3,)), {}, {"x": 1}, object(),
    10 ** 100, -1, ValueError("x"), int,
)


def nested(levels):
    """A tuple within tuples, as deep as a wrong argument may be."""
    value = ()
    for _ in range(levels):
        value = (value,)
    return value


class Checks(unittest.TestCase):
    def check_error(self, kind, fields, call, *args, **more):
        """The call raises just this class of error, and each field is the very value."""
        try:
            call(*args, **more)
        except Exception as error:
            self.assertIs(type(error), kind, repr(error))
            for field in fields:
                self.assertIs(getattr(error, field), fields[field])
            self.assertEqual(sorted(vars(error)), sorted(fields))
        else:
            self.fail(f"{kind.__name__} was not raised")

    def check_same(self, value, wanted):
        """The value is equal to what is wanted, and of the same class: 1 is neither True nor a ratio."""
        self.assertIs(type(value), type(wanted))
        self.assertEqual(value, wanted)
