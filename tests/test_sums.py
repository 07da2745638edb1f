"""loopbounds.sums: point 9 and the section on sums, with points 3 to 7 for them."""

import itertools
import operator
import re
from fractions import Fraction

from loopbounds.errors import InvalidName, InvalidRatio, InvalidText, UnknownName
from loopbounds.ratios import Ratio
from loopbounds.sums import Sum
from tests.helping import LONG, NO_KEYWORDS, NO_NAMES, NO_NUMBERS, ODD_VALUES, Checks, nested
from tests.test_ratios import is_ratio_text

NAMES = ("x", "a", "z", "abcdefgh", "zzzzzzzz", "if", "in", "none", "selfs", "sel", "name", "at", "values")
NUMBERS = (0, 1, -1, 5, Ratio(1, 2), Ratio(-7, 3), Ratio(0), LONG, Ratio(-1, LONG))
SUMS = (
    Sum(), Sum(3), Sum(Ratio(-1, 2)), Sum(x=1), Sum(5, x=2, y=Ratio(-1, 3)), Sum(-5, x=-2, z=LONG),
    Sum(1, a=1, m=Ratio(2, 3), z=-1), Sum(x=-1), Sum(Ratio(1, LONG), abcdefgh=Ratio(LONG, 7)),
)


def table(value):
    """The constant and the coefficients of a sum or number, in fractions, as the tests reckon with them."""
    if isinstance(value, Sum):
        found = {name: value.coefficient_of(name) for name in value.names}
        found[None] = value.constant
    else:
        found = {None: value}
    return {name: Fraction(found[name]) if isinstance(found[name], int)
            else Fraction(found[name].top, found[name].bottom) for name in found}


def without_zeros(found):
    return {name: found[name] for name in found if name is None or found[name]}


class SumChecks(Checks):
    def check_sum(self, value, constant, coefficients):
        """The value is the sum with these ratios or integers, however it is asked."""
        self.assertIs(type(value), Sum)
        self.assertIs(type(value.constant), Ratio)
        self.assertEqual(value.constant, constant)
        self.check_same(value.names, tuple(sorted(coefficients)))
        for name in tuple(coefficients) + NAMES:
            self.assertIs(type(value.coefficient_of(name)), Ratio)
            self.assertEqual(value.coefficient_of(name), coefficients.get(name, 0))


class MakingTest(SumChecks):
    def test_constants(self):
        self.check_sum(Sum(), 0, {})
        for number in NUMBERS:
            self.check_sum(Sum(number), number, {})
            self.check_sum(Sum(the_constant=number), number, {})

    def test_coefficients(self):
        for one, two in itertools.product(NUMBERS, NUMBERS):
            wanted = {name: number for name, number in (("x", one), ("abc", two)) if number != 0}
            self.check_sum(Sum(x=one, abc=two), 0, wanted)
            self.check_sum(Sum(two, x=one, abc=two), two, wanted)
            self.check_sum(Sum(abc=two, x=one, the_constant=two), two, wanted)

    def test_names(self):
        for name in NAMES:
            self.check_sum(Sum(**{name: 2}), 0, {name: 2})
        many = {a + b: 1 for a, b in itertools.product("zyxcba", "baz")}
        self.check_sum(Sum(1, **many), 1, many)
        self.assertEqual(Sum(b=1, a=1, aa=1, z=0, ab=1).names, ("a", "aa", "ab", "b"))

    def test_wrong_constant(self):
        for value in NO_NUMBERS + (Sum(), Sum(x=1), nested(70)):
            self.check_error(InvalidRatio, {"value": value}, Sum, value)
            self.check_error(InvalidRatio, {"value": value}, Sum, the_constant=value)
            self.check_error(InvalidRatio, {"value": value}, Sum, value, x=1)

    def test_wrong_names(self):
        for name in NO_KEYWORDS:
            self.check_error(InvalidName, {"name": name}, Sum, **{name: 1})
            self.check_error(InvalidName, {"name": name}, Sum, 3, **{"x": 1, name: 1})

    def test_wrong_coefficients(self):
        for value in NO_NUMBERS + (Sum(), Sum(x=1), nested(70)):
            self.check_error(InvalidRatio, {"value": value}, Sum, x=value)
            self.check_error(InvalidRatio, {"value": value}, Sum, 1, a=2, x=value)

    def test_order_of_errors(self):
        for value in NO_NUMBERS:
            # The constant comes first, also where it is passed last and by its name.
            self.check_error(InvalidRatio, {"value": value}, Sum, value, **{"": 1})
            self.check_error(InvalidRatio, {"value": value}, Sum, **{"A": 1, "x": None, "the_constant": value})
            # Of one name InvalidName comes before InvalidRatio.
            self.check_error(InvalidName, {"name": "A"}, Sum, 1, **{"A": value})
            self.check_error(InvalidName, {"name": "x1"}, Sum, **{"y": [], "x1": value})
            # Of several names the least one comes first, with all of its errors.
            self.check_error(InvalidRatio, {"value": value}, Sum, **{"x": value, "x1": 1, "y": []})
            self.check_error(InvalidRatio, {"value": value}, Sum, **{"y": [], "x1": 1, "x": value})
            self.check_error(InvalidRatio, {"value": value}, Sum, y="later", a=value)
        self.check_error(InvalidName, {"name": "B"}, Sum, **{"a": None, "B": 1})
        self.check_error(InvalidName, {"name": "A"}, Sum, **{"B": 1, "A": 1, "_": 1})

    def test_nothing_changes_a_sum(self):
        given = {"x": 2, "a": 1}
        value = Sum(3, **given)
        given["x"] = 5
        for name in ("constant", "names"):
            with self.assertRaises(AttributeError):
                setattr(value, name, 3)
        self.assertIs(type(value.names), tuple)
        self.check_sum(value, 3, {"x": 2, "a": 1})
        self.assertEqual(given, {"x": 5, "a": 1})

    def test_true_as_a_condition(self):
        for value in SUMS:
            self.assertIs(bool(value), True)


class CoefficientTest(SumChecks):
    def test_by_name(self):
        value = Sum(7, x=2)
        self.assertEqual(value.coefficient_of(name="x"), 2)
        self.assertEqual(value.coefficient_of(name="y"), 0)

    def test_wrong_names(self):
        for name in NO_NAMES:
            self.check_error(InvalidName, {"name": name}, Sum(1, x=2).coefficient_of, name)
            self.check_error(InvalidName, {"name": name}, Sum().coefficient_of, name=name)


class AtTest(SumChecks):
    def check_value(self, value, wanted):
        self.assertIs(type(value), Ratio)
        self.assertEqual(value, wanted)

    def test_values(self):
        for one, two, value in itertools.product(NUMBERS, NUMBERS, SUMS):
            given = {"x": one, "y": two, "z": 1, "a": -1, "m": 2, "abcdefgh": one}
            wanted = value.constant
            for name in value.names:
                wanted += value.coefficient_of(name) * given[name]
            self.check_value(value.at(**given), wanted)
        self.check_value(Sum(3, x=2, y=Ratio(1, 2)).at(y=3, x=-1), Ratio(5, 2))
        self.check_value(Sum(3).at(), 3)
        self.check_value(Sum(Ratio(1, 2)).at(x=1), Ratio(1, 2))

    def test_further_values(self):
        self.check_value(Sum(1, x=2).at(a=5, x=1, z=Ratio(1, 2), values=3), 3)

    def test_wrong_values(self):
        for value in NO_NUMBERS + (Sum(), nested(70)):
            self.check_error(InvalidRatio, {"value": value}, Sum(1, x=2).at, x=value)
            self.check_error(InvalidRatio, {"value": value}, Sum(1, x=2).at, x=1, further=value)
            self.check_error(InvalidRatio, {"value": value}, Sum().at, x=value)

    def test_wrong_names(self):
        for name in NO_KEYWORDS:
            self.check_error(InvalidName, {"name": name}, Sum(1, x=2).at, **{"x": 1, name: 1})
            self.check_error(InvalidName, {"name": name}, Sum().at, **{name: 1})

    def test_missing_values(self):
        value = Sum(1, x=2, b=1, y=3, a=0)
        for given, least in (((), "b"), (("b",), "x"), (("y", "x"), "b"), (("b", "x"), "y"), (("b", "y"), "x")):
            try:
                value.at(**{name: 1 for name in given})
            except UnknownName as error:
                self.assertEqual(vars(error), {"name": least})
            else:
                self.fail("UnknownName was not raised")
        self.check_value(value.at(b=1, x=1, y=1), 7)

    def test_order_of_errors(self):
        value = Sum(1, b=2, x=1)
        for wrong in NO_NUMBERS:
            # All values are looked at before a missing one, which is told last.
            self.check_error(InvalidRatio, {"value": wrong}, value.at, z=wrong)
            self.check_error(InvalidRatio, {"value": wrong}, value.at, x=wrong)
            self.check_error(InvalidName, {"name": "Z"}, value.at, **{"Z": wrong})
            self.check_error(InvalidName, {"name": "x1"}, value.at, **{"y": wrong, "x1": 1})
            self.check_error(InvalidRatio, {"value": wrong}, value.at, **{"y": [], "x1": 1, "x": wrong})
            self.check_error(InvalidRatio, {"value": wrong}, value.at, z=[], a=wrong, y={})


class ReckoningTest(SumChecks):
    def check_table(self, value, wanted):
        self.assertIs(type(value), Sum)
        self.assertEqual(table(value), without_zeros(wanted))
        self.check_same(value.names, tuple(sorted(name for name in without_zeros(wanted) if name is not None)))

    def test_sums_and_differences(self):
        pairs = list(itertools.product(SUMS, SUMS + NUMBERS)) + list(itertools.product(NUMBERS, SUMS))
        for left, right in pairs:
            one, two = table(left), table(right)
            named = list(one) + list(two)
            self.check_table(left + right, {name: one.get(name, 0) + two.get(name, 0) for name in named})
            self.check_table(left - right, {name: one.get(name, 0) - two.get(name, 0) for name in named})

    def test_multiples(self):
        for value, number in itertools.product(SUMS, NUMBERS):
            factor = table(number)[None]
            wanted = {name: part * factor for name, part in table(value).items()}
            self.check_table(value * number, wanted)
            self.check_table(number * value, wanted)
            self.check_table(-value, {name: -part for name, part in table(value).items()})

    def test_other_operands(self):
        for sign, wrong in itertools.product((operator.add, operator.sub, operator.mul), NO_NUMBERS):
            for value in (Sum(), Sum(1, x=2)):
                self.check_error(TypeError, {}, sign, value, wrong)
                self.check_error(TypeError, {}, sign, wrong, value)
        for one, two in itertools.product((Sum(), Sum(2), Sum(1, x=2)), repeat=2):
            self.check_error(TypeError, {}, operator.mul, one, two)

    def test_operators_that_are_not_there(self):
        signs = (
            operator.floordiv, operator.truediv, operator.mod, operator.pow, operator.lt, operator.le, operator.gt,
            operator.ge,
        )
        for sign, other in itertools.product(signs, (2, Ratio(2), Sum(2))):
            self.check_error(TypeError, {}, sign, Sum(4), other)
            self.check_error(TypeError, {}, sign, other, Sum(4))
        for sign in (operator.pos, operator.invert, operator.abs):
            self.check_error(TypeError, {}, sign, Sum(4))

    def test_operands_stay_as_they_are(self):
        one, two, number = Sum(3, x=1, y=2), Sum(Ratio(1, 2), y=-2, z=4), Ratio(5, 3)
        for sign in (operator.add, operator.sub, operator.iadd, operator.isub, operator.eq, operator.ne):
            for left, right in itertools.permutations((one, two, number, 4), 2):
                sign(left, right)
        for sign in (operator.mul, operator.imul):
            for left, right in ((one, number), (number, one), (one, 0), (4, two)):
                sign(left, right)
        for value in (-one, str(one), repr(one), one.at(x=1, y=1), bool(one)):
            self.assertIsNot(value, one)
        self.check_sum(one, 3, {"x": 1, "y": 2})
        self.check_sum(two, Ratio(1, 2), {"y": -2, "z": 4})
        self.assertEqual((number.top, number.bottom), (5, 3))


class EqualityTest(SumChecks):
    def test_equal_sums(self):
        for one, two in itertools.product(SUMS, SUMS):
            self.check_same(one == two, table(one) == table(two))
            self.check_same(one != two, table(one) != table(two))
        self.check_same(Sum(2, x=1, y=2) == Sum(Ratio(4, 2), y=Ratio(2), x=1, z=0), True)
        self.check_same(Sum(2, x=1) != Sum(2, x=Ratio(3, 3)), False)
        self.check_same(Sum(2, x=1) == Sum(2, y=1), False)
        self.check_same(Sum(2, x=1) == Sum(1, x=1), False)
        self.check_same(Sum(2, x=1) == Sum(2, x=1, y=1), False)

    def test_other_values(self):
        for value in ODD_VALUES + (0, 3, Ratio(0), Ratio(3), "3", "0", (3, ())):
            for own in (Sum(), Sum(3), Sum(x=1)):
                self.check_same(own == value, False)
                self.check_same(value == own, False)
                self.check_same(own != value, True)
                self.check_same(value != own, True)


def is_sum_text(text):
    """Whether a text is that of a sum, told in another way than the program does."""
    *terms, last = text.split(" + ")
    if is_ratio_text(last):
        if last == "0":
            return not terms
    else:
        terms = terms + [last]
    names = []
    for term in terms:
        found = re.fullmatch("([^ ]*) ([a-z]{1,8})", term)
        if not found or not is_ratio_text(found[1]) or found[1] == "0" or found[2] == "self":
            return False
        names.append(found[2])
    return names == sorted(set(names))


class TextTest(SumChecks):
    def test_str_and_repr(self):
        for value, text, names in (
            (Sum(), "0", 0), (Sum(5), "5", 0), (Sum(Ratio(-1, 2)), "-1/2", 0), (Sum(x=1), "1 x", 1),
            (Sum(0, x=-1), "-1 x", 1), (Sum(-4, y=Ratio(1, 2), x=3), "3 x + 1/2 y + -4", 2), (Sum(x=0), "0", 0),
            (Sum(1, z=0, a=1, aa=2, b=-3), "1 a + 2 aa + -3 b + 1", 3), (Sum(LONG, x=-LONG), f"-{LONG} x + {LONG}", 1),
        ):
            self.check_same(str(value), text)
            self.check_same(repr(value), f"Sum({names})")

    def test_there_and_back(self):
        for value in SUMS:
            self.assertEqual(Sum.read(str(value)), value)
            self.assertEqual(str(Sum.read(str(value))), str(value))
        for constant, one, two in itertools.product(NUMBERS, repeat=3):
            value = Sum(constant, x=one, ab=two)
            again = Sum.read(text=str(value))
            self.check_sum(again, constant, {n: c for n, c in (("x", one), ("ab", two)) if c != 0})
            self.assertEqual(again, value)
        many = Sum(1, **{a + b: Ratio(-1, 7) for a, b in itertools.product("abcdefg", repeat=2)})
        self.assertEqual(Sum(2).read(str(many)), many)

    def test_all_short_texts(self):
        parts = ("1", "0", "-2", "1/2", "2/4", "+", "-", " ", " + ", " a", " b", "c", " self", "A")
        many = 0
        for length in range(5):
            for chosen in itertools.product(parts, repeat=length):
                text = "".join(chosen)
                if is_sum_text(text):
                    self.assertEqual(str(Sum.read(text)), text)
                    many += 1
                else:
                    self.check_error(InvalidText, {"text": text}, Sum.read, text)
        self.assertGreater(many, 100)

    def test_nearly_right_texts(self):
        for text in (
            "", " ", "+", " + ", "x", "-x", "- x", "+1 x", "+ 1 x", "1 x +", "1 x + ", " + 1 x", "1 x - 1", "1 x + +1",
            "1 x ++ 1", "1 x + + 1", "--1 x", "- 1 x", "01 x", "-0 x", "0 x", "0/1 x", "1 x + 0", "1 x + -0", "0 + 1",
            "1 + 2", "1 + 1 x", "1 y + 1 x", "1 x + 1 x", "1 x + 2 x + 1", "1 x + 1 z + 1 y", "1x", "1*x", "1 * x",
            "1  x", "1 x  + 1", "1 x +  1", " 1 x", "1 x ", "1 x\n", "1 x\n+ 1", "1 x + 1\n", "1 x+1", "1 x +1",
            "1 x+ 1", "2/4 x", "1/0 x", "1/1 x", "2/1 x + 1", "1 x + 2/4", "1 x + 1/1", "1 X", "1 x1", "1 self",
            "1 abcdefghi", "1 x y", "1 1 x", "1 x 1", "1 x + 1 + 1", "1 x + 0 y", "x 1", "1 x + y", "1.5 x", "-0", "00",
            "0 x + 0", "1 b + 1 ab + 1 a", "1 x,1 y", "0" * 2000 + " x",
        ):
            self.check_error(InvalidText, {"text": text}, Sum.read, text)
            self.check_error(InvalidText, {"text": text}, Sum.read, text=text)

    def test_values_that_are_no_texts(self):
        no_texts = tuple(value for value in ODD_VALUES if not isinstance(value, str))
        for value in no_texts + (1, Ratio(1), Sum(1), b"1 x", ["1 x"], ("1 x",), nested(70)):
            self.check_error(InvalidText, {"text": value}, Sum.read, value)
            self.check_error(InvalidText, {"text": value}, Sum.read, text=value)


class DefinedTest(Checks):
    def test_each_listed_method_stands_in_the_class(self):
        for name in (
            "__init__", "read", "constant", "names", "coefficient_of", "at", "__add__", "__radd__", "__sub__",
            "__rsub__", "__mul__", "__rmul__", "__neg__", "__eq__", "__str__", "__repr__",
        ):
            self.assertIn(name, vars(Sum))
        self.assertEqual(Sum.__module__, "loopbounds.sums")
