"""loopbounds.ratios: point 8 and the section on ratios, with points 3 to 7 for them."""

import itertools
import operator
import re
from fractions import Fraction
from math import gcd

from loopbounds.errors import InvalidNumber, InvalidRatio, InvalidText, ZeroDivisor
from loopbounds.ratios import Ratio, quotient
from loopbounds.sums import Sum
from tests.helping import LONG, NO_NUMBERS, ODD_VALUES, Checks, nested, ratio

INTEGERS = (0, 1, -1, 2, -2, 3, 7, -10, 36, LONG, -LONG * 6)
FRACTIONS = tuple(
    Fraction(top, bottom)
    for top, bottom in (
        (0, 1), (1, 1), (-1, 1), (6, 1), (1, 2), (-1, 2), (7, 2), (-7, 3), (2, 3), (-5, 6), (9, 10), (-35, 36),
        (LONG, 10 ** 49 + 9), (-(10 ** 50) - 1, LONG), (7, LONG * 3), (LONG * 2, 1),
    )
)
REMAINDER_SIGNS = ((7, 2), (-7, 2), (7, -2), (-7, -2), (6, 2), (-6, 2), (6, -2), (-6, -2), (0, 3), (0, -3))


class MakingTest(Checks):
    def check_ratio(self, value, fraction):
        self.assertIs(type(value), Ratio)
        self.check_same(value.top, fraction.numerator)
        self.check_same(value.bottom, fraction.denominator)

    def test_lowest_terms(self):
        for top in list(range(-30, 31)) + [LONG, -LONG * 30]:
            for bottom in list(range(1, 31)) + [LONG, LONG * 42]:
                self.check_ratio(Ratio(top, bottom), Fraction(top, bottom))

    def test_bottom_left_out_and_names(self):
        self.check_ratio(Ratio(5), Fraction(5))
        self.check_ratio(Ratio(top=-5), Fraction(-5))
        self.check_ratio(Ratio(bottom=4, top=6), Fraction(3, 2))
        self.check_ratio(Ratio(6, bottom=4), Fraction(3, 2))

    def test_long_numbers(self):
        top, bottom = 3 ** 4190, 10 ** 1999
        self.check_ratio(Ratio(top, bottom), Fraction(top, bottom))

    def test_wrong_top(self):
        for value in NO_NUMBERS + (Ratio(1), Ratio(1, 2), Sum(1), nested(70)):
            self.check_error(InvalidNumber, {"number": value}, Ratio, value)
            self.check_error(InvalidNumber, {"number": value}, Ratio, value, 2)
            self.check_error(InvalidNumber, {"number": value}, Ratio, top=value)

    def test_wrong_bottom(self):
        for value in NO_NUMBERS + (0, -1, -LONG, Ratio(1), Sum(1), nested(70)):
            self.check_error(InvalidNumber, {"number": value}, Ratio, 3, value)
            self.check_error(InvalidNumber, {"number": value}, Ratio, bottom=value, top=3)

    def test_top_before_bottom(self):
        for top, bottom in itertools.product(NO_NUMBERS, NO_NUMBERS + (0, -1)):
            self.check_error(InvalidNumber, {"number": top}, Ratio, top, bottom)
            self.check_error(InvalidNumber, {"number": top}, Ratio, bottom=bottom, top=top)

    def test_nothing_changes_a_ratio(self):
        value = Ratio(7, 2)
        for name in ("top", "bottom"):
            with self.assertRaises(AttributeError):
                setattr(value, name, 3)
        self.check_ratio(value, Fraction(7, 2))


class QuotientTest(Checks):
    def test_values(self):
        for one, two in itertools.product(FRACTIONS, FRACTIONS):
            if two:
                value = quotient(ratio(one), ratio(two))
                self.assertIs(type(value), Ratio)
                self.assertEqual((value.top, value.bottom), (one / two).as_integer_ratio())

    def test_integers(self):
        for one, two in itertools.product(INTEGERS, INTEGERS):
            if two:
                wanted = Fraction(one, two).as_integer_ratio()
                for left, right in itertools.product((one, Ratio(one)), (two, Ratio(two))):
                    value = quotient(left, right)
                    self.assertIs(type(value), Ratio)
                    self.assertEqual((value.top, value.bottom), wanted)
                    value = quotient(two=right, one=left)
                    self.assertEqual((value.top, value.bottom), wanted)

    def test_wrong_kinds(self):
        for value in NO_NUMBERS + (Sum(1), nested(70)):
            self.check_error(InvalidRatio, {"value": value}, quotient, value, 1)
            self.check_error(InvalidRatio, {"value": value}, quotient, Ratio(1, 2), value)
            self.check_error(InvalidRatio, {"value": value}, quotient, two=value, one=0)

    def test_division_by_0(self):
        for one in (0, 1, -LONG, Ratio(0), Ratio(1, 2)):
            for two in (0, Ratio(0)):
                self.check_error(ZeroDivisor, {}, quotient, one, two)
                self.check_error(ZeroDivisor, {}, quotient, two=two, one=one)

    def test_order_of_errors(self):
        for one, two in itertools.product(NO_NUMBERS, NO_NUMBERS + (0, Ratio(0))):
            self.check_error(InvalidRatio, {"value": one}, quotient, one, two)
            self.check_error(InvalidRatio, {"value": one}, quotient, two=two, one=one)
        # False is not 0: as a divisor it is no number at all.
        self.check_error(InvalidRatio, {"value": False}, quotient, 1, False)


class ReckoningTest(Checks):
    def check_number(self, value, wanted):
        self.assertIs(type(value), Ratio)
        self.assertEqual((value.top, value.bottom), (wanted.numerator, wanted.denominator))

    def pairs(self):
        """Ratio and ratio, ratio and integer, integer and ratio, each beside the fractions for them."""
        for one, two in itertools.product(FRACTIONS, FRACTIONS):
            yield ratio(one), ratio(two), one, two
        for one, two in itertools.product(FRACTIONS, INTEGERS):
            yield ratio(one), two, one, Fraction(two)
            yield two, ratio(one), Fraction(two), one

    def test_sums_differences_products(self):
        for left, right, one, two in self.pairs():
            self.check_number(left + right, one + two)
            self.check_number(left - right, one - two)
            self.check_number(left * right, one * two)

    def test_floors_and_remainders(self):
        for left, right, one, two in self.pairs():
            if two:
                self.check_same(left // right, one // two)
                self.check_number(left % right, one % two)
                self.assertTrue(left // right * right <= left if two > 0 else left // right * right >= left)

    def test_signs_of_remainders(self):
        for top, divisor in REMAINDER_SIGNS:
            for bottom in (1, 3, 4):
                for left, right in (
                    (Ratio(top, bottom), divisor), (Ratio(top), Ratio(divisor, bottom)),
                    (top, Ratio(divisor, bottom)), (Ratio(top, bottom), Ratio(divisor, bottom)),
                ):
                    one, two = (
                        Fraction(part.top, part.bottom) if isinstance(part, Ratio) else Fraction(part)
                        for part in (left, right)
                    )
                    self.check_same(left // right, one // two)
                    self.check_number(left % right, one % two)
        self.check_same(Ratio(-7, 2) // 2, -2)
        self.check_number(Ratio(-7, 2) % 2, Fraction(1, 2))
        self.check_same(Ratio(7, 2) // -2, -2)
        self.check_number(Ratio(7, 2) % -2, Fraction(-1, 2))
        self.check_same(-7 // Ratio(3, 2), -5)
        self.check_number(-7 % Ratio(3, 2), Fraction(1, 2))

    def test_floors_and_remainders_by_0(self):
        for left, right in ((Ratio(1, 2), 0), (Ratio(1, 2), Ratio(0)), (3, Ratio(0)), (0, Ratio(0)), (Ratio(0), 0)):
            self.check_error(ZeroDivisor, {}, operator.floordiv, left, right)
            self.check_error(ZeroDivisor, {}, operator.mod, left, right)

    def test_signs(self):
        for fraction in FRACTIONS:
            self.check_number(-ratio(fraction), -fraction)
            self.check_number(abs(ratio(fraction)), abs(fraction))

    def test_powers(self):
        for fraction in FRACTIONS:
            for power in (0, 1, 2, 3, 10, 63, 64):
                self.check_number(ratio(fraction) ** power, fraction ** power)
        self.check_number(Ratio(0) ** 0, Fraction(1))

    def test_wrong_powers(self):
        for power in (65, -1, 66, -64, LONG, -LONG):
            for value in (Ratio(0), Ratio(1), Ratio(-7, 2)):
                self.check_error(InvalidNumber, {"number": power}, operator.pow, value, power)
        for power in NO_NUMBERS + (Ratio(2), Sum(2)):
            self.check_error(TypeError, {}, operator.pow, Ratio(3, 2), power)
        for value in (2, "x", None, True, Sum(x=1)):
            self.check_error(TypeError, {}, operator.pow, value, Ratio(2))

    def test_other_operands(self):
        signs = (operator.add, operator.sub, operator.mul, operator.floordiv, operator.mod)
        for sign, value in itertools.product(signs, NO_NUMBERS):
            for own in (Ratio(0), Ratio(3, 2)):
                self.check_error(TypeError, {}, sign, own, value)
                self.check_error(TypeError, {}, sign, value, own)
        for sign in (operator.floordiv, operator.mod):
            self.check_error(TypeError, {}, sign, Ratio(1), Sum(1))
            self.check_error(TypeError, {}, sign, Sum(1), Ratio(1))

    def test_operands_stay_as_they_are(self):
        signs = (
            operator.add, operator.sub, operator.mul, operator.floordiv, operator.mod, operator.lt, operator.le,
            operator.gt, operator.ge, operator.eq, operator.ne, operator.iadd, operator.isub, operator.imul,
            operator.ifloordiv, operator.imod,
        )
        one, two = Ratio(-7, 2), Ratio(5, 3)
        for sign in signs:
            sign(one, two)
            sign(two, one)
            sign(one, 4)
            sign(4, one)
        for value in (-one, abs(one), one ** 3, str(one), repr(one), bool(one), quotient(one, two)):
            self.assertIsNot(value, one)
        self.assertEqual((one.top, one.bottom, two.top, two.bottom), (-7, 2, 5, 3))


class ComparingTest(Checks):
    def test_by_value(self):
        signs = (operator.lt, operator.le, operator.gt, operator.ge, operator.eq, operator.ne)
        numbers = [(ratio(fraction), fraction) for fraction in FRACTIONS]
        integers = [(integer, Fraction(integer)) for integer in INTEGERS]
        for (left, one), (right, two) in itertools.product(numbers, numbers + integers):
            for sign in signs:
                self.check_same(sign(left, right), sign(one, two))
                self.check_same(sign(right, left), sign(two, one))

    def test_equal_in_other_terms(self):
        self.check_same(Ratio(7, 2) == Ratio(14, 4), True)
        self.check_same(Ratio(7, 2) != Ratio(14, 4), False)
        self.check_same(Ratio(0, 5) == 0, True)
        self.check_same(3 == Ratio(6, 2), True)
        self.check_same(Ratio(7, 2) == Ratio(7, 3), False)
        self.check_same(Ratio(7, 2) == 7, False)

    def test_equality_with_other_values(self):
        others = NO_NUMBERS + ("0", "1", (1, 1), (0,), Sum(0), Sum(1), nested(70))
        for value, own in itertools.product(others, (Ratio(0), Ratio(1), Ratio(1, 2))):
            self.check_same(own == value, False)
            self.check_same(value == own, False)
            self.check_same(own != value, True)
            self.check_same(value != own, True)

    def test_order_with_other_values(self):
        others = NO_NUMBERS + ("0", (1, 1), Sum(1), nested(70))
        signs = (operator.lt, operator.le, operator.gt, operator.ge)
        for value, own, sign in itertools.product(others, (Ratio(0), Ratio(1)), signs):
            self.check_error(TypeError, {}, sign, own, value)
            self.check_error(TypeError, {}, sign, value, own)

    def test_inside_tuples(self):
        self.assertEqual((Ratio(1), 2), (1, Ratio(2)))
        self.assertNotEqual((Ratio(1),), (True,))

    def test_truth(self):
        for fraction in FRACTIONS:
            self.check_same(bool(ratio(fraction)), bool(fraction))
        self.check_same(bool(Ratio(0, 7)), False)


def is_ratio_text(text):
    """Whether a text is that of a ratio, told in another way than the program does."""
    found = re.fullmatch("(0|-?[1-9][0-9]*)(?:/([1-9][0-9]*))?", text)
    if not found:
        return False
    return found[2] is None or (int(found[2]) > 1 and gcd(int(found[1]), int(found[2])) == 1)


class TextTest(Checks):
    def test_str_and_repr(self):
        for top, bottom, text in (
            (0, 1, "0"), (0, 9, "0"), (1, 1, "1"), (-1, 1, "-1"), (6, 4, "3/2"), (-6, 4, "-3/2"), (10, 5, "2"),
            (-1, 100, "-1/100"), (LONG, 1, str(LONG)), (1, LONG, f"1/{LONG}"),
        ):
            value = Ratio(top, bottom)
            self.check_same(str(value), text)
            self.check_same(repr(value), f"Ratio({value.top}, {value.bottom})")
        self.assertEqual(repr(Ratio(-6, 4)), "Ratio(-3, 2)")

    def test_there_and_back(self):
        for fraction in FRACTIONS:
            value = Ratio.read(str(ratio(fraction)))
            self.assertIs(type(value), Ratio)
            self.assertEqual((value.top, value.bottom), (fraction.numerator, fraction.denominator))
        self.assertEqual(Ratio.read(text="-7/2"), Ratio(-7, 2))
        self.assertEqual(Ratio(5).read("1/3"), Ratio(1, 3))
        self.assertEqual(Ratio.read("9" * 2000).top, 10 ** 2000 - 1)
        self.assertEqual(Ratio.read("-1/" + "9" * 2000).bottom, 10 ** 2000 - 1)

    def test_all_short_texts(self):
        many = 0
        for length in range(6):
            for letters in itertools.product("-+/ 0126", repeat=length):
                text = "".join(letters)
                if is_ratio_text(text):
                    self.assertEqual(str(Ratio.read(text)), text)
                    many += 1
                else:
                    self.check_error(InvalidText, {"text": text}, Ratio.read, text)
        self.assertGreater(many, 500)

    def test_nearly_right_texts(self):
        for text in (
            "", "-", "--1", "-0", "+1", "+0", "01", "-01", "00", "1/0", "1/1", "0/1", "0/2", "1/-2", "-1/-2", "1/+2",
            "2/4", "-6/3", "1/02", "1/2/3", "1//2", "/2", "1/", "/", " 1", "1 ", "1 /2", "1/ 2", "1\n", "\n1", "1_0",
            "1.0", "1e3", "0x1", "one", "1 x", "(1)", "True", "None", "- 1", "1-", "1/2-", str(LONG) + "/" + str(LONG),
            "0" * 2000, "1/" + "0" * 2000, "\u0661", "\u00b2", "1/\u0662",
        ):
            self.check_error(InvalidText, {"text": text}, Ratio.read, text)
            self.check_error(InvalidText, {"text": text}, Ratio.read, text=text)

    def test_values_that_are_no_texts(self):
        no_texts = tuple(value for value in ODD_VALUES if not isinstance(value, str))
        for value in no_texts + (1, Ratio(1), Sum(1), b"1", ["1"], ("1",), nested(70)):
            self.check_error(InvalidText, {"text": value}, Ratio.read, value)
            self.check_error(InvalidText, {"text": value}, Ratio.read, text=value)


class DefinedTest(Checks):
    def test_each_listed_method_stands_in_the_class(self):
        for name in (
            "__init__", "read", "top", "bottom", "__add__", "__radd__", "__sub__", "__rsub__", "__mul__", "__rmul__",
            "__floordiv__", "__rfloordiv__", "__mod__", "__rmod__", "__neg__", "__abs__", "__pow__", "__lt__",
            "__le__", "__gt__", "__ge__", "__eq__", "__ne__", "__bool__", "__str__", "__repr__",
        ):
            self.assertIn(name, vars(Ratio))
        self.assertEqual((Ratio.__module__, quotient.__module__), ("loopbounds.ratios",) * 2)
