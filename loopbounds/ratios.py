"""Ratios: exact fractions, and their texts."""

from math import gcd, lcm

from loopbounds.errors import InvalidNumber, InvalidRatio, InvalidText, ZeroDivisor
from loopbounds.kinds import is_int

MOST_FACTORS = 64


def is_number(value):
    """Whether a value is a number, that is a ratio or an integer."""
    return isinstance(value, Ratio) or is_int(value)


def as_ratio(number):
    """The ratio with the value of a number."""
    if isinstance(number, Ratio):
        return number
    return Ratio(number)


def quotient(one, two):
    """The ratio one / two of two numbers."""
    if not is_number(one):
        raise InvalidRatio(one)
    if not is_number(two):
        raise InvalidRatio(two)
    if two == 0:
        raise ZeroDivisor()
    upper = as_ratio(one)
    lower = as_ratio(two)
    top = upper.top * lower.bottom
    bottom = upper.bottom * lower.top
    # The bottom of a ratio is greater than 0, so the sign belongs to the top.
    if bottom < 0:
        return Ratio(-top, -bottom)
    return Ratio(top, bottom)


def raised(number, exponent):
    """The product of so many of the same number."""
    product = 1
    factor = number
    left = exponent
    while left > 0:
        if left % 2 == 1:
            product = product * factor
        factor = factor * factor
        left = left // 2
    return product


def common_bottom(ratios):
    """The least number of which the bottoms of all these ratios are divisors."""
    bottom = 1
    for ratio in ratios:
        bottom = lcm(bottom, ratio.bottom)
    return bottom


def ascending(ratios):
    """The list of these ratios in ascending order, with equal ones one after the other."""
    row = []
    for ratio in ratios:
        at = len(row)
        while at > 0 and row[at - 1] > ratio:
            at = at - 1
        row.insert(at, ratio)
    return row


def integer_told(text):
    """The integer that a text writes without needless signs and zeros, None if it does not."""
    digits = text.removeprefix("-")
    # Python takes more for digits than 0 to 9, but nothing more that is ASCII.
    if not digits.isascii() or not digits.isdigit():
        return None
    if digits.startswith("0") and text != "0":
        return None
    return int(text)


def ratio_told(text):
    """The ratio with a text, None for any value that is not the text of a ratio."""
    if not isinstance(text, str):
        return None
    upper, slash, lower = text.partition("/")
    top = integer_told(upper)
    bottom = integer_told(lower) if slash else 1
    if top is None or bottom is None:
        return None
    # Behind a slash, each ratio has one text alone: in lowest terms, and without a bottom 1.
    if slash and (bottom < 2 or gcd(top, bottom) > 1):
        return None
    return Ratio(top, bottom)


class Ratio:
    """An exact fraction in lowest terms, with a bottom from 1 on."""

    def __init__(self, top, bottom=1):
        if not is_int(top):
            raise InvalidNumber(top)
        if not is_int(bottom) or bottom < 1:
            raise InvalidNumber(bottom)
        common = gcd(top, bottom)
        self._top = top // common
        self._bottom = bottom // common

    @classmethod
    def read(cls, text):
        """The ratio with a text, written as str does."""
        ratio = ratio_told(text)
        if ratio is None:
            raise InvalidText(text)
        return ratio

    @property
    def top(self):
        """The top in lowest terms; it has the sign of the ratio."""
        return self._top

    @property
    def bottom(self):
        """The bottom in lowest terms, 1 or greater."""
        return self._bottom

    def __add__(self, other):
        if not is_number(other):
            return NotImplemented
        right = as_ratio(other)
        return Ratio(self._top * right.bottom + right.top * self._bottom, self._bottom * right.bottom)

    def __radd__(self, other):
        if not is_number(other):
            return NotImplemented
        return self + other

    def __sub__(self, other):
        if not is_number(other):
            return NotImplemented
        return self + (-other)

    def __rsub__(self, other):
        if not is_number(other):
            return NotImplemented
        return -self + other

    def __mul__(self, other):
        if not is_number(other):
            return NotImplemented
        right = as_ratio(other)
        return Ratio(self._top * right.top, self._bottom * right.bottom)

    def __rmul__(self, other):
        if not is_number(other):
            return NotImplemented
        return self * other

    def __floordiv__(self, other):
        if not is_number(other):
            return NotImplemented
        right = as_ratio(other)
        if right.top == 0:
            raise ZeroDivisor()
        return (self._top * right.bottom) // (self._bottom * right.top)

    def __rfloordiv__(self, other):
        if not is_number(other):
            return NotImplemented
        return as_ratio(other) // self

    def __mod__(self, other):
        if not is_number(other):
            return NotImplemented
        return self - other * (self // other)

    def __rmod__(self, other):
        if not is_number(other):
            return NotImplemented
        return as_ratio(other) - self * (other // self)

    def __pow__(self, other):
        if not is_int(other):
            return NotImplemented
        if other < 0 or other > MOST_FACTORS:
            raise InvalidNumber(other)
        return Ratio(raised(self._top, other), raised(self._bottom, other))

    def __neg__(self):
        return Ratio(-self._top, self._bottom)

    def __abs__(self):
        return Ratio(abs(self._top), self._bottom)

    def __eq__(self, other):
        if isinstance(other, Ratio):
            return self._top == other.top and self._bottom == other.bottom
        return is_int(other) and self._bottom == 1 and self._top == other

    def __ne__(self, other):
        return not self == other

    def _excess(self, number):
        """A positive multiple of self - number, of which only the sign is of use."""
        right = as_ratio(number)
        return self._top * right.bottom - right.top * self._bottom

    def __lt__(self, other):
        if not is_number(other):
            return NotImplemented
        return self._excess(other) < 0

    def __le__(self, other):
        if not is_number(other):
            return NotImplemented
        return self._excess(other) <= 0

    def __gt__(self, other):
        if not is_number(other):
            return NotImplemented
        return self._excess(other) > 0

    def __ge__(self, other):
        if not is_number(other):
            return NotImplemented
        return self._excess(other) >= 0

    def __bool__(self):
        return bool(self._top)

    def __str__(self):
        if self._bottom == 1:
            return str(self._top)
        return f"{self._top}/{self._bottom}"

    def __repr__(self):
        return f"Ratio({self._top}, {self._bottom})"
