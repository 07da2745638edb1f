"""Sums: a constant and coefficients times the numbers with some names, and their texts."""

from loopbounds.errors import InvalidName, InvalidRatio, InvalidText, UnknownName
from loopbounds.kinds import is_name
from loopbounds.ratios import Ratio, as_ratio, is_number, ratio_told


def is_total(value):
    """Whether a value may stand where a sum is asked for: a sum, or a number for the sum with this constant."""
    return isinstance(value, Sum) or is_number(value)


def as_sum(total):
    """The sum that is told by a sum or a number."""
    if isinstance(total, Sum):
        return total
    return Sum(total)


def check_numbers(given):
    """Raise the error of the least name that is not a name or does not have a number, if there is one."""
    for name in sorted(given, key=str):
        if not is_name(name):
            raise InvalidName(name)
        if not is_number(given[name]):
            raise InvalidRatio(given[name])


def coefficients_told(terms):
    """The dict of the coefficients that texts like 2 x write, None if they are not written as str does."""
    coefficients = {}
    before = ""
    for term in terms:
        word, _, name = term.partition(" ")
        coefficient = ratio_told(word)
        if coefficient is None or coefficient == 0 or not is_name(name) or name <= before:
            return None
        coefficients[name] = coefficient
        before = name
    return coefficients


def sum_told(text):
    """The sum with a text, None for any value that is not the text of a sum."""
    if not isinstance(text, str):
        return None
    terms = text.split(" + ")
    constant = ratio_told(terms[-1])
    if constant is None:
        constant = 0
    elif constant == 0 and len(terms) > 1:
        return None
    else:
        terms = terms[:-1]
    coefficients = coefficients_told(terms)
    if coefficients is None:
        return None
    return Sum(constant, **coefficients)


class Sum:
    """A constant and, for some names, a coefficient times the number with this name."""

    def __init__(self, the_constant=0, **coefficients):
        if not is_number(the_constant):
            raise InvalidRatio(the_constant)
        check_numbers(coefficients)
        self._constant = as_ratio(the_constant)
        # Ascending names, without the coefficients 0, so that equal sums are kept and written in one way.
        named = [name for name in sorted(coefficients, key=str) if coefficients[name] != 0]
        self._coefficients = {name: as_ratio(coefficients[name]) for name in named}

    @classmethod
    def read(cls, text):
        """The sum with a text, written as str does."""
        total = sum_told(text)
        if total is None:
            raise InvalidText(text)
        return total

    @property
    def constant(self):
        """The constant, a ratio."""
        return self._constant

    @property
    def names(self):
        """The ascending tuple of the names whose coefficient is not 0."""
        return tuple(self._coefficients)

    def coefficient_of(self, name):
        """The coefficient of a name, a ratio, 0 for names that are not in the sum."""
        if not is_name(name):
            raise InvalidName(name)
        return self._coefficients.get(name, Ratio(0))

    def at(self, **values):
        """The value of the sum, a ratio, for these numbers in the place of its names."""
        check_numbers(values)
        worth = self._constant
        for name, coefficient in self._coefficients.items():
            if name not in values:
                raise UnknownName(name)
            worth = worth + coefficient * values[name]
        return worth

    def __add__(self, other):
        if not is_total(other):
            return NotImplemented
        right = as_sum(other)
        constant = self._constant + right.constant
        named = self.names + right.names
        coefficients = {name: self.coefficient_of(name) + right.coefficient_of(name) for name in named}
        return Sum(constant, **coefficients)

    def __radd__(self, other):
        if not is_total(other):
            return NotImplemented
        return self + other

    def __sub__(self, other):
        if not is_total(other):
            return NotImplemented
        return self + (-other)

    def __rsub__(self, other):
        if not is_total(other):
            return NotImplemented
        return -self + other

    def __mul__(self, other):
        if not is_number(other):
            return NotImplemented
        constant = self._constant * other
        coefficients = {name: self._coefficients[name] * other for name in self._coefficients}
        return Sum(constant, **coefficients)

    def __rmul__(self, other):
        if not is_number(other):
            return NotImplemented
        return self * other

    def __neg__(self):
        return self * -1

    def __eq__(self, other):
        return isinstance(other, Sum) and self._constant == other.constant and self._coefficients == other._coefficients

    def __str__(self):
        terms = [f"{coefficient} {name}" for name, coefficient in self._coefficients.items()]
        if self._constant != 0 or not terms:
            terms.append(str(self._constant))
        return " + ".join(terms)

    def __repr__(self):
        return f"Sum({len(self._coefficients)})"
