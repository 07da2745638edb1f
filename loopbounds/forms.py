"""Forms: sums of terms c t ** k b ** t, functions of the integers t from 0 on."""

from math import comb

from loopbounds.errors import InvalidNumber, InvalidValues, TooFar, TooMany
from loopbounds.kinds import is_int, is_int_within
from loopbounds.limits import BASES, ROUNDS
from loopbounds.ratios import Ratio, as_ratio, ascending, common_bottom, is_number, raised
from loopbounds.rows import is_base, signs_until_settled

MOST_POWER = 11
MOST_FACTORS = 6
MOST_SHIFT = 100


def is_term(value):
    """Whether a value is a triple of a coefficient, a power and a base."""
    if not isinstance(value, tuple) or len(value) != 3:
        return False
    coefficient, power, base = value
    return is_number(coefficient) and is_int_within(power, 0, MOST_POWER) and is_base(base)


def coefficients_of(triples):
    """The dict of the coefficients other than 0, by the powers and the tops and bottoms of the bases."""
    coefficients = {}
    for coefficient, power, base in triples:
        key = (power, base.top, base.bottom)
        coefficients[key] = coefficients.get(key, Ratio(0)) + coefficient
    return {key: coefficients[key] for key in coefficients if coefficients[key] != 0}


def terms_of(triples):
    """The terms of the sum of triples of a ratio, a power and a ratio; TooMany if they have too many bases."""
    coefficients = coefficients_of(triples)
    powers = {}
    for power, top, bottom in coefficients:
        if power > powers.get((top, bottom), -1):
            powers[(top, bottom)] = power
    found = sum([powers[pair] + 1 for pair in powers])
    if found > BASES:
        raise TooMany(found)
    terms = []
    for base in ascending([Ratio(top, bottom) for top, bottom in powers]):
        for power in range(powers[(base.top, base.bottom)] + 1):
            key = (power, base.top, base.bottom)
            if key in coefficients:
                terms.append((coefficients[key], power, base))
    return tuple(terms)


def form_of(triples):
    """The form that is the sum of triples of a ratio, a power and a ratio, however great their bases are."""
    form = Form()
    form._terms = terms_of(triples)
    return form


def is_formlike(value):
    """Whether a value may be reckoned with as a form."""
    return isinstance(value, Form) or is_number(value)


def as_form(value):
    """The form with the values of a form or a number."""
    if isinstance(value, Form):
        return value
    return Form((value, 0, 1))


def product_of(one, two):
    """The product of two forms."""
    pairs = [(left, right) for left in one.terms for right in two.terms]
    return form_of([(left[0] * right[0], left[1] + right[1], left[2] * right[2]) for left, right in pairs])


def shifted_term(term, shift):
    """The triples whose sum at t is the value of a term at t + shift."""
    coefficient, power, base = term
    factor = coefficient * raised(base, shift)
    return [(factor * (comb(power, k) * raised(shift, power - k)), k, base) for k in range(power + 1)]


def value_of(terms, t):
    """The value, a ratio, of a sum of terms at t."""
    bottom = common_bottom([coefficient for coefficient, _, _ in terms])
    step = common_bottom([base for _, _, base in terms])
    top = 0
    for coefficient, power, base in terms:
        factor = coefficient.top * (bottom // coefficient.bottom) * raised(t, power)
        top = top + factor * raised(base.top * (step // base.bottom), t)
    return Ratio(top, bottom * raised(step, t))


def signs_of(form):
    """The list of the signs of a form from 0 to the place where it settles; TooFar if that is too far."""
    bases = form.bases
    values = [value_of(form.terms, t) for t in range(len(bases))]
    signs = signs_until_settled(bases, values, ROUNDS)
    if signs is None:
        raise TooFar()
    return signs


def is_never_less(one, two):
    """Whether a form is at least another one everywhere."""
    return -1 not in signs_of(one - two)


def is_always_less(one, two):
    """Whether a form is less than another one everywhere."""
    return 1 not in signs_of(one - two)


def term_text(term):
    """The text of a term."""
    coefficient, power, base = term
    text = str(coefficient)
    if power != 0:
        text = f"{text} t^{power}"
    if base != 1:
        text = f"{text} {base}^t"
    return text


class Form:
    """A sum of terms, each with a coefficient other than 0, a power and a base."""

    def __init__(self, *terms):
        for index, term in enumerate(terms):
            if not is_term(term):
                raise InvalidValues(index)
        self._terms = terms_of([(as_ratio(number), power, as_ratio(base)) for number, power, base in terms])

    @property
    def terms(self):
        """The tuple of the triples (coefficient, power, base), ascending by bases, then by powers."""
        return self._terms

    @property
    def bases(self):
        """The ascending tuple of the bases, each as often as its greatest power and once more."""
        found = []
        for _, power, base in self._terms:
            missing = power + 1 - found.count(base)
            found.extend([base] * missing)
        return tuple(found)

    def __call__(self, t):
        if not is_int_within(t, 0, ROUNDS):
            raise InvalidNumber(t)
        return value_of(self._terms, t)

    def __add__(self, other):
        if not is_formlike(other):
            return NotImplemented
        return form_of([*self._terms, *as_form(other).terms])

    def __radd__(self, other):
        if not is_formlike(other):
            return NotImplemented
        return self + other

    def __sub__(self, other):
        if not is_formlike(other):
            return NotImplemented
        return self + (-other)

    def __rsub__(self, other):
        if not is_formlike(other):
            return NotImplemented
        return -self + other

    def __mul__(self, other):
        if not is_formlike(other):
            return NotImplemented
        return product_of(self, as_form(other))

    def __rmul__(self, other):
        if not is_formlike(other):
            return NotImplemented
        return self * other

    def __neg__(self):
        return form_of([(-coefficient, power, base) for coefficient, power, base in self._terms])

    def __pow__(self, other):
        if not is_int(other):
            return NotImplemented
        if not is_int_within(other, 0, MOST_FACTORS):
            raise InvalidNumber(other)
        product = as_form(1)
        for _ in range(other):
            product = product_of(product, self)
        return product

    def __lshift__(self, other):
        if not is_int(other):
            return NotImplemented
        if not is_int_within(other, 0, MOST_SHIFT):
            raise InvalidNumber(other)
        return form_of([triple for term in self._terms for triple in shifted_term(term, other)])

    def __le__(self, other):
        if not is_formlike(other):
            return NotImplemented
        return is_never_less(as_form(other), self)

    def __lt__(self, other):
        if not is_formlike(other):
            return NotImplemented
        return is_always_less(self, as_form(other))

    def __ge__(self, other):
        if not is_formlike(other):
            return NotImplemented
        return is_never_less(self, as_form(other))

    def __gt__(self, other):
        if not is_formlike(other):
            return NotImplemented
        return is_always_less(as_form(other), self)

    def __eq__(self, other):
        return isinstance(other, Form) and self._terms == other.terms

    def __bool__(self):
        return bool(self._terms)

    def __str__(self):
        if not self._terms:
            return "0"
        return " + ".join([term_text(term) for term in self._terms])

    def __repr__(self):
        return f"Form({len(self._terms)})"
