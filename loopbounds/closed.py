"""Closed forms of the numbers in a loop."""

from loopbounds.errors import InvalidNumber
from loopbounds.forms import Form
from loopbounds.kinds import is_int_within
from loopbounds.loops import check_loop, check_total, check_variable
from loopbounds.ratios import quotient, raised
from loopbounds.stepping import values_until
from loopbounds.structure import bases, long_period, zeros


def solved(equations):
    """The unknowns of linear equations: lists of the coefficients, with what they give behind them.

    The first n equations alone always determine the first n unknowns, if the others are 0.
    """
    rows = equations
    for at in range(len(equations)):
        # So what stands here is never 0, and the equations need not change places.
        pivot = [quotient(number, rows[at][at]) for number in rows[at]]
        left = [cleared(row, pivot, at) for row in rows]
        rows = [*left[:at], pivot, *left[at + 1:]]
    return [row[-1] for row in rows]


def cleared(row, pivot, at):
    """The row less a multiple of another one, so that 0 stands at an index at which the other one has 1."""
    factor = row[at]
    return [number - factor * other for number, other in zip(row, pivot)]


def kinds_of_terms(ascending_bases):
    """The pairs of a power and a base of all terms that a form with these bases may have."""
    row = list(ascending_bases)
    return [(row[:at].count(base), base) for at, base in enumerate(row)]


def form_through(ascending_bases, first, values):
    """The form with these bases that has these values, as many, from the place `first` on."""
    kinds = kinds_of_terms(ascending_bases)
    equations = []
    for t, value in enumerate(values, start=first):
        equations.append([*[raised(t, power) * raised(base, t) for power, base in kinds], value])
    coefficients = solved(equations)
    terms = [(coefficient, power, base) for coefficient, (power, base) in zip(coefficients, kinds)]
    return Form(*terms)


def coefficient_in(total, name):
    """The coefficient of a name in a sum, its constant for None."""
    if name is None:
        return total.constant
    return total.coefficient_of(name)


def closed_form(loop, total, rest, name=None):
    """The form of the coefficient of a variable, or the constant, in the value of a sum after p t + rest rounds."""
    check_loop(loop)
    check_total(loop, total)
    period = long_period(loop)
    if not is_int_within(rest, 0, period - 1):
        raise InvalidNumber(rest)
    if name is not None:
        check_variable(loop, name)
    row = bases(loop)
    first = zeros(loop)
    values = values_until(loop, total, period * (first + len(row) - 1) + rest)
    wanted = [coefficient_in(value, name) for value in values[period * first + rest::period]]
    return form_through(row, first, wanted)
