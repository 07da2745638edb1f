"""The rounds of a loop, one after the other, for numbers that are kept with a common bottom."""

from math import lcm

from loopbounds.ratios import Ratio
from loopbounds.sums import Sum, as_sum

# A row of numbers is a pair: a common bottom, not always the least one, and the list of the tops above it. A state
# is a dict of the rows of all variables, and of the constant 1 under None. Integers are much faster than ratios here.


def parts_of(total):
    """The list of the pairs (name, coefficient) of a sum or number, with None for the name of the constant."""
    plain = as_sum(total)
    return [(None, plain.constant), *[(name, plain.coefficient_of(name)) for name in plain.names]]


def plan_of(loop):
    """The assignments of a loop, with the parts of their sums."""
    return [(name, parts_of(total), every, at) for name, total, every, at in loop.body]


def mixed(parts, state):
    """The row of numbers that a sum with these parts has in a state."""
    bottom = 1
    for name, number in parts:
        bottom = lcm(bottom, number.bottom * state[name][0])
    tops = [0 for _ in state[None][1]]
    for name, number in parts:
        lower, uppers = state[name]
        factor = number.top * (bottom // (number.bottom * lower))
        tops = [top + factor * upper for top, upper in zip(tops, uppers)]
    return (bottom, tops)


def next_state(plan, state, n):
    """The state behind the round n, told by the one ahead of it."""
    behind = dict(state)
    for name, parts, every, at in plan:
        if n % every == at:
            behind[name] = mixed(parts, behind)
    return behind


def state_of_numbers(values):
    """The state in which each variable has one number, a ratio."""
    state = {name: (values[name].bottom, [values[name].top]) for name in values}
    state[None] = (1, [1])
    return state


def numbers_in(names, state):
    """The tuple of the pairs (name, ratio) of these variables in a state of single numbers."""
    return tuple([(name, Ratio(state[name][1][0], state[name][0])) for name in names])


def state_of_beginnings(names):
    """The state in which each variable is its own beginning: the constant and the coefficients of a sum of them."""
    order = [None, *names]
    return {name: (1, [1 if name == other else 0 for other in order]) for name in order}


def sum_in(names, parts, state):
    """The sum of the beginnings of these variables that a sum with these parts is in a state of such sums."""
    bottom, tops = mixed(parts, state)
    constant = Ratio(tops[0], bottom)
    coefficients = {name: Ratio(top, bottom) for name, top in zip(names, tops[1:])}
    return Sum(constant, **coefficients)


def values_until(loop, total, most):
    """The list of the values of a sum after 0, 1, .. rounds up to so many, as sums of the beginnings."""
    plan = plan_of(loop)
    parts = parts_of(total)
    state = state_of_beginnings(loop.names)
    values = [sum_in(loop.names, parts, state)]
    for n in range(most):
        state = next_state(plan, state, n)
        values.append(sum_in(loop.names, parts, state))
    return values
