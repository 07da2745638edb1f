"""Plain loops, run round by round. Only the checker uses this module."""

from math import lcm

# A row is a pair of a bottom, greater than 0 but not always in lowest terms, and of a list of tops above it: those of
# the constant and of the coefficients of all variables in a sum of their beginnings, or of one number.


def row_plus(row, number, other):
    """A row plus a number times another one."""
    bottom, tops = row
    lower = number[1] * other[0]
    common = lcm(bottom, lower)
    one = common // bottom
    two = number[0] * (common // lower)
    return (common, [one * top + two * upper for top, upper in zip(tops, other[1])])


def row_of(total, state):
    """The row of a sum in a state, a dict of the rows of all variables and of 1, under None."""
    constant = total[0]
    row = (constant[1], [constant[0] * top for top in state[None][1]])
    for name, number in total[1]:
        row = row_plus(row, number, state[name])
    return row


def do_round(loop, state, n):
    """Change a state by a round of a loop."""
    for name, total, every, at in loop[1]:
        if n % every == at:
            state[name] = row_of(total, state)


def rows_after(loop, total, most):
    """The list of the rows of a sum of the beginnings after 0, 1, .. rounds, up to so many."""
    order = [None, *[name for name, _, _ in loop[0]]]
    state = {name: (1, [1 if name == other else 0 for other in order]) for name in order}
    rows = [row_of(total, state)]
    for n in range(most):
        do_round(loop, state, n)
        rows.append(row_of(total, state))
    return rows


def number_after(loop, total, beginning, rounds):
    """The value of a sum after so many rounds from a beginning: a top and a bottom, not always in lowest terms."""
    state = {name: (number[1], [number[0]]) for name, number in beginning}
    state[None] = (1, [1])
    for n in range(rounds):
        do_round(loop, state, n)
    bottom, tops = row_of(total, state)
    return (tops[0], bottom)


def number_at_worst(row, ranges):
    """The least value of a sum of beginnings in the ranges, told by its row; None if it is without bound."""
    bottom, tops = row
    worst = (bottom, [tops[0]])
    for top, (_, low, high) in zip(tops[1:], ranges):
        end = low if top >= 0 else high
        if end is None:
            return None
        worst = row_plus(worst, end, (bottom, [top]))
    return (worst[1][0], worst[0])


def is_zero_everywhere(row, ranges):
    """Whether a sum of beginnings, told by its row, is 0 for all beginnings in the ranges."""
    bottom, tops = row
    at_low = (bottom, [tops[0]])
    for top, (_, low, high) in zip(tops[1:], ranges):
        if top != 0 and low != high:
            return False
        at_low = row_plus(at_low, low, (bottom, [top]))
    return at_low[1] == [0]
