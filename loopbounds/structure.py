"""What the body of a loop tells of its rounds: long multipliers, bases, and an order of the variables."""

from loopbounds.loops import check_loop, rests_of
from loopbounds.ratios import Ratio, ascending, raised


def long_multiplier(loop, name, rounds):
    """The product of the own multipliers of a variable in the assignments that are done in so many rounds."""
    product = Ratio(1)
    for variable, total, every, at in loop.body:
        if variable == name:
            many = len([n for n in range(rounds) if n % every == at])
            product = product * raised(total.coefficient_of(name), many)
    return product


def long_period(loop):
    """The period if no long multiplier over it is less than 0, otherwise twice the period."""
    check_loop(loop)
    if any([long_multiplier(loop, name, loop.period) < 0 for name in loop.names]):
        return 2 * loop.period
    return loop.period


def multipliers(loop):
    """The tuple of the pairs (name, long multiplier over the long period) of all variables, names ascending."""
    rounds = long_period(loop)
    return tuple([(name, long_multiplier(loop, name, rounds)) for name in loop.names])


def bases(loop):
    """The ascending tuple of 1 and of the long multipliers that are not 0."""
    return tuple(ascending([Ratio(1), *[number for _, number in multipliers(loop) if number != 0]]))


def zeros(loop):
    """How many variables have the long multiplier 0."""
    return len([number for _, number in multipliers(loop) if number == 0])


def order(loop):
    """The first tuple of all variables in which each one rests only on variables ahead of it, beside itself."""
    check_loop(loop)
    rests = rests_of(loop.names, loop.body)
    placed = []
    while len(placed) < len(rests):
        # Without rings, one variable at least rests on placed ones alone; the least such one makes the tuple first.
        left = [name for name in rests if name not in placed]
        free = [name for name in left if all([other in placed for other in rests[name]])]
        placed.append(free[0])
    return tuple(placed)
