"""Running a loop: for given beginnings, and for all of them at once."""

from loopbounds.errors import InvalidNumber, InvalidRatio, UnknownName
from loopbounds.kinds import is_int_within
from loopbounds.limits import ROUNDS
from loopbounds.loops import check_loop, check_total, check_variable
from loopbounds.ratios import as_ratio, is_number
from loopbounds.stepping import next_state, numbers_in, parts_of, plan_of, state_of_beginnings, state_of_numbers, sum_in


def check_rounds(value):
    """Raise InvalidNumber if a value is not a number of rounds."""
    if not is_int_within(value, 0, ROUNDS):
        raise InvalidNumber(value)


def check_beginnings(loop, beginnings):
    """Raise the error that is due if a dict does not give a number to each variable, and to nothing else."""
    for name in sorted(beginnings, key=str):
        check_variable(loop, name)
        if not is_number(beginnings[name]):
            raise InvalidRatio(beginnings[name])
    for name in loop.names:
        if name not in beginnings:
            raise UnknownName(name)


def first_state(loop, rounds, beginnings):
    """The state in which a run begins, if it may begin so."""
    check_loop(loop)
    check_rounds(rounds)
    check_beginnings(loop, beginnings)
    return state_of_numbers({name: as_ratio(beginnings[name]) for name in beginnings})


def state_behind(loop, state, rounds):
    """The state after so many rounds, told by the one at the beginning."""
    plan = plan_of(loop)
    now = state
    for n in range(rounds):
        now = next_state(plan, now, n)
    return now


def after(the_loop, the_rounds, **beginnings):
    """The tuple of the pairs (name, ratio) of all variables after so many rounds from these beginnings."""
    state = first_state(the_loop, the_rounds, beginnings)
    return numbers_in(the_loop.names, state_behind(the_loop, state, the_rounds))


def states(the_loop, the_rounds, **beginnings):
    """Yield such a tuple after 0, 1, .. rounds, up to so many."""
    state = first_state(the_loop, the_rounds, beginnings)
    plan = plan_of(the_loop)
    yield numbers_in(the_loop.names, state)
    for n in range(the_rounds):
        state = next_state(plan, state, n)
        yield numbers_in(the_loop.names, state)


def value_after(loop, total, rounds):
    """The value of a sum after so many rounds, as a sum of the beginnings of the variables."""
    check_loop(loop)
    check_total(loop, total)
    check_rounds(rounds)
    state = state_behind(loop, state_of_beginnings(loop.names), rounds)
    return sum_in(loop.names, parts_of(total), state)
