"""Which sums hold: after some rounds, always, and in just which rounds."""

from loopbounds.courses import course_of
from loopbounds.loops import check_loop, check_total
from loopbounds.rounds import Rounds
from loopbounds.running import value_after
from loopbounds.signs import first_below, signs_by_rests
from loopbounds.worst import least_in, one_below, ranges_of


def least_at(loop, total, rounds):
    """The least value of a sum after so many rounds, a ratio, None if it is without bound."""
    value = value_after(loop, total, rounds)
    return least_in(ranges_of(loop), value)


def greatest_at(loop, total, rounds):
    """The greatest value of a sum after so many rounds, a ratio, None if it is without bound."""
    value = value_after(loop, total, rounds)
    below = least_in(ranges_of(loop), -value)
    return None if below is None else -below


def signs_in(loop, total):
    """For each rest, the place T1 and the signs of the least values up to T2, from which on they stay as they are."""
    check_loop(loop)
    check_total(loop, total)
    return signs_by_rests(course_of(loop, total, ranges_of(loop)))


def holds_always(loop, total):
    """Whether a sum holds after all numbers of rounds."""
    return first_below(signs_in(loop, total)) is None


def rounds_where(loop, total):
    """The set of the numbers of rounds after which a sum holds."""
    pairs = signs_in(loop, total)
    odd = []
    for rest, (_, signs) in enumerate(pairs):
        odd.extend([len(pairs) * t + rest for t, sign in enumerate(signs) if sign != signs[-1]])
    return Rounds([signs[-1] == 1 for _, signs in pairs], sorted(odd, key=int))


def first_break(loop, total):
    """The least number of rounds after which a sum does not hold, and a beginning for which; None if it always does."""
    rounds = first_below(signs_in(loop, total))
    if rounds is None:
        return None
    return (rounds, one_below(ranges_of(loop), value_after(loop, total, rounds)))
