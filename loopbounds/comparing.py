"""Whether sums of two loops agree in all rounds, or one is never less than the other."""

from math import lcm

from loopbounds.courses import Course
from loopbounds.errors import TooMany, UnlikeRanges
from loopbounds.loops import check_loop, check_total
from loopbounds.ratios import Ratio, ascending
from loopbounds.signs import first_below, signs_by_rests
from loopbounds.stepping import values_until
from loopbounds.structure import long_multiplier, long_period, zeros
from loopbounds.worst import beginning_with, is_wide, ranges_of

MOST_SPAN = 12


def check_alike(loop, other):
    """Raise UnlikeRanges if two loops do not have the same variables with the same ranges."""
    for name in sorted([*loop.names, *other.names], key=str):
        if name not in loop or name not in other or loop.range_of(name) != other.range_of(name):
            raise UnlikeRanges(name)


def check_pair(loop, total, other, other_total):
    """Raise the error of the first wrong one of these arguments."""
    check_loop(loop)
    check_total(loop, total)
    check_loop(other)
    check_alike(loop, other)
    check_total(other, other_total)


def common_roots(loop, other, span):
    """The bases of two loops over so many rounds, with 1 once for both."""
    numbers = [long_multiplier(each, name, span) for each in (loop, other) for name in each.names]
    return ascending([Ratio(1), *[number for number in numbers if number != 0]])


def course_of_difference(loop, total, other, other_total):
    """The course of a sum less a sum of another loop; TooMany if the long periods do not fit together."""
    span = lcm(long_period(loop), long_period(other))
    if span > MOST_SPAN:
        raise TooMany(span)
    roots = common_roots(loop, other, span)
    start = max([zeros(loop), zeros(other)], key=int)
    most = span * (start + len(roots)) - 1
    ones = values_until(loop, total, most)
    twos = values_until(other, other_total, most)
    return Course([one - two for one, two in zip(ones, twos)], span, roots, start, ranges_of(loop))


def beginning_apart(ranges, total):
    """A beginning for which a sum is not 0, None if there is none."""
    numbers = {name: ends[0] for name, ends in ranges.items()}
    if total.at(**numbers) != 0:
        return beginning_with(numbers)
    for name, (low, high) in ranges.items():
        if is_wide((low, high)) and total.coefficient_of(name) != 0:
            numbers[name] = low + 1 if high is None else high
            return beginning_with(numbers)
    return None


def parting(loop, total, other, other_total):
    """The least number of rounds after which two sums are not equal, and a beginning for which; None if they agree."""
    check_pair(loop, total, other, other_total)
    course = course_of_difference(loop, total, other, other_total)
    # A row that is 0 at as many places as it has bases is 0 for ever.
    for rounds, difference in enumerate(course.sums):
        beginning = beginning_apart(course.ranges, difference)
        if beginning is not None:
            return (rounds, beginning)
    return None


def agree(loop, total, other, other_total):
    """Whether two sums are equal after all numbers of rounds for all beginnings."""
    return parting(loop, total, other, other_total) is None


def never_less(loop, total, other, other_total):
    """Whether the first sum is at least the second one after all numbers of rounds for all beginnings."""
    check_pair(loop, total, other, other_total)
    course = course_of_difference(loop, total, other, other_total)
    return first_below(signs_by_rests(course)) is None
