"""Loops: variables with the ranges in which they begin, and a body of assignments."""

from math import gcd, lcm

from loopbounds.errors import InvalidName, InvalidNumber, InvalidRange, InvalidSum, NotALoop, NotASum
from loopbounds.errors import Ring, TooLong, TooMany, TwiceAssigned, UnknownName
from loopbounds.kinds import is_int_within, is_name
from loopbounds.limits import LENGTH, PERIOD, PLAIN, SMALL, VARIABLES
from loopbounds.ratios import as_ratio, is_number
from loopbounds.sums import Sum, as_sum, is_total

MOST_END = 10 ** 9
MOST_BOTTOM = 9


def check_loop(value):
    """Raise NotALoop if a value is not a loop."""
    if not isinstance(value, Loop):
        raise NotALoop(value)


def check_variable(loop, name):
    """Raise the error of a value that is not the name of a variable of a loop."""
    if not is_name(name):
        raise InvalidName(name)
    if name not in loop:
        raise UnknownName(name)


def check_total(loop, total):
    """Raise the error of a value that is not a sum of variables of a loop."""
    if not is_total(total):
        raise NotASum(total)
    for name in as_sum(total).names:
        if name not in loop:
            raise UnknownName(name)


def is_within(number, most_top, most_bottom):
    """Whether the top of a number, without its sign, and its bottom are not greater than these."""
    ratio = as_ratio(number)
    return abs(ratio.top) <= most_top and ratio.bottom <= most_bottom


def is_end(value):
    """Whether a value may be an end of a range."""
    return is_number(value) and is_within(value, MOST_END, MOST_END)


def ends_told(value):
    """The pair of the ends of a range, None for a value that is no range."""
    ends = (value, value) if is_number(value) else value
    if not isinstance(ends, tuple) or len(ends) != 2:
        return None
    low, high = ends
    if not is_end(low):
        return None
    if high is None:
        return (as_ratio(low), None)
    if not is_end(high) or low > high:
        return None
    return (as_ratio(low), as_ratio(high))


def is_assignable(name, total):
    """Whether a variable may be assigned a sum, as far as the numbers in the sum decide it."""
    numbers = [total.constant] + [total.coefficient_of(other) for other in total.names]
    plain = all([is_within(number, PLAIN, MOST_BOTTOM) for number in numbers])
    return plain and is_within(total.coefficient_of(name), SMALL, MOST_BOTTOM)


def are_done_at_once(one, two):
    """Whether there is a round in which both assignments are done."""
    _, _, every, at = one
    _, _, other_every, other_at = two
    # By the Chinese remainder theorem, this decides it.
    return (at - other_at) % gcd(every, other_every) == 0


def period_of(body):
    """The period of a loop with this body."""
    period = 1
    for _, _, every, _ in body:
        period = lcm(period, every)
    return period


def rests_of(names, body):
    """For each of these variables, in their order, the list of the other ones that it rests on."""
    found = {name: {} for name in names}
    for name, total, _, _ in body:
        for other in total.names:
            if other != name:
                found[name][other] = True
    return {name: list(found[name]) for name in names}


def way_between(rests, first, last):
    """A list of variables from the first to the last, each of which rests on the next; None if there is none."""
    if first == last:
        return [last]
    for name in rests[first]:
        way = way_between(rests, name, last)
        if way is not None:
            return [first, *way]
    return None


def ring_closed(rests, name, total):
    """A ring that comes about if a variable is assigned a sum where there is none; None if none does."""
    for other in total.names:
        # Each new ring leads through the variable that is assigned, and goes on with a variable of the sum.
        way = None if other == name else way_between(rests, other, name)
        if way is not None:
            return (name, *way[:-1])
    return None


def check_added(loop, assignment):
    """Raise the error that is due if a loop has no place for an assignment."""
    name, total, _, _ = assignment
    body = loop.body
    if len(body) >= LENGTH:
        raise TooLong()
    if any([name == other[0] and are_done_at_once(assignment, other) for other in body]):
        raise TwiceAssigned(name)
    period = period_of([*body, assignment])
    if period > PERIOD:
        raise TooMany(period)
    ring = ring_closed(rests_of(loop.names, body), name, total)
    if ring is not None:
        raise Ring(ring)


class Loop:
    """Variables, each with a range of the numbers with which it may begin, and a body of assignments."""

    def __init__(self, **ranges):
        self._ranges = {}
        self._body = []
        for name in sorted(ranges, key=str):
            if not is_name(name):
                raise InvalidName(name)
            ends = ends_told(ranges[name])
            if ends is None:
                raise InvalidRange(name)
            self._ranges[name] = ends
        if not ranges or len(ranges) > VARIABLES:
            raise TooMany(len(ranges))

    @property
    def names(self):
        """The ascending tuple of the variables."""
        return tuple(self._ranges)

    @property
    def body(self):
        """The tuple of the assignments, each a tuple (name, sum, every, at)."""
        return tuple(self._body)

    @property
    def period(self):
        """The least common multiple of all every, 1 without any."""
        return period_of(self._body)

    def range_of(self, name):
        """The pair of the ends of a variable's range, ratios, with None for no upper end."""
        check_variable(self, name)
        return self._ranges[name]

    def assign(self, name, total, *, every=1, at=0):
        """Add an assignment at the end of the body."""
        check_variable(self, name)
        check_total(self, total)
        if not is_assignable(name, as_sum(total)):
            raise InvalidSum(total)
        if not is_int_within(every, 1, PERIOD):
            raise InvalidNumber(every)
        if not is_int_within(at, 0, every - 1):
            raise InvalidNumber(at)
        assignment = (name, as_sum(total), every, at)
        check_added(self, assignment)
        self._body.append(assignment)

    def drop(self, index):
        """Take the assignment with this index out of the body."""
        if not is_int_within(index, 0, len(self._body) - 1):
            raise InvalidNumber(index)
        del self._body[index]

    def copy(self):
        """A loop with the same variables, ranges and body, which changes by itself."""
        made = Loop(**self._ranges)
        made._body = list(self._body)
        return made

    def __contains__(self, value):
        return is_name(value) and value in self._ranges

    def __getitem__(self, name):
        check_variable(self, name)
        coefficients = {name: 1}
        return Sum(**coefficients)

    def __setitem__(self, name, total):
        self.assign(name, total)

    def __iter__(self):
        raise TypeError("a loop is not iterated over: its names are")
