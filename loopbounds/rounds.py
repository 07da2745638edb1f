"""Sets of numbers of rounds: integers from 0 on that repeat by a modulus, but for finitely many."""

from math import gcd, lcm

from loopbounds.errors import InvalidNumber, InvalidValues, TooMany
from loopbounds.kinds import is_int, is_int_within

MOST_MODULUS = 5040
MOST_MEMBER = 10 ** 6
MOST_FIRST = 10 ** 9
MOST_YIELDED = 1000

# Whether an integer is in a set that is made of two, if it is in none, in the second, in the first, in both.
IN_BOTH = (False, False, False, True)
IN_ONE_AT_LEAST = (False, True, True, True)
IN_THE_FIRST_ONLY = (False, False, True, False)
IN_JUST_ONE = (False, True, True, False)


def check_ascending(values, most):
    """Raise InvalidValues if the items of a tuple are not ascending integers from 0 to the most."""
    least = 0
    for index, value in enumerate(values):
        if not is_int_within(value, least, most):
            raise InvalidValues(index)
        least = value + 1


def check_first(first):
    """Raise InvalidNumber if a value is not an integer from which on members are asked for."""
    if not is_int_within(first, 0, MOST_FIRST):
        raise InvalidNumber(first)


def chosen(table, in_one, in_two):
    """What a table says of an integer that is, or is not, in a first set and in a second one."""
    if in_one:
        return table[3] if in_two else table[2]
    return table[1] if in_two else table[0]


def combined(one, two, table):
    """The set of the integers that a table says are in a set made of two."""
    modulus = lcm(one.modulus, two.modulus)
    if modulus > MOST_MODULUS:
        raise TooMany(modulus)
    flags = [chosen(table, one._flags[n % one.modulus], two._flags[n % two.modulus]) for n in range(modulus)]
    either = {**one._odd, **two._odd}
    # Any other integer has in both sets the flags of its rests, so it has the new flag of its rest, too.
    odd = [n for n in sorted(either, key=int) if chosen(table, n in one, n in two) != flags[n % modulus]]
    return Rounds(flags, odd)


def have_same_members(one, two):
    """Whether all members of each of two sets are members of the other one."""
    # What repeats by two moduli repeats by their greatest common divisor.
    flags = one._flags[:gcd(one.modulus, two.modulus)]
    repeated = [flags * (each.modulus // len(flags)) for each in (one, two)]
    return one._odd == two._odd and [one._flags, two._flags] == repeated


def index_from(numbers, least):
    """The index of the first of ascending numbers from the least on, and their number if there is none."""
    low = 0
    high = len(numbers)
    while low < high:
        middle = (low + high) // 2
        if numbers[middle] < least:
            low = middle + 1
        else:
            high = middle
    return low


def next_flagged(flags, first):
    """The least integer from the first on whose rest has the flag True, None if there is none."""
    for n in range(first, first + len(flags)):
        if flags[n % len(flags)]:
            return n
    return None


def next_member(flags, odd, first):
    """The least member, from the first integer on, of the set with these flags and odd ones; None if there is none."""
    at = index_from(odd, first)
    place = first
    while at < len(odd):
        regular = next_flagged(flags, place)
        if regular is not None and regular < odd[at]:
            return regular
        if regular != odd[at]:
            return odd[at]
        place = odd[at] + 1
        at = at + 1
    return next_flagged(flags, place)


class Rounds:
    """A set of integers from 0 on: those whose rest by a modulus has the flag True, but for odd ones.

    The odd ones, finitely many, are members exactly if the flag of their rest is False. Each set has one flag for each
    rest of a modulus and one row of odd ones, so equal sets with the same modulus are kept in one way.
    """

    def __init__(self, flags, odd):
        self._flags = list(flags)
        self._odd = {n: True for n in odd}

    @staticmethod
    def told(*members):
        """The set of these integers."""
        check_ascending(members, MOST_MEMBER)
        return Rounds([False], members)

    @staticmethod
    def rests(modulus, *rests):
        """The set of the integers from 0 on with these rests by a modulus."""
        if not is_int_within(modulus, 1, MOST_MODULUS):
            raise InvalidNumber(modulus)
        check_ascending(rests, modulus - 1)
        wanted = {rest: True for rest in rests}
        return Rounds([rest in wanted for rest in range(modulus)], ())

    @property
    def modulus(self):
        """The modulus."""
        return len(self._flags)

    @property
    def whole_from(self):
        """The least integer from which on all integers are members, None if there is none."""
        if False in self._flags:
            return None
        odd = list(self._odd)
        return odd[-1] + 1 if odd else 0

    def after(self, first):
        """The least member from this integer on, None if there is none."""
        check_first(first)
        return next_member(self._flags, list(self._odd), first)

    def members(self, first, many):
        """Yield the members from this integer on, ascending, at most so many."""
        check_first(first)
        if not is_int_within(many, 0, MOST_YIELDED):
            raise InvalidNumber(many)
        odd = list(self._odd)
        place = first
        for _ in range(many):
            member = next_member(self._flags, odd, place)
            if member is None:
                return
            yield member
            place = member + 1

    def __and__(self, other):
        if not isinstance(other, Rounds):
            return NotImplemented
        return combined(self, other, IN_BOTH)

    def __or__(self, other):
        if not isinstance(other, Rounds):
            return NotImplemented
        return combined(self, other, IN_ONE_AT_LEAST)

    def __sub__(self, other):
        if not isinstance(other, Rounds):
            return NotImplemented
        return combined(self, other, IN_THE_FIRST_ONLY)

    def __xor__(self, other):
        if not isinstance(other, Rounds):
            return NotImplemented
        return combined(self, other, IN_JUST_ONE)

    def __contains__(self, value):
        if not is_int(value) or value < 0:
            return False
        return self._flags[value % self.modulus] != (value in self._odd)

    def __eq__(self, other):
        return isinstance(other, Rounds) and have_same_members(self, other)

    def __le__(self, other):
        if not isinstance(other, Rounds):
            return NotImplemented
        return not combined(self, other, IN_THE_FIRST_ONLY)

    def __bool__(self):
        return True in self._flags or bool(self._odd)
