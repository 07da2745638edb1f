"""The forms of the plain values in claims and their certificates. Only the checker uses this module."""

from math import gcd, lcm

from loopbounds.limits import BASES, LENGTH, PERIOD, PLAIN, ROUNDS, SMALL, VARIABLES

MOST_LETTERS = 8
LETTERS = "abcdefghijklmnopqrstuvwxyz"
MOST_BOTTOM = 9
MOST_END = 10 ** 9
MOST_BASE = 10 ** 12


def is_whole(value, least, most):
    """Whether a value is an integer, neither True nor False, from one number to another."""
    return isinstance(value, int) and not isinstance(value, bool) and least <= value <= most


def is_plain_rounds(value):
    """Whether a value is a number of rounds."""
    return is_whole(value, 0, ROUNDS)


def has_items(value, many):
    """Whether a value is a tuple of so many items."""
    return isinstance(value, tuple) and len(value) == many


def is_called(value):
    """Whether a value is a name."""
    if not isinstance(value, str) or not 1 <= len(value) <= MOST_LETTERS or value == "self":
        return False
    return all([letter in LETTERS for letter in value])


def is_pair_of_whole(value):
    """Whether a value is a pair of integers, neither True nor False."""
    if not has_items(value, 2):
        return False
    return all([isinstance(item, int) and not isinstance(item, bool) for item in value])


def is_fraction(value):
    """Whether a value is a number: a top and a bottom in lowest terms."""
    return is_pair_of_whole(value) and value[1] > 0 and gcd(value[0], value[1]) == 1


def is_up_to(number, most_top, most_bottom):
    """Whether the top of a number, without its sign, and its bottom are not greater than these."""
    return -most_top <= number[0] <= most_top and number[1] <= most_bottom


def is_less(one, two):
    """Whether a number is less than another one."""
    return one[0] * two[1] < two[0] * one[1]


def are_ascending(words):
    """Whether each of these names is greater than the one before it."""
    return all([one < two for one, two in zip(words, words[1:])])


def is_named_row(value, many):
    """Whether a value is a tuple of tuples of so many items, with ascending names for their first ones."""
    if not isinstance(value, tuple):
        return False
    if not all([has_items(item, many) and is_called(item[0]) for item in value]):
        return False
    return are_ascending([item[0] for item in value])


def is_plain_sum(value):
    """Whether a value is a sum."""
    if not has_items(value, 2) or not is_fraction(value[0]) or not is_named_row(value[1], 2):
        return False
    return all([is_fraction(number) and number[0] != 0 for _, number in value[1]])


def names_of(total):
    """The list of the names in a sum."""
    return [name for name, _ in total[1]]


def coefficient(total, name):
    """The coefficient of a name in a sum."""
    found = [number for other, number in total[1] if other == name]
    return found[0] if found else (0, 1)


def is_assignment(value):
    """Whether a value is an assignment as point 10 has it, of whatever variables."""
    if not has_items(value, 4):
        return False
    name, total, every, at = value
    if not is_called(name) or not is_plain_sum(total):
        return False
    if not is_whole(every, 1, PERIOD) or not is_whole(at, 0, every - 1):
        return False
    numbers = [total[0], *[number for _, number in total[1]]]
    plain = all([is_up_to(number, PLAIN, MOST_BOTTOM) for number in numbers])
    return plain and is_up_to(coefficient(total, name), SMALL, MOST_BOTTOM)


def round_length(body):
    """The period of a body."""
    period = 1
    for _, _, every, _ in body:
        period = lcm(period, every)
    return period


def is_body(value):
    """Whether a value is a body for which all that points 10 and 11 say holds, but for rings."""
    if not isinstance(value, tuple) or len(value) > LENGTH:
        return False
    if not all([is_assignment(item) for item in value]) or round_length(value) > PERIOD:
        return False
    for n in range(round_length(value)):
        done = [name for name, _, every, at in value if n % every == at]
        if any([done.count(name) > 1 for name in done]):
            return False
    return True


def rests_on(body, one, two):
    """Whether a variable rests on another one."""
    return one != two and any([name == one and two in names_of(total) for name, total, _, _ in body])


def has_ring(body):
    """Whether a body has a ring."""
    left = [name for name, _, _, _ in body]
    while left:
        # A variable that rests on none of those that are left is in no ring of them.
        stuck = [one for one in left if any([rests_on(body, one, two) for two in left])]
        if len(stuck) == len(left):
            return True
        left = stuck
    return False


def is_end_number(value):
    """Whether a value may be an end of a range."""
    return is_fraction(value) and is_up_to(value, MOST_END, MOST_END)


def is_ranges(value):
    """Whether a value is the tuple of the variables of a loop and their ranges."""
    if not is_named_row(value, 3) or not 1 <= len(value) <= VARIABLES:
        return False
    for _, low, high in value:
        if not is_end_number(low):
            return False
        if high is not None and (not is_end_number(high) or is_less(high, low)):
            return False
    return True


def has_names(total, ranges):
    """Whether all names in a sum are variables."""
    variables = [name for name, _, _ in ranges]
    return all([name in variables for name in names_of(total)])


def is_plain_loop(value):
    """Whether a value is a loop."""
    if not has_items(value, 2) or not is_ranges(value[0]) or not is_body(value[1]):
        return False
    ranges, body = value
    variables = [name for name, _, _ in ranges]
    if not all([name in variables and has_names(total, ranges) for name, total, _, _ in body]):
        return False
    return not has_ring(body)


def is_sum_of(value, loop):
    """Whether a value is a sum of variables of a loop."""
    return is_plain_sum(value) and has_names(value, loop[0])


def is_beginning(value, ranges):
    """Whether a value is a beginning in the ranges."""
    if not is_named_row(value, 2) or [name for name, _ in value] != [name for name, _, _ in ranges]:
        return False
    for (_, number), (_, low, high) in zip(value, ranges):
        if not is_fraction(number) or is_less(number, low) or (high is not None and is_less(high, number)):
            return False
    return True


def is_plain_bases(value):
    """Whether a value is a tuple of bases."""
    if not isinstance(value, tuple) or not 1 <= len(value) <= BASES:
        return False
    if not all([is_fraction(base) and base[0] > 0 and is_up_to(base, MOST_BASE, MOST_BASE) for base in value]):
        return False
    return not any([is_less(two, one) for one, two in zip(value, value[1:])])


def is_plain_values(value, many):
    """Whether a value is a tuple of so many numbers."""
    return has_items(value, many) and all([is_fraction(number) for number in value])
