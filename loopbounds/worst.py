"""The beginnings in the ranges of variables, and which of them are worst for a sum."""


def ranges_of(loop):
    """The dict of the ranges of all variables of a loop, by ascending names."""
    return {name: loop.range_of(name) for name in loop.names}


def is_wide(ends):
    """Whether a range has more than one number."""
    low, high = ends
    return low != high


def end_below(coefficient, ends):
    """The end of a range at which its numbers times a coefficient are least, None if they are without bound."""
    low, high = ends
    return low if coefficient >= 0 else high


def ends_below(total, ranges):
    """The dict of these ends for the coefficients of a sum."""
    return {name: end_below(total.coefficient_of(name), ranges[name]) for name in ranges}


def beginning_with(numbers):
    """The beginning with a dict of numbers, by ascending names."""
    return tuple([(name, numbers[name]) for name in numbers])


def least_in(ranges, total):
    """The least value of a sum over all beginnings in the ranges, None if it is without bound."""
    numbers = ends_below(total, ranges)
    if None in list(numbers.values()):
        return None
    return total.at(**numbers)


def worst_in(ranges, total):
    """A beginning in the ranges with the least value of a sum, which is not without bound."""
    return beginning_with(ends_below(total, ranges))


def one_below(ranges, total):
    """A beginning in the ranges for which a sum is less than 0, as it is for some."""
    numbers = ends_below(total, ranges)
    endless = [name for name in numbers if numbers[name] is None]
    for name in endless:
        numbers[name] = ranges[name][0]
    worth = total.at(**numbers)
    if worth >= 0:
        # Each step to a greater number without an upper end takes as much away as its coefficient tells.
        name = endless[0]
        numbers[name] = numbers[name] + (worth // -total.coefficient_of(name) + 1)
    return beginning_with(numbers)
