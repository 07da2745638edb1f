"""Rows: functions of the integers from 0 on that are told by bases and as many first values."""

from loopbounds.errors import InvalidBases, InvalidNumber, InvalidValues, TooFar
from loopbounds.kinds import is_int_within
from loopbounds.limits import BASES, ROUNDS
from loopbounds.ratios import Ratio, as_ratio, common_bottom, is_number, raised

MOST_BASE = 10 ** 12

# Below, a row is often told by integers: V * Q ** t times its value at t, with Q the common bottom of its bases and V
# that of its first values, is the value at t of a row whose bases are Q times its own. The level j of this one is
# V * Q ** (t + j) times that of the row at t, so all signs are the same.


def is_base(value):
    """Whether a value may be a base."""
    if not is_number(value) or value <= 0:
        return False
    base = as_ratio(value)
    return base.top <= MOST_BASE and base.bottom <= MOST_BASE


def check_bases(bases):
    """Raise InvalidBases if a value is not a tuple of bases."""
    if not isinstance(bases, tuple) or not bases or len(bases) > BASES:
        raise InvalidBases(None)
    before = 0
    for index, base in enumerate(bases):
        if not is_base(base) or base < before:
            raise InvalidBases(index)
        before = base


def check_row(bases, values):
    """Raise the error that is due if values are not bases and as many first values of a row."""
    check_bases(bases)
    if not isinstance(values, tuple) or len(values) != len(bases):
        raise InvalidValues(None)
    for index, value in enumerate(values):
        if not is_number(value):
            raise InvalidValues(index)


def check_place(place):
    """Raise InvalidNumber if a value is not a place up to which rows are told."""
    if not is_int_within(place, 0, ROUNDS):
        raise InvalidNumber(place)


def whole_bases(bases):
    """The bases, ratios, times their common bottom."""
    bottom = common_bottom(bases)
    return [base.top * (bottom // base.bottom) for base in bases]


def scaled(values, bottom, step):
    """The first values, ratios, each times bottom * step ** t at its place t; all are whole times this bottom."""
    return [value.top * (bottom // value.bottom) * raised(step, t) for t, value in enumerate(values)]


def whole_values(bases, values):
    """The first values, ratios, each times V * Q ** t at its place t."""
    return scaled(values, common_bottom(values), common_bottom(bases))


def first_levels(bases, values):
    """The levels at the first place, told by the values there and at the places behind it."""
    levels = []
    row = list(values)
    for base in bases:
        levels.append(row[0])
        row = [behind - base * value for value, behind in zip(row, row[1:])]
    return levels


def next_levels(bases, levels):
    """The levels at the next place; the one above those that are told is 0 everywhere."""
    uppers = [*levels[1:], 0]
    return [upper + base * level for base, level, upper in zip(bases, levels, uppers)]


def up_to_the_top(levels):
    """The levels from 0 to the top, which is told by them at any place: those above it are 0 at all later ones."""
    top = 0
    for j, level in enumerate(levels):
        if level != 0:
            top = j
    # Without bases there is no level, and the row is 0.
    return levels[:top + 1] or [0]


def sign_of(number):
    """The sign of a number: that of 0 is 1."""
    return -1 if number < 0 else 1


def is_settled(levels):
    """Whether a row with these levels at a place is settled there."""
    return all([sign_of(level) == sign_of(levels[0]) for level in up_to_the_top(levels)])


def signs_from(wholes, levels, most):
    """The list of the signs of a row from a place with these levels to its settling place, at most so many behind it.

    None if the settling place lies farther out.
    """
    signs = []
    row = up_to_the_top(levels)
    while len(signs) <= most:
        signs.append(sign_of(row[0]))
        if is_settled(row):
            return signs
        row = next_levels(wholes, row)
    return None


def signs_until_settled(bases, values, most):
    """Such a list for the row with these bases and first values, ratios, from its first place on."""
    wholes = whole_bases(bases)
    return signs_from(wholes, first_levels(wholes, whole_values(bases, values)), most)


def whole_levels(bases, values, place):
    """The levels at a place, each times V * Q ** (place + its number)."""
    wholes = whole_bases(bases)
    levels = first_levels(wholes, whole_values(bases, values))
    for _ in range(place):
        levels = next_levels(wholes, levels)
    return levels


def ratios_of(numbers):
    """The list of these numbers as ratios."""
    return [as_ratio(number) for number in numbers]


def bottom_at(bases, values, place):
    """V * Q ** place."""
    return common_bottom(values) * raised(common_bottom(bases), place)


def value_at(bases, values, place):
    """The value, a ratio, of the row with these bases and first values at a place."""
    check_row(bases, values)
    check_place(place)
    row = ratios_of(bases)
    firsts = ratios_of(values)
    return Ratio(whole_levels(row, firsts, place)[0], bottom_at(row, firsts, place))


def levels_at(bases, values, place):
    """The tuple of the levels, ratios, of the row with these bases and first values at a place."""
    check_row(bases, values)
    check_place(place)
    row = ratios_of(bases)
    firsts = ratios_of(values)
    tops = whole_levels(row, firsts, place)
    return tuple([Ratio(top, bottom_at(row, firsts, place + j)) for j, top in enumerate(tops)])


def settling_place(bases, values):
    """The pair of the settling place of the row with these bases and first values, and of its sign there."""
    check_row(bases, values)
    signs = signs_until_settled(ratios_of(bases), ratios_of(values), ROUNDS)
    if signs is None:
        raise TooFar()
    return (len(signs) - 1, signs[-1])
