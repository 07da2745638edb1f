"""Rows with bases, told by some of their numbers, and the bases of plain loops. Only the checker uses this module."""

from math import lcm

from loopbounds.plain import coefficient, is_less, round_length

# Numbers are pairs of a top and a bottom, which is greater than 0.


def step_of(bases):
    """The least number that makes all bases integers."""
    step = 1
    for _, bottom in bases:
        step = lcm(step, bottom)
    return step


def whole_of(base, step):
    """A base times the number that makes all of them integers."""
    return base[0] * (step // base[1])


def leveled(bases, numbers):
    """The pair of a scale and of the levels of a row at a place, told by its values there and at as many places in all.

    The level j is told times scale * step ** j, so all are integers.
    """
    step = step_of(bases)
    scale = 1
    for _, bottom in numbers:
        scale = lcm(scale, bottom)
    row = []
    factor = scale
    for top, bottom in numbers:
        row.append(top * (factor // bottom))
        factor = factor * step
    levels = []
    for base in bases:
        levels.append(row[0])
        row = [behind - whole_of(base, step) * ahead for ahead, behind in zip(row, row[1:])]
    return scale, levels


def levels_behind(bases, levels):
    """The levels one place behind these."""
    step = step_of(bases)
    return [upper + whole_of(base, step) * level for base, level, upper in zip(bases, levels, [*levels[1:], 0])]


def settled_sign(levels):
    """The sign of a row that is settled where it has these levels, 0 if it is not settled there."""
    # The levels above the top are 0 at each place, and the one of the top is 0 nowhere.
    known = list(levels)
    while known and known[-1] == 0:
        known.pop()
    below = [level for level in known if level < 0]
    if below:
        return -1 if len(below) == len(known) else 0
    return 1


def are_settled(bases, rows, place):
    """Whether some rows, told by all of their numbers, are settled at a place."""
    return all([settled_sign(leveled(bases, row[place:place + len(bases)])[1]) != 0 for row in rows])


def is_settled_first(bases, rows, start, place):
    """Whether a place is the first one, from a start on, at which some rows are all settled."""
    if not are_settled(bases, rows, place):
        return False
    return place == start or not are_settled(bases, rows, place - 1)


def limit_of(bases, numbers):
    """The limit to which a row comes near, told by its numbers at as many places as it has bases; None without one."""
    scale, levels = leveled(bases, numbers)
    below = [base for base in bases if base[0] < base[1]]
    many = len(below)
    # With a level of a base from 1 on, but for a constant one, the row grows beyond all bounds.
    if any([level != 0 for level in levels[many + 1:]]):
        return None
    top = levels[many]
    bottom = scale
    for base in below:
        top = top * base[1]
        bottom = bottom * step_of(bases) * (base[1] - base[0])
    return (top, bottom)


def own_product(body, name, rounds):
    """The long multiplier of a variable over so many rounds."""
    top = 1
    bottom = 1
    for n in range(rounds):
        for other, total, every, at in body:
            if other == name and n % every == at:
                factor = coefficient(total, name)
                top = top * factor[0]
                bottom = bottom * factor[1]
    return (top, bottom)


def repeat_of(loop):
    """The long period of a loop."""
    ranges, body = loop
    rounds = round_length(body)
    below = [name for name, _, _ in ranges if own_product(body, name, rounds)[0] < 0]
    return 2 * rounds if below else rounds


def common_repeat(loop, other):
    """The least common multiple of the long periods of two loops."""
    return lcm(repeat_of(loop), repeat_of(other))


def roots_of(loop):
    """The list of the bases of a loop, ascending."""
    ranges, body = loop
    numbers = [own_product(body, name, repeat_of(loop)) for name, _, _ in ranges]
    row = []
    for number in [(1, 1), *[number for number in numbers if number[0] != 0]]:
        at = len([other for other in row if not is_less(number, other)])
        row.insert(at, number)
    return row


def vanishing(loop):
    """How many variables of a loop have the long multiplier 0."""
    return 1 + len(loop[0]) - len(roots_of(loop))
