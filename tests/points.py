"""Points 12 to 19 of the document for models, in Fractions and as directly as their words, to hold the program against.

Values after all numbers of rounds are found by running the rounds one after the other; the levels of rows are the
differences that point 14 tells, and the least values are those of the corners of the ranges.
"""

from fractions import Fraction
from itertools import product
from math import lcm

from tests.models import worth

FARTHEST = 1000


class Far(Exception):
    """A place lies too far out."""


def own_product(model, name, rounds):
    """The long multiplier of a variable over so many rounds."""
    done = [parts for n in range(rounds) for variable, parts, every, at in model[1] if variable == name and n % every == at]
    result = Fraction(1)
    for parts in done:
        result *= parts.get(name, 0)
    return result


def long_period_of(model):
    period = lcm(*[every for _, _, every, _ in model[1]], 1)
    return 2 * period if any(own_product(model, name, period) < 0 for name in model[0]) else period


def zeros_of(model):
    return sum(own_product(model, name, long_period_of(model)) == 0 for name in model[0])


def bases_over(models, period):
    """The bases of some loops over so many rounds, with 1 once for all of them."""
    numbers = [own_product(model, name, period) for model in models for name in model[0]]
    return sorted([Fraction(1)] + [number for number in numbers if number])


class Values:
    """The values of a sum after 0, 1, .. rounds, as parts: dicts of coefficients, with the constant under None."""

    def __init__(self, model, parts):
        self.model, self.parts = model, parts
        names = [None, *model[0]]
        self.now = {name: {name: Fraction(1)} for name in names}
        self.found = []

    def after(self, rounds):
        while len(self.found) <= rounds:
            self.found.append(self.mixed(self.parts))
            n = len(self.found) - 1
            for name, parts, every, at in self.model[1]:
                if n % every == at:
                    self.now[name] = self.mixed(parts)
        return self.found[rounds]

    def mixed(self, parts):
        total = {}
        for name, number in parts.items():
            for other, coefficient in self.now[name].items():
                total[other] = total.get(other, 0) + Fraction(number) * coefficient
        return total


class Difference:
    """The values of a sum of one model less one of another."""

    def __init__(self, one, two):
        self.one, self.two = one, two

    def after(self, rounds):
        left, right = self.one.after(rounds), self.two.after(rounds)
        return {name: left.get(name, 0) - right.get(name, 0) for name in {**left, **right}}


def corners(ranges):
    """All beginnings with the ends of the ranges, dicts; without an upper end, the low one alone."""
    for ends in product(*[{end for end in ranges[name] if end is not None} for name in ranges]):
        yield dict(zip(ranges, ends))


def least_of(parts, ranges):
    """The least value of a sum of beginnings; None without bound."""
    if any(parts.get(name, 0) < 0 and ranges[name][1] is None for name in ranges):
        return None
    return min(worth(parts, values) for values in corners(ranges))


def sign(number):
    return 1 if number >= 0 else -1


class Row:
    """A row that is told by a function and its bases, from a place on."""

    def __init__(self, at, bases, start):
        self.at, self.bases, self.start = at, bases, start

    def levels(self, t):
        values = [self.at(t + k) for k in range(len(self.bases) + 1)]
        found = []
        for base in self.bases:
            found.append(values[0])
            values = [later - base * value for value, later in zip(values, values[1:])]
        assert values == [0], "this is no row with these bases"
        return found

    def top(self):
        levels = self.levels(self.start)
        return max([0] + [j for j, level in enumerate(levels) if level != 0])

    def settled(self, t):
        levels = self.levels(t)[:self.top() + 1]
        return len({sign(level) for level in levels}) == 1

    def settling_place(self, farthest):
        """The settling place; Far if it is greater than this."""
        for t in range(self.start, farthest + 1):
            if self.settled(t):
                return t
        raise Far


class Points:
    """Points 16 to 19 for values (of a sum, or of a difference), told the long period, bases and z, and the ranges."""

    def __init__(self, values, period, bases, first, ranges):
        self.values, self.period, self.bases, self.first, self.ranges = values, period, bases, first, ranges
        self.leasts = {}

    def farthest(self, rest):
        return (FARTHEST - rest) // self.period

    def least_at(self, rounds):
        if rounds not in self.leasts:
            self.leasts[rounds] = least_of(self.values.after(rounds), self.ranges)
        return self.leasts[rounds]

    def settled_ends(self, rest):
        """T1."""
        places = [self.first]
        for name, (low, high) in self.ranges.items():
            if low != high:
                row = Row(lambda t: self.values.after(self.period * t + rest).get(name, 0), self.bases, self.first)
                places.append(row.settling_place(self.farthest(rest)))
        return max(places)

    def least_on(self, rest, start, factor=1):
        """The row of the least values (times a factor) from a place on; None without bound."""
        if self.least_at(self.period * start + rest) is None:
            return None
        return Row(lambda t: factor * self.least_at(self.period * t + rest), self.bases, start)

    def settled_signs(self, rest):
        """T1 and T2."""
        first = self.settled_ends(rest)
        row = self.least_on(rest, first)
        return first, first if row is None else row.settling_place(self.farthest(rest))

    def signs(self):
        """For each rest T1, T2, and the list of whether the sum holds at 0, .., T2."""
        found = []
        for rest in range(self.period):
            first, second = self.settled_signs(rest)
            leasts = [self.least_at(self.period * t + rest) for t in range(second + 1)]
            found.append((first, second, [least is not None and least >= 0 for least in leasts]))
        return found

    def first_break(self):
        """The first number of rounds after which the sum does not hold; None if it always does."""
        breaks = [self.period * holds.index(False) + rest
                  for rest, (_, _, holds) in enumerate(self.signs()) if False in holds]
        return min(breaks, default=None)

    def highest(self):
        """What greatest() tells of minus the sum with these values, without a beginning, and the pairs (T1, T3)."""
        firsts = [self.settled_ends(rest) for rest in range(self.period)]
        ends = [self.period * first + rest for rest, first in enumerate(firsts)]
        for n in range(max(ends) + 1):
            if self.least_at(n) is None:
                return None, n, None
        places, best, limits = [], None, []
        for rest, first in enumerate(firsts):
            row = self.least_on(rest, first, -1)
            steps = Row(lambda t: row.at(t + 1) - row.at(t), self.bases, first)
            third = steps.settling_place(self.farthest(rest))
            places.append((first, third))
            for n in range(rest, self.period * third + rest + 1, self.period):
                height = -self.least_at(n)
                if best is None or (height, -n) > (best[0], -best[1]):
                    best = height, n
            levels = steps.levels(third)
            if any(levels) and sign(levels[0]) == 1:
                limits.append(limit_of(row, third))
        if None in limits:
            return None, None, None
        if limits and max(limits) > best[0]:
            return max(limits), None, places
        return *best, places


def limit_of(row, place):
    """The limit of a row that rises, None if it grows beyond all bounds.

    The row is a sum of terms with one factor t ** k b ** t for each of the bases; the coefficients are solved for.
    """
    kinds = [(row.bases[:at].count(base), base) for at, base in enumerate(row.bases)]
    rows = [[Fraction(t) ** power * base ** t for power, base in kinds] + [row.at(t)]
            for t in range(place, place + len(kinds))]
    for at in range(len(kinds)):
        swap = next(k for k in range(at, len(kinds)) if rows[k][at])
        rows[at], rows[swap] = rows[swap], rows[at]
        rows[at] = [number / rows[at][at] for number in rows[at]]
        for k in range(len(kinds)):
            if k != at:
                rows[k] = [number - rows[k][at] * other for number, other in zip(rows[k], rows[at])]
    found = {kind: numbers[-1] for kind, numbers in zip(kinds, rows)}
    if any(number and (base > 1 or (base == 1 and power > 0)) for (power, base), number in found.items()):
        return None
    return found[0, Fraction(1)]


def points_of(model, parts, ranges=None):
    period = long_period_of(model)
    return Points(Values(model, parts), period, bases_over([model], period), zeros_of(model), ranges or model[0])


def minus(parts):
    return {name: -number for name, number in parts.items()}
