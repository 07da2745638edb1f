"""The courses of sums through all rounds, and their strands: what is left of a course for one rest of the rounds."""

from loopbounds.closed import coefficient_in
from loopbounds.errors import TooFar
from loopbounds.limits import ROUNDS
from loopbounds.ratios import Ratio, common_bottom
from loopbounds.rows import first_levels, is_settled, next_levels, scaled, whole_bases
from loopbounds.stepping import values_until
from loopbounds.structure import bases, long_period, zeros
from loopbounds.worst import is_wide, least_in


class Course:
    """The values of a sum after all numbers of rounds, for all beginnings in the ranges.

    `sums` are the first of these values, as sums of the beginnings, after 0, 1, .. rounds. For each rest by `span`,
    their constants and coefficients are rows from the place `start` on, with the bases `roots`; there is a sum for
    `start` and for as many places in all as there are bases. `ranges` is a dict of all ranges.
    """

    def __init__(self, sums, span, roots, start, ranges):
        self.sums = sums
        self.span = span
        self.roots = roots
        self.start = start
        self.ranges = ranges

    def farthest(self, rest):
        """The greatest place for a rest that is not too far out."""
        return (ROUNDS - rest) // self.span


def course_of(loop, total, ranges):
    """The course of a sum in a loop whose variables begin in these ranges."""
    span = long_period(loop)
    roots = bases(loop)
    start = zeros(loop)
    sums = values_until(loop, total, span * (start + len(roots)) - 1)
    return Course(sums, span, roots, start, ranges)


class Strand:
    """The values of a sum in a course after span * t + rest rounds, at one place t after the other, from `start` on.

    `lines` are the levels at t of the coefficients, each level j times S * step ** j, and under None those of the
    constant, times E * S * step ** j; all ends of the ranges are kept times E; `scale` is E * S. So all are integers,
    and `roots` are the bases times `step`.
    """

    def __init__(self, course, rest):
        first = course.span * course.start + rest
        sums = course.sums[first::course.span][:len(course.roots)]
        rows = {name: [coefficient_in(total, name) for total in sums] for name in [None, *course.ranges]}
        factor = common_bottom([end for ends in course.ranges.values() for end in ends if end is not None])
        bottom = common_bottom([number for row in rows.values() for number in row])
        self.place = course.start
        self.step = common_bottom(course.roots)
        self.roots = whole_bases(course.roots)
        self.scale = factor * bottom
        self.lines = {name: first_levels(self.roots, scaled(rows[name], bottom, self.step)) for name in rows}
        self.lines[None] = [factor * level for level in self.lines[None]]
        self.ends = {name: [whole_end(end, factor) for end in ends] for name, ends in course.ranges.items()}
        self.wide = [name for name, ends in course.ranges.items() if is_wide(ends)]

    def advance(self):
        """Go on to the next place."""
        self.lines = {name: next_levels(self.roots, line) for name, line in self.lines.items()}
        self.scale = self.scale * self.step
        self.place = self.place + 1

    def has_settled(self):
        """Whether the coefficients of all variables with more than one beginning are settled here."""
        return all([is_settled(self.lines[name]) for name in self.wide])

    def worst_levels(self):
        """The levels here of the value for the beginning that is worst here, None if there is no such beginning.

        The level j is told times scale * step ** j.
        """
        levels = self.lines[None]
        for name, (low, high) in self.ends.items():
            line = self.lines[name]
            end = low if line[0] >= 0 else high
            if end is None:
                return None
            levels = [level + end * number for level, number in zip(levels, line)]
        return levels

    def least(self):
        """The least value here, a ratio, None if it is without bound."""
        levels = self.worst_levels()
        if levels is None:
            return None
        return Ratio(levels[0], self.scale)


def whole_end(end, factor):
    """An end of a range times a factor, an integer; None for no end."""
    if end is None:
        return None
    return end.top * (factor // end.bottom)


def settled_strand(course, rest):
    """The strand for a rest at the place T1 of point 18, and the list of the least values at all places before it."""
    strand = Strand(course, rest)
    until = course.span * course.start
    leasts = [least_in(course.ranges, total) for total in course.sums[rest:until:course.span]]
    while not strand.has_settled():
        if strand.place >= course.farthest(rest):
            raise TooFar()
        leasts.append(strand.least())
        strand.advance()
    return strand, leasts
