"""How great or small a sum can become in all rounds together."""

from loopbounds.courses import course_of, settled_strand
from loopbounds.errors import TooFar
from loopbounds.loops import check_loop, check_total
from loopbounds.ratios import Ratio, quotient, raised
from loopbounds.rows import is_settled, next_levels
from loopbounds.running import value_after
from loopbounds.sums import as_sum
from loopbounds.worst import ranges_of, worst_in


class Climb:
    """The greatest values of a sum for one rest, as far as they are needed to know the later ones.

    `places` is the pair (T1, T3) of point 19, and `heights` are the greatest values at the places from 0 to T3. `rises`
    tells whether they become greater for ever behind T3, and `limit` is then what they come near to, None if they grow
    beyond all bounds.
    """

    def __init__(self, settled, heights, rises, limit):
        self.places = (settled, len(heights) - 1)
        self.heights = heights
        self.rises = rises
        self.limit = limit


def limit_of(roots, levels, step, scale):
    """The limit to which a row comes near, None if there is none.

    The roots are its bases, and each level j at some place is told times scale * step ** j.
    """
    below = [base for base in roots if base < 1]
    many = len(below)
    # With a level of a base from 1 on, but for a constant one, the row grows beyond all bounds.
    if any([level != 0 for level in levels[many + 1:]]):
        return None
    limit = Ratio(levels[many], scale * raised(step, many))
    for base in below:
        limit = quotient(limit, 1 - base)
    return limit


def climb_of(course, rest, strand, lows):
    """The climb for a rest, told by its settled strand for minus the sum and the least values of this before."""
    heights = [-low for low in lows]
    levels = [-level for level in strand.worst_levels()]
    scale = strand.scale
    while True:
        heights.append(Ratio(levels[0], scale))
        behind = next_levels(strand.roots, levels)
        steps = [upper - strand.step * lower for upper, lower in zip(behind, levels)]
        if is_settled(steps):
            break
        if len(heights) > course.farthest(rest):
            raise TooFar()
        levels = behind
        scale = scale * strand.step
    rises = steps[0] >= 0 and any([level != 0 for level in steps])
    limit = limit_of(course.roots, levels, strand.step, scale) if rises else None
    return Climb(strand.place, heights, rises, limit)


def first_endless(strands, span):
    """The least number of rounds after which a sum is without bound below, None if there is none.

    The strands, for all rests in their order, are settled, each in a pair with the least values before.
    """
    found = []
    for rest, (strand, lows) in enumerate(strands):
        row = [*lows, strand.least()]
        if None in row:
            found.append(span * row.index(None) + rest)
    return min(found, default=None, key=int)


def highest(climbs):
    """The pair of the greatest of all heights of climbs, and of the least number of rounds with it."""
    best = climbs[0].heights[0]
    rounds = 0
    for rest, climb in enumerate(climbs):
        for t, height in enumerate(climb.heights):
            n = len(climbs) * t + rest
            if height > best or (height == best and n < rounds):
                best = height
                rounds = n
    return best, rounds


def summit(climbs):
    """The greatest value of all climbs together, None without bound, and its first round, None if it is not reached."""
    best, rounds = highest(climbs)
    for climb in climbs:
        if climb.rises and climb.limit is None:
            return None, None
        if climb.rises and climb.limit > best:
            best = climb.limit
            rounds = None
    return best, rounds


def greatest_and_climbs(loop, total):
    """What greatest returns, and the list of the climbs for all rests, none if there are rounds without bound."""
    check_loop(loop)
    check_total(loop, total)
    course = course_of(loop, -as_sum(total), ranges_of(loop))
    strands = [settled_strand(course, rest) for rest in range(course.span)]
    endless = first_endless(strands, course.span)
    if endless is not None:
        return (None, endless, None), []
    climbs = [climb_of(course, rest, strand, lows) for rest, (strand, lows) in enumerate(strands)]
    value, rounds = summit(climbs)
    if rounds is None:
        return (value, None, None), climbs
    return (value, rounds, worst_in(course.ranges, value_after(loop, -as_sum(total), rounds))), climbs


def greatest(loop, total):
    """The greatest value of a sum over all rounds, its first round, and a beginning; None for what there is not."""
    return greatest_and_climbs(loop, total)[0]


def least(loop, total):
    """The least value of a sum over all rounds, its first round, and a beginning; None for what there is not."""
    check_loop(loop)
    check_total(loop, total)
    value, rounds, beginning = greatest(loop, -as_sum(total))
    return (None if value is None else -value, rounds, beginning)


def least_added(loop, total):
    """The least ratio with which a sum always holds, None if there is none."""
    value = least(loop, total)[0]
    return None if value is None else -value
