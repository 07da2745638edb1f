"""The checker: whether a claim holds, with the help of a certificate. It shares no reckoning with the rest."""

from loopbounds.leveled import common_repeat, is_settled_first, levels_behind, leveled, limit_of, repeat_of, roots_of
from loopbounds.leveled import settled_sign, vanishing
from loopbounds.limits import ROUNDS, VARIABLES
from loopbounds.plain import has_items, is_beginning, is_body, is_called, is_fraction, is_less, is_plain_bases
from loopbounds.plain import is_plain_loop, is_plain_rounds, is_plain_values, is_sum_of, is_whole, names_of, rests_on
from loopbounds.replayed import is_zero_everywhere, number_after, number_at_worst, row_plus, rows_after

MOST_SPAN = 12
# A difference of two loops is a row from the place 6 on at the latest, with one base for each variable of both, and 1.
PLACES_TO_AGREE = 19


def are_equal(one, two):
    """Whether two numbers have the same value, also where they are not in lowest terms."""
    return one[0] * two[1] == two[0] * one[1]


def is_question(loop, total):
    """Whether two values are a loop and a sum of its variables."""
    return is_plain_loop(loop) and is_sum_of(total, loop)


def are_places(value, loop):
    """Whether a value is a tuple of pairs of places for all rests, ascending from z on, none of them too far out."""
    span = repeat_of(loop)
    if not has_items(value, span):
        return False
    for rest, pair in enumerate(value):
        if not has_items(pair, 2) or not is_whole(pair[1], 0, (ROUNDS - rest) // span):
            return False
        if not is_whole(pair[0], vanishing(loop), pair[1]):
            return False
    return True


def strands_of(loop, total, places):
    """For each rest, the rows of a sum at all places up to the last of these, and at as many more as are needed."""
    span = repeat_of(loop)
    many = max([last for _, last in places], key=int) + len(roots_of(loop)) + 2
    rows = rows_after(loop, total, span * many - 1)
    return [rows[rest::span] for rest in range(span)]


def lows_in(strand, loop, settled):
    """The least values at all places of a strand; None if a place is not T1, or if there are values without bound."""
    ranges = loop[0]
    wide = [at for at, (_, low, high) in enumerate(ranges, start=1) if low != high]
    columns = [[(row[1][at], row[0]) for row in strand] for at in wide]
    if not is_settled_first(roots_of(loop), columns, vanishing(loop), settled):
        return None
    lows = [number_at_worst(row, ranges) for row in strand]
    return None if None in lows else lows


def holds_on(strand, loop, pair):
    """Whether a sum holds at all places of a strand, and a pair of places is (T1, T2)."""
    lows = lows_in(strand, loop, pair[0])
    if lows is None or any([top < 0 for top, _ in lows]):
        return False
    return is_settled_first(roots_of(loop), [lows], pair[0], pair[1])


def is_always(loop, total, certificate):
    """Whether a sum always holds, with these places for the rests."""
    if not is_question(loop, total) or not are_places(certificate, loop):
        return False
    strands = strands_of(loop, total, certificate)
    return all([holds_on(strand, loop, pair) for strand, pair in zip(strands, certificate)])


def is_break(loop, total, rounds, certificate):
    """Whether a sum is less than 0 after so many rounds from a beginning."""
    if not is_question(loop, total) or not is_plain_rounds(rounds) or not is_beginning(certificate, loop[0]):
        return False
    return number_after(loop, total, certificate, rounds)[0] < 0


def is_first_break(loop, total, rounds, certificate):
    """Whether a sum is less than 0 after so many rounds from a beginning, and after less rounds from none."""
    if not is_break(loop, total, rounds, certificate):
        return False
    lows = [number_at_worst(row, loop[0]) for row in rows_after(loop, total, rounds)[:rounds]]
    return not any([low is None or low[0] < 0 for low in lows])


def climb_on(strand, loop, pair):
    """The greatest values of a sum, on a strand of minus the sum, and a list of the limit to which they rise, if any.

    None if a pair of places is not (T1, T3), or if the values are without bound.
    """
    lows = lows_in(strand, loop, pair[0])
    if lows is None:
        return None
    roots = roots_of(loop)
    steps = [(one[0] * two[1] - two[0] * one[1], one[1] * two[1]) for one, two in zip(lows, lows[1:])]
    if not is_settled_first(roots, [steps], pair[0], pair[1]):
        return None
    heights = [(-top, bottom) for top, bottom in lows]
    ahead = steps[pair[1]:pair[1] + len(roots)]
    if steps[pair[1]][0] < 0 or not any([top != 0 for top, _ in ahead]):
        return heights, []
    limit = limit_of(roots, heights[pair[1]:pair[1] + len(roots)])
    return None if limit is None else (heights, [limit])


def is_reached(loop, total, value, rounds, beginning):
    """Whether a sum has a value after so many rounds from a beginning; without rounds there is no beginning either."""
    if rounds is None:
        return beginning is None
    if not is_plain_rounds(rounds) or not is_beginning(beginning, loop[0]):
        return False
    return are_equal(number_after(loop, total, beginning, rounds), value)


def is_greatest(loop, total, value, rounds, certificate):
    """Whether a value is the greatest one of a sum, first reached after so many rounds, or not reached for None."""
    if not is_question(loop, total) or not is_fraction(value) or not has_items(certificate, 2):
        return False
    places, beginning = certificate
    if not are_places(places, loop) or not is_reached(loop, total, value, rounds, beginning):
        return False
    (top, bottom), parts = total
    minus = ((-top, bottom), tuple([(name, (-number[0], number[1])) for name, number in parts]))
    climbs = [climb_on(strand, loop, pair) for strand, pair in zip(strands_of(loop, minus, places), places)]
    if None in climbs:
        return False
    known = [number for climb in climbs for row in climb for number in row]
    if any([is_less(value, number) for number in known]):
        return False
    limits = [limit for _, near in climbs for limit in near]
    reached = []
    for rest, (heights, _) in enumerate(climbs):
        reached.extend([len(climbs) * t + rest for t, height in enumerate(heights) if are_equal(height, value)])
    if rounds is None:
        return not reached and any([are_equal(limit, value) for limit in limits])
    return min(reached, default=None, key=int) == rounds


def is_comparison(loop, total, other, other_total):
    """Whether four values are a loop, a sum of it, another loop with the same variables and ranges, and a sum of it."""
    return is_question(loop, total) and is_question(other, other_total) and loop[0] == other[0]


def is_agreement(loop, total, other, other_total, certificate):
    """Whether sums of two loops are always equal."""
    if not has_items(certificate, 0) or not is_comparison(loop, total, other, other_total):
        return False
    span = common_repeat(loop, other)
    if span > MOST_SPAN:
        return False
    most = span * PLACES_TO_AGREE - 1
    ones = rows_after(loop, total, most)
    twos = rows_after(other, other_total, most)
    return all([is_zero_everywhere(row_plus(one, (-1, 1), two), loop[0]) for one, two in zip(ones, twos)])


def is_parting(loop, total, other, other_total, rounds, certificate):
    """Whether sums of two loops are not equal after so many rounds from a beginning."""
    if not is_comparison(loop, total, other, other_total):
        return False
    if not is_plain_rounds(rounds) or not is_beginning(certificate, loop[0]):
        return False
    one = number_after(loop, total, certificate, rounds)
    return not are_equal(one, number_after(other, other_total, certificate, rounds))


def is_settling(bases, values, place, sign, certificate):
    """Whether a row settles at a place, with this sign."""
    if not is_plain_bases(bases) or not is_plain_values(values, len(bases)) or not has_items(certificate, 0):
        return False
    if not is_plain_rounds(place) or not is_whole(sign, -1, 1):
        return False
    levels = leveled(bases, values)[1]
    for _ in range(place):
        if settled_sign(levels) != 0:
            return False
        levels = levels_behind(bases, levels)
    return sign != 0 and settled_sign(levels) == sign


def is_ring(body, certificate):
    """Whether assignments, right but for rings, have this ring."""
    if not is_body(body) or not isinstance(certificate, tuple) or len(certificate) < 2:
        return False
    if not all([is_called(name) for name in certificate]):
        return False
    if any([certificate.count(name) > 1 for name in certificate]):
        return False
    known = {word: True for name, total, _, _ in body for word in [name, *names_of(total)]}
    if len(known) > VARIABLES:
        return False
    return all([rests_on(body, one, two) for one, two in zip(certificate, [*certificate[1:], certificate[0]])])


JUDGES = {
    "always": is_always, "breaks": is_break, "first": is_first_break, "greatest": is_greatest, "agree": is_agreement,
    "part": is_parting, "settled": is_settling, "ring": is_ring,
}
# How many items a claim with each of these words has.
LENGTHS = {"always": 3, "breaks": 4, "first": 4, "greatest": 5, "agree": 5, "part": 6, "settled": 5, "ring": 2}


def accepts(claim, certificate):
    """Whether a claim and its certificate have one of the forms that the checker knows, and hold."""
    if not isinstance(claim, tuple) or not claim or not isinstance(claim[0], str):
        return False
    word, *items = claim
    if len(claim) != LENGTHS.get(word, 0):
        return False
    judge = JUDGES[word]
    return judge(*items, certificate)
