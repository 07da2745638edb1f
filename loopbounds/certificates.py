"""Claims with certificates, of which the checker accepts each one."""

from loopbounds.comparing import parting
from loopbounds.errors import NotASum
from loopbounds.extremes import greatest_and_climbs
from loopbounds.holding import first_break, signs_in
from loopbounds.loops import check_loop
from loopbounds.ratios import as_ratio
from loopbounds.rows import settling_place
from loopbounds.sums import as_sum, is_total


def plain_number(number):
    """A number as the checker writes it."""
    ratio = as_ratio(number)
    return (ratio.top, ratio.bottom)


def plain_numbers(numbers):
    """A tuple of numbers as the checker writes it."""
    return tuple([plain_number(number) for number in numbers])


def plain_sum(total):
    """A sum as the checker writes it."""
    if not is_total(total):
        raise NotASum(total)
    told = as_sum(total)
    parts = [(name, plain_number(told.coefficient_of(name))) for name in told.names]
    return (plain_number(told.constant), tuple(parts))


def plain_end(end):
    """An end of a range as the checker writes it, None for no end."""
    return None if end is None else plain_number(end)


def plain_loop(loop):
    """A loop as the checker writes it."""
    check_loop(loop)
    ranges = [(name, *loop.range_of(name)) for name in loop.names]
    triples = tuple([(name, plain_end(low), plain_end(high)) for name, low, high in ranges])
    return (triples, tuple([(name, plain_sum(total), every, at) for name, total, every, at in loop.body]))


def plain_beginning(beginning):
    """A beginning as the checker writes it."""
    return tuple([(name, plain_number(number)) for name, number in beginning])


def certify_holding(loop, total):
    """The claim that a sum always holds, or after which number of rounds it first does not."""
    found = first_break(loop, total)
    if found is not None:
        rounds, beginning = found
        return (("first", plain_loop(loop), plain_sum(total), rounds), plain_beginning(beginning))
    places = tuple([(settled, len(signs) - 1) for settled, signs in signs_in(loop, total)])
    return (("always", plain_loop(loop), plain_sum(total)), places)


def certify_greatest(loop, total):
    """The claim of the greatest value of a sum over all rounds, None instead of it if this is without bound."""
    (value, rounds, beginning), climbs = greatest_and_climbs(loop, total)
    if value is None:
        return None
    claim = ("greatest", plain_loop(loop), plain_sum(total), plain_number(value), rounds)
    places = tuple([climb.places for climb in climbs])
    return (claim, (places, None if beginning is None else plain_beginning(beginning)))


def certify_agreement(loop, total, other, other_total):
    """The claim that sums of two loops agree, or after which number of rounds they first do not."""
    found = parting(loop, total, other, other_total)
    sums = (plain_loop(loop), plain_sum(total), plain_loop(other), plain_sum(other_total))
    if found is None:
        return (("agree", *sums), ())
    rounds, beginning = found
    return (("part", *sums, rounds), plain_beginning(beginning))


def certify_settling(bases, values):
    """The claim of the settling place and the sign of a row."""
    place, sign = settling_place(bases, values)
    return (("settled", plain_numbers(bases), plain_numbers(values), place, sign), ())
