"""Whether a claim and its certificate are right, found by the points in Fractions and by the class Loop.

The checker is held against it. It is slow, and it goes by the values themselves: a form is right if what is read from it
is written in the very same way.
"""

from fractions import Fraction
from math import gcd, lcm

from loopbounds.certificates import plain_loop
from loopbounds.errors import InputError, LimitError, StateError
from loopbounds.loops import Loop
from tests.helping import ratio
from tests.models import sum_of, worth
from tests.points import (
    Difference, Far, Points, Row, Values, bases_over, corners, least_of, long_period_of, minus, points_of, zeros_of,
)


class Wrong(Exception):
    """A value does not have the form that is asked for."""


def need(holds):
    if not holds:
        raise Wrong


def whole(value, least, most):
    need(type(value) is int and least <= value <= most)
    return value


def items(value, many=None):
    need(type(value) is tuple and many in (None, len(value)))
    return value


def number(value):
    top, bottom = items(value, 2)
    need(type(top) is int and type(bottom) is int and bottom > 0 and gcd(top, bottom) == 1)
    return Fraction(top, bottom)


def parts(value):
    constant, named = items(value, 2)
    found = {None: number(constant)}
    for part in items(named):
        name, coefficient = items(part, 2)
        need(type(name) is str)
        found[name] = number(coefficient)
        need(found[name] != 0)
    names = [name for name, _ in named]
    need(names == sorted(set(names)))
    return found


def model(value):
    ranges, body = {}, []
    variables, assignments = items(value, 2)
    for triple in items(variables):
        name, low, high = items(triple, 3)
        need(type(name) is str and name != "self")
        ranges[name] = (number(low), None if high is None else number(high))
    for assignment in items(assignments):
        name, total, every, at = items(assignment, 4)
        body.append((name, parts(total), every, at))
    try:
        loop = Loop(**{name: tuple(None if end is None else ratio(end) for end in ends) for name, ends in ranges.items()})
        for name, total, every, at in body:
            need(all(part is None or (part.isalpha() and part != "self") for part in total))
            loop.assign(name, sum_of(total), every=every, at=at)
    except (InputError, StateError, LimitError, TypeError) as error:
        raise Wrong from error
    need(repr(plain_loop(loop)) == repr(value))
    return ranges, body


def question(loop, total):
    told, plain = model(loop), parts(total)
    need(all(name is None or name in told[0] for name in plain))
    return told, plain


def beginning(value, ranges):
    found = {}
    for pair in items(value):
        name, told = items(pair, 2)
        need(type(name) is str)
        found[name] = number(told)
    need([name for name, _ in value] == list(ranges))
    for name, (low, high) in ranges.items():
        need(low <= found[name] and (high is None or found[name] <= high))
    return found


def always(loop, total, certificate):
    found = points_of(*question(loop, total)).signs()
    return repr(certificate) == repr(tuple((first, second) for first, second, _ in found)) and all(
        all(holds) for _, _, holds in found)


def breaks(loop, total, rounds, certificate):
    told, plain = question(loop, total)
    value = Values(told, plain).after(whole(rounds, 0, 1000))
    return worth(value, beginning(certificate, told[0])) < 0


def first(loop, total, rounds, certificate):
    told, plain = question(loop, total)
    values = Values(told, plain)
    leasts = [least_of(values.after(n), told[0]) for n in range(whole(rounds, 0, 1000))]
    return breaks(loop, total, rounds, certificate) and all(least is not None and least >= 0 for least in leasts)


def greatest(loop, total, value, rounds, certificate):
    told, plain = question(loop, total)
    top, reached, places = points_of(told, minus(plain)).highest()
    if top != number(value) or repr(reached) != repr(rounds) or repr(items(certificate, 2)[0]) != repr(tuple(places)):
        return False
    if rounds is None:
        return certificate[1] is None
    return worth(Values(told, plain).after(rounds), beginning(certificate[1], told[0])) == top


def pair(loop, total, other, other_total):
    told, plain = question(loop, total)
    second, less = question(other, other_total)
    need(told[0] == second[0])
    return told, Difference(Values(told, plain), Values(second, less)), second


def agree(loop, total, other, other_total, certificate):
    told, difference, second = pair(loop, total, other, other_total)
    period = lcm(long_period_of(told), long_period_of(second))
    need(repr(certificate) == "()" and period <= 12)
    places = max(zeros_of(told), zeros_of(second)) + len(bases_over([told, second], period))
    for n in range(period * places):
        value = difference.after(n)
        if any(high is None and value.get(name) for name, (_, high) in told[0].items()):
            return False
        if any(worth(value, values) for values in corners(told[0])):
            return False
    return True


def part(loop, total, other, other_total, rounds, certificate):
    told, difference, _ = pair(loop, total, other, other_total)
    value = difference.after(whole(rounds, 0, 1000))
    return worth(value, beginning(certificate, told[0])) != 0


def settled(bases, values, place, sign, certificate):
    roots = [number(base) for base in items(bases)]
    need(1 <= len(roots) <= 12 and roots == sorted(roots) and roots[0] > 0)
    need(all(max(base) <= 10 ** 12 for base in bases))
    known = [number(value) for value in items(values, len(roots))]
    need(repr(certificate) == "()")

    def at(t):
        while len(known) <= t:
            # The level above all is 0: what comes next makes it so.
            tops = known[-len(roots):] + [Fraction(0)]
            for base in roots:
                tops = [later - base * value for value, later in zip(tops, tops[1:])]
            known.append(-tops[0])
        return known[t]

    row = Row(at, roots, 0)
    found = row.settling_place(whole(place, 0, 1000))
    return found == place and repr(sign) == repr(1 if row.at(place) >= 0 else -1)


def ring(assignments, certificate):
    names = {name for name, _, _, _ in map(lambda item: items(item, 4), items(assignments))}
    totals = {name: set() for name in names if type(name) is str}
    for name, total, _, _ in assignments:
        need(type(name) is str)
        totals[name] |= {other for other in parts(total) if other is not None}
    need(len(names.union(*totals.values())) <= 6)
    # Each assignment by itself is one of a loop, but for what it shares with others.
    every_name = sorted(names.union(*totals.values()))
    for assignment in assignments:
        model((tuple((name, (0, 1), (0, 1)) for name in every_name), (assignment,)))
    need(len(assignments) <= 12 and lcm(*[every for _, _, every, _ in assignments], 1) <= 6)
    for n in range(6):
        done = [name for name, _, every, at in assignments if n % every == at]
        need(len(done) == len(set(done)))
    row = items(certificate)
    need(len(row) > 1 and all(type(name) is str for name in row) and len(set(row)) == len(row))
    return all(two in totals.get(one, ()) for one, two in zip(row, row[1:] + row[:1]))


KINDS = {"always": always, "breaks": breaks, "first": first, "greatest": greatest, "agree": agree, "part": part,
         "settled": settled, "ring": ring}


def is_right(claim, certificate):
    """Whether a claim and its certificate have a form that the document tells, and hold."""
    if type(claim) is not tuple or not claim or type(claim[0]) is not str or claim[0] not in KINDS:
        return False
    kind = KINDS[claim[0]]
    if len(claim) != kind.__code__.co_argcount:
        return False
    try:
        return kind(*claim[1:], certificate)
    except (Wrong, Far):
        return False


def spoilt(value):
    """Values that are like this one but for one thing."""
    if isinstance(value, tuple):
        yield list(value)
        yield value + (0,)
        yield from (value[:-1], value[1:], value * 2) if value else (((),),)
        if len(value) > 1:
            yield value[::-1]
            yield (value[1], value[0]) + value[2:]
        for at, item in enumerate(value):
            for other in spoilt(item):
                yield value[:at] + (other,) + value[at + 1:]
        if len(value) == 2 and all(type(item) is int for item in value):
            yield from ((value[0] * 2, value[1] * 2), (-value[0], -value[1]), (value[0], -value[1]), value[0])
    elif isinstance(value, str):
        yield from (value + "a", value.upper(), "", "self", value.encode(), 1, None, "b", "x")
    elif value is None:
        yield from (0, (0, 1), False, (), "", 10 ** 9, ((10 ** 9, 1)))
    else:
        yield from (value + 1, value - 1, -value if value else 7, bool(value), str(value), None, (value,), value + 2,
                    1000, 1001, Fraction(value))
