"""Loops as plain Python values, reckoned with in Fractions, to hold the program against.

A model is a pair: a dict of the ranges (low, high) by the names, and the list of the assignments (name, parts, every,
at), where the parts are a dict of the coefficients by the names, with that of the constant under None.
"""

import random
from fractions import Fraction

from loopbounds.loops import Loop
from loopbounds.sums import Sum
from tests.helping import ratio

NAMES = ("a", "at", "b", "every", "in", "loop", "rounds", "total", "x", "z")
OWN = (0, 0, 1, 1, 1, 2, -1, -2, Fraction(1, 2), Fraction(-1, 3), Fraction(3, 2), Fraction(9, 8), 9, -9)
OTHERS = (1, -1, 2, -3, Fraction(1, 2), Fraction(-5, 3), 0)
CONSTANTS = (0, 0, 1, -1, 5, -7, Fraction(1, 3), 1000, Fraction(-999, 8))
ENDS = (0, 1, -1, 3, Fraction(-1, 2), Fraction(7, 3), -10)


def sum_of(parts):
    """The Sum with these parts."""
    return Sum(ratio(parts.get(None, 0)), **{name: ratio(parts[name]) for name in parts if name is not None})


def loop_of(model):
    """The Loop that a model tells of."""
    ranges, body = model
    loop = Loop(**{name: tuple(None if end is None else ratio(end) for end in ranges[name]) for name in ranges})
    for name, parts, every, at in body:
        loop.assign(name, sum_of(parts), every=every, at=at)
    return loop


def random_range(source):
    low, high = sorted((source.choice(ENDS), source.choice(ENDS)))
    kind = source.randrange(4)
    return (low, low) if kind == 0 else (low, None) if kind == 1 else (low, high)


def random_slots(source, period):
    """Some pairs (every, at), no two of them in one round."""
    pairs = [(every, at) for every in range(1, 7) if period % every == 0 for at in range(every)]
    taken, slots = set(), []
    for every, at in source.sample(pairs, len(pairs)):
        rounds = set(range(at, period, every))
        if not rounds & taken and source.randrange(4):
            slots.append((every, at))
            taken |= rounds
    return slots


def random_model(seed, own=OWN):
    """A model of a loop with a random body, always the same one for the same seed."""
    source = random.Random(seed)
    names = source.sample(NAMES, source.randint(1, 6))
    period = source.randint(1, 6)
    body = []
    for count, name in enumerate(names):
        for every, at in random_slots(source, period):
            parts = {other: Fraction(source.choice(OTHERS)) for other in names[:count]}
            parts[name] = Fraction(source.choice(own))
            parts[None] = Fraction(source.choice(CONSTANTS))
            body.append((name, parts, every, at))
    source.shuffle(body)
    return {name: random_range(source) for name in sorted(names)}, body[:12]


def random_parts(seed, names):
    """The parts of a random sum with some of these names."""
    source = random.Random(seed)
    parts = {name: Fraction(source.choice(OTHERS)) for name in names}
    parts[None] = Fraction(source.choice(CONSTANTS))
    return parts


def worth(parts, values):
    """The value of a sum with these parts for a dict of numbers."""
    return sum((parts[name] * values[name] for name in parts if name is not None), Fraction(parts.get(None, 0)))


def run(model, rounds, values):
    """The dict of the values of all variables after so many rounds."""
    now = dict(values)
    for n in range(rounds):
        for name, parts, every, at in model[1]:
            if n % every == at:
                now[name] = worth(parts, now)
    return now


def parts_after(model, parts, rounds):
    """The parts of the value of a sum after so many rounds, as a sum of the beginnings.

    They are told by runs from beginnings in which one variable at most is 1 and the others are 0.
    """
    names = list(model[0])
    found = {None: worth(parts, run(model, rounds, dict.fromkeys(names, 0)))}
    for name in names:
        unit = {other: int(other == name) for other in names}
        found[name] = worth(parts, run(model, rounds, unit)) - found[None]
    return found
