"""loopbounds.structure: points 11 and 12 and the section on structure, with points 3 to 7 for them."""

import itertools
from fractions import Fraction

from loopbounds.errors import NotALoop
from loopbounds.loops import Loop
from loopbounds.ratios import Ratio
from loopbounds.structure import bases, long_period, multipliers, order, zeros
from loopbounds.sums import Sum
from tests.helping import Checks, fraction
from tests.models import loop_of, random_model, run
from tests.test_loops import state
from tests.test_running import NO_LOOPS


def long_multipliers(model, rounds):
    """The long multipliers, told by runs in which only the variable itself is not 0."""
    found = {}
    for name in model[0]:
        steps = [(other, {name: parts[name]}, every, at) for other, parts, every, at in model[1] if other == name]
        found[name] = Fraction(run((model[0], steps), rounds, {name: 1})[name])
    return found


def first_order(model):
    """The first order in which each variable rests on earlier ones alone, found among all orders."""
    edges = [(name, other) for name, parts, _, _ in model[1] for other in parts
             if other not in (None, name) and parts[other] != 0]
    for chosen in itertools.permutations(sorted(model[0])):
        if all(chosen.index(other) < chosen.index(name) for name, other in edges):
            return chosen


class StructureTest(Checks):
    def check_structure(self, loop, many, pairs, row):
        self.check_same(long_period(loop), many)
        self.check_same(multipliers(loop), tuple((name, Ratio(number) if isinstance(number, int) else number)
                                                 for name, number in pairs))
        self.check_same(bases(loop), tuple(Ratio(number) if isinstance(number, int) else number for number in row))
        self.check_same(zeros(loop), len([number for _, number in pairs if number == 0]))
        for number in bases(loop) + tuple(number for _, number in multipliers(loop)):
            self.assertIs(type(number), Ratio)

    def test_models(self):
        doubled = 0
        for seed in range(300):
            model = random_model(seed)
            loop = loop_of(model)
            before = state(loop)
            period = loop.period
            if any(number < 0 for number in long_multipliers(model, period).values()):
                period = 2 * period
                doubled += 1
            wanted = long_multipliers(model, period)
            self.check_same(long_period(loop), period)
            self.assertEqual([(name, fraction(number)) for name, number in multipliers(loop)], sorted(wanted.items()))
            self.assertEqual([fraction(base) for base in bases(loop)],
                             sorted([Fraction(1)] + [number for number in wanted.values() if number != 0]))
            self.check_same(zeros(loop), list(wanted.values()).count(0))
            self.check_same(order(loop), first_order(model))
            self.assertEqual(state(loop), before)
        self.assertTrue(50 < doubled < 250)

    def test_no_assignments(self):
        loop = Loop(x=1, a=2)
        self.check_structure(loop, 1, (("a", 1), ("x", 1)), (1, 1, 1))
        self.check_same(order(loop), ("a", "x"))

    def test_an_own_multiplier_that_is_not_in_the_sum(self):
        loop = Loop(x=1, y=1)
        loop.assign("x", loop["y"] + 1, every=2, at=1)
        loop.assign("x", 3 * loop["x"], every=2, at=0)
        self.check_structure(loop, 2, (("x", 0), ("y", 1)), (1, 1))
        loop.assign("y", 5)
        self.check_structure(loop, 2, (("x", 0), ("y", 0)), (1,))

    def test_long_multipliers_below_0(self):
        loop = Loop(x=1, y=1)
        loop.assign("x", -2 * loop["x"])
        self.check_structure(loop, 2, (("x", 4), ("y", 1)), (1, 1, 4))
        loop.assign("y", -loop["y"], every=2)
        # Over the period 2 that of x is 4, but that of y -1.
        self.check_structure(loop, 4, (("x", 16), ("y", 1)), (1, 1, 16))
        loop.drop(1)
        loop.assign("y", -loop["y"], every=2)
        loop.assign("y", Ratio(-1, 3) * loop["y"], every=2, at=1)
        self.check_structure(loop, 2, (("x", 4), ("y", Ratio(1, 3))), (Ratio(1, 3), 1, 4))

    def test_the_greatest_periods_and_multipliers(self):
        loop = Loop(x=1, y=1)
        for at in range(6):
            loop.assign("x", loop["x"] * (-9 if at == 0 else 9), every=6, at=at)
            loop.assign("y", loop["y"] * Ratio(1, 9), every=6, at=at)
        self.check_structure(loop, 12, (("x", 9 ** 12), ("y", Ratio(1, 9 ** 12))), (Ratio(1, 9 ** 12), 1, 9 ** 12))
        for every in range(1, 7):
            loop = Loop(x=1)
            loop.assign("x", loop["x"] * -1, every=every, at=every - 1)
            self.check_structure(loop, 2 * every, (("x", 1),), (1, 1))
            if every > 1:
                loop.assign("x", loop["x"] * -1, every=every, at=0)
                self.check_structure(loop, every, (("x", 1),), (1, 1))

    def test_six_variables(self):
        loop = Loop(a=1, b=1, c=1, d=1, e=1, f=1)
        for name, number in zip("abcdef", (4, Ratio(1, 2), 1, 4, 0, 2)):
            loop.assign(name, loop[name] * number)
        self.check_structure(loop, 1, tuple(zip("abcdef", (4, Ratio(1, 2), 1, 4, 0, 2))), (Ratio(1, 2), 1, 1, 2, 4, 4))

    def test_orders(self):
        loop = Loop(a=1, b=1, c=1, d=1)
        self.check_same(order(loop), ("a", "b", "c", "d"))
        loop.assign("a", loop["d"])
        self.check_same(order(loop), ("b", "c", "d", "a"))
        loop.assign("b", loop["c"] + loop["b"], every=6, at=5)
        self.check_same(order(loop), ("c", "b", "d", "a"))
        loop.assign("c", loop["a"] * Ratio(1, 9), every=2)
        self.check_same(order(loop), ("d", "a", "c", "b"))

    def test_a_coefficient_that_was_0_is_no_rest(self):
        loop = Loop(a=1, b=1)
        loop.assign("a", Sum(1, b=0, a=1))
        self.check_same(order(loop), ("a", "b"))

    def test_wrong_loops(self):
        for call in (long_period, multipliers, bases, zeros, order):
            for value in NO_LOOPS:
                self.check_error(NotALoop, {"value": value}, call, value)
                self.check_error(NotALoop, {"value": value}, call, loop=value)
