"""loopbounds.ends: points 13, 16 and 17 and the section on ends, with points 2 to 7 for them."""

import random
from fractions import Fraction

from loopbounds.ends import fewest_rounds, rounds_until
from loopbounds.errors import InvalidName, InvalidRatio, NotALoop, NotASum, TooFar, UnknownName
from loopbounds.holding import first_break
from loopbounds.loops import Loop
from loopbounds.ratios import Ratio
from loopbounds.sums import Sum
from tests.helping import NO_KEYWORDS, NO_NUMBERS, Checks, nested, ratio
from tests.models import loop_of, random_model, random_parts, run, sum_of, worth
from tests.points import Far, points_of
from tests.test_holding import changing_coefficient, counter
from tests.test_loops import state
from tests.test_running import NO_LOOPS

VALUES = (0, 1, -1, 5, Fraction(1, 2), Fraction(-7, 3), 10 ** 12, Fraction(1, 10 ** 12))


class RoundsUntilTest(Checks):
    def test_models(self):
        told = []
        for seed in range(150):
            model = random_model(seed)
            loop, parts, source = loop_of(model), random_parts(seed, model[0]), random.Random(seed)
            before = state(loop)
            values = {name: Fraction(source.choice(VALUES)) for name in model[0]}
            passed = {name: ratio(value) if seed % 2 else value.numerator if value.denominator == 1 else ratio(value)
                      for name, value in values.items()}
            # A guard that is 0 at the beginning, or a little more.
            parts[None] -= worth(parts, values) - source.choice((0, 0, 1, 20, Fraction(1, 3)))
            points = points_of(model, parts, {name: (value, value) for name, value in values.items()})
            try:
                wanted = points.first_break()
            except Far:
                self.check_raised(TooFar, {}, rounds_until, loop, sum_of(parts), **passed)
                continue
            told.append(wanted)
            self.check_same(rounds_until(loop, sum_of(parts), **passed), wanted)
            self.check_plain_run(model, parts, values, wanted)
            self.assertEqual(state(loop), before)
        self.assertGreater(told.count(None), 20)
        self.assertGreater(len([rounds for rounds in told if rounds not in (None, 1)]), 20)

    def check_plain_run(self, model, parts, values, wanted):
        for rounds in range(60 if wanted is None else min(wanted, 60)):
            self.assertGreaterEqual(worth(parts, run(model, rounds, values)), 0)
        if wanted is not None and wanted < 200:
            self.assertLess(worth(parts, run(model, wanted, values)), 0)

    def test_known_ends(self):
        loop = Loop(x=(1, 3), y=0)
        loop["x"] = 2 * loop["x"] - 1
        x, y = loop["x"], loop["y"]
        for guard, start, rounds in (
            (100 - x, 2, 7), (100 - x, 1, None), (100 - x, 101, 0), (100 - x, 100, 1), (x, 0, 1), (x, -1, 0),
            (100 - x, Ratio(-1, 2), None), (x + 100, Ratio(1, 2), 8), (x - 1, 1, None), (0, 5, None), (-1, 5, 0),
            (Ratio(-1, 9), 5, 0), (7, 5, None), (y, 5, None), (-y, 5, None),
        ):
            self.check_same(rounds_until(loop, guard, x=start, y=0), rounds)

    def test_the_beginnings_need_not_lie_in_the_ranges(self):
        loop = Loop(x=(0, 1))
        loop["x"] -= 1
        for number, rounds in ((-5, 0), (0, 1), (0.5, 1), (7, 8), (999, 1000)):
            self.check_same(rounds_until(loop, loop["x"], x=ratio(number)), rounds)
        self.check_same(rounds_until(loop, loop["x"] - 10 ** 40, x=10 ** 40 + 9), 10)
        self.check_same(rounds_until(loop, Sum(x=1), x=Ratio(1, 10 ** 30)), 1)
        self.check_raised(TooFar, {}, rounds_until, loop, loop["x"], x=1000)

    def test_far_as_with_ranges_of_one_number(self):
        # The coefficient of y settles late, but here y is one number.
        loop = Loop(x=0, y=(2, 3))
        loop["x"] += loop["y"]
        guard = loop["x"] - 1200 * loop["y"] + 3600
        self.check_raised(TooFar, {}, first_break, loop, guard)
        self.check_raised(TooFar, {}, fewest_rounds, loop, guard)
        self.check_same(rounds_until(loop, guard, x=0, y=0), None)
        self.check_same(rounds_until(loop, guard, x=0, y=3), None)
        self.check_raised(TooFar, {}, rounds_until, loop, guard - 3600, x=0, y=2)
        self.check_same(rounds_until(counter(), Sum(x=1) - 1000, x=0), 0)
        self.check_raised(TooFar, {}, rounds_until, counter(), Sum(x=1) - 1001, x=0)
        self.check_same(rounds_until(counter(2, 0), Sum(x=1) - 500, x=0), 0)
        self.check_raised(TooFar, {}, rounds_until, counter(2, 1), Sum(x=1) - 500, x=0)

    def test_own_multipliers_below_0_and_0(self):
        loop = Loop(x=1, y=0)
        loop["y"] = loop["x"]
        loop["x"] *= -1
        self.check_same(rounds_until(loop, loop["y"], x=1, y=5), 2)
        self.check_same(rounds_until(loop, loop["y"], x=-1, y=5), 1)
        self.check_same(rounds_until(loop, loop["y"], x=0, y=5), None)
        self.check_same(rounds_until(loop, loop["y"], x=1, y=-5), 0)

    def test_names_of_variables(self):
        loop = Loop(loop=1, guard=2, total=3, rounds=4)
        loop["loop"] -= loop["total"]
        more = {"loop": 7, "guard": 0, "total": 3, "rounds": 0}
        self.check_same(rounds_until(loop, loop["loop"], **more), 3)
        self.check_same(rounds_until(the_guard=loop["loop"], the_loop=loop, **dict(reversed(more.items()))), 3)


class FewestRoundsTest(Checks):
    def test_models(self):
        for seed in range(80):
            model = random_model(seed)
            loop, parts = loop_of(model), random_parts(seed, model[0])
            try:
                found = first_break(loop, sum_of(parts))
            except TooFar:
                self.check_raised(TooFar, {}, fewest_rounds, loop, sum_of(parts))
                continue
            rounds = fewest_rounds(loop, sum_of(parts))
            self.check_same(rounds, None if found is None else found[0])
            if found is not None:
                self.check_same(rounds_until(loop, sum_of(parts), **dict(found[1])), rounds)
            if not any(end is None for _, end in model[0].values()):
                for side in (0, 1):
                    values = {name: ratio(ends[side]) for name, ends in model[0].items()}
                    self.check_not_fewer(loop, sum_of(parts), values, rounds)

    def check_not_fewer(self, loop, guard, values, rounds):
        try:
            other = rounds_until(loop, guard, **values)
        except TooFar:
            return
        self.assertTrue(other is None or (rounds is not None and rounds <= other))

    def test_known_ends(self):
        loop = Loop(x=(1, 3), y=(0, None))
        loop["x"] = 2 * loop["x"] - 1
        for guard, rounds in (
            (100 - loop["x"], 6), (loop["x"], None), (2 - loop["x"], 0), (10 - loop["y"], 0), (loop["y"], None),
            (0, None),
            (-1, 0),
        ):
            self.check_same(fewest_rounds(loop, guard), rounds)
        self.check_same(fewest_rounds(guard=100 - loop["x"], loop=loop), 6)

    def test_far(self):
        loop, total = changing_coefficient(1000)
        self.check_same(fewest_rounds(loop, total), 0)
        self.check_raised(TooFar, {}, fewest_rounds, loop, -total)
        self.check_raised(TooFar, {}, fewest_rounds, counter(), Sum(x=1) - 1001)


class ErrorsTest(Checks):
    def test_loops_and_guards(self):
        loop = Loop(x=1, y=1)
        for value in NO_LOOPS:
            self.check_error(NotALoop, {"value": value}, fewest_rounds, value, None)
            self.check_error(NotALoop, {"value": value}, rounds_until, value, None, A=None)
        for value in NO_NUMBERS + (nested(70), loop):
            self.check_error(NotASum, {"value": value}, fewest_rounds, loop, value)
            self.check_error(NotASum, {"value": value}, rounds_until, loop, value, A=None)
        self.check_error(UnknownName, {"name": "a"}, fewest_rounds, loop, Sum(x=1, z=1, a=1))
        self.check_error(UnknownName, {"name": "a"}, rounds_until, loop, Sum(x=1, z=1, a=1), A=None)

    def test_beginnings(self):
        loop = Loop(x=1, y=1)
        for name in NO_KEYWORDS:
            self.check_raised(InvalidName, {"name": name}, rounds_until, loop, 1, **{name: None})
        self.check_raised(UnknownName, {"name": "z"}, rounds_until, loop, 1, z=None, x=1)
        for value in NO_NUMBERS + (nested(70), Sum(1)):
            self.check_error(InvalidRatio, {"value": value}, rounds_until, loop, 1, x=value, y="y", z=None)
        self.check_raised(UnknownName, {"name": "x"}, rounds_until, loop, 1)
        self.check_raised(UnknownName, {"name": "y"}, rounds_until, loop, 1, x=1)
        self.check_raised(UnknownName, {"name": "z"}, rounds_until, loop, 1, z=1)

    def test_too_far_comes_last(self):
        self.check_raised(UnknownName, {"name": "x"}, rounds_until, counter(), Sum(x=1) - 5000)
        self.check_raised(UnknownName, {"name": "a"}, fewest_rounds, counter(), Sum(x=1, a=1) - 5000)
