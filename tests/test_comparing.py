"""loopbounds.comparing: points 11, 13 and 18 and the section on comparing, with points 2 to 7 for them."""

import random
from fractions import Fraction
from math import lcm

from loopbounds.comparing import agree, never_less, parting
from loopbounds.errors import NotALoop, NotASum, TooFar, TooMany, UnknownName, UnlikeRanges
from loopbounds.loops import Loop
from loopbounds.ratios import Ratio
from loopbounds.running import value_after
from loopbounds.structure import long_period
from loopbounds.sums import Sum
from tests.helping import NO_NUMBERS, Checks, nested
from tests.models import loop_of, random_model, random_parts, sum_of, worth
from tests.points import Difference, Far, Points, Values, bases_over, corners, long_period_of, zeros_of
from tests.test_holding import changing_coefficient, counter
from tests.test_loops import state
from tests.test_running import NO_LOOPS


def changed(seed, model):
    """A model with the same ranges: the same body in another way, or one with a change."""
    source = random.Random(seed)
    body = [(name, dict(parts), every, at) for name, parts, every, at in model[1]]
    kind = source.randrange(5)
    if kind == 0:
        # Each assignment as two that are done in turn, as far as the body has room and the period stays.
        period = lcm(*[every for _, _, every, _ in body], 1)
        twice = [k for k, (_, _, every, _) in enumerate(body) if period % (2 * every) == 0][:12 - len(body)]
        body = [(name, parts, 2 * every, at + half) if k in twice else (name, parts, every, at)
                for k, (name, parts, every, at) in enumerate(body)
                for half in ((0, every) if k in twice else (0,))]
    elif kind > 1 and body:
        name, parts, _, _ = source.choice(body)
        if kind == 2:
            parts[None] = -parts[None]
        elif kind == 3:
            parts[name] = -parts[name]
        else:
            del body[source.randrange(len(body))]
    return model[0], body


class ComparingChecks(Checks):
    def check_parting(self, one, total, two, other_total, rounds):
        """The sums part after so many rounds, with a beginning that shows it; None if they agree."""
        found = parting(one, total, two, other_total)
        self.assertIs(agree(one, total, two, other_total), rounds is None)
        if rounds is None:
            self.assertIsNone(found)
            return
        self.assertIs(type(found), tuple)
        self.check_same(found[0], rounds)
        self.check_beginning(one, found[1])
        values = [value_after(each, part, rounds).at(**dict(found[1]))
                  for each, part in ((one, total), (two, other_total))]
        self.assertNotEqual(*values)


class ModelsTest(ComparingChecks):
    def test_models(self):
        told = []
        for seed in range(150):
            model = random_model(seed)
            ranges = model[0]
            if seed % 4 == 0:
                ranges = {name: (low, low) for name, (low, _) in ranges.items()}
            model = ranges, model[1]
            other = changed(seed, model)
            parts = random_parts(seed, ranges)
            less = dict(parts)
            less[None] -= random.Random(seed).choice((0, 0, 0, 1, 10 ** 6, Fraction(1, 7)))
            told.append(self.check_models(model, parts, other, less))
        self.assertGreater(told.count((None, True)), 20)
        self.assertGreater(len([rounds for rounds, _ in told if rounds]), 10)
        self.assertGreater([kind for _, kind in told].count(False), 20)
        self.assertGreater(len([rounds for rounds, kind in told if rounds is not None and kind is True]), 10)

    def check_models(self, model, parts, other, less):
        one, two = loop_of(model), loop_of(other)
        before = state(one), state(two)
        total, other_total = sum_of(parts), sum_of(less)
        period = lcm(long_period_of(model), long_period_of(other))
        difference = Difference(Values(model, parts), Values(other, less))
        rounds = next((n for n in range(100) if self.differ(difference.after(n), model[0])), None)
        self.check_parting(one, total, two, other_total, rounds)
        points = Points(difference, period, bases_over([model, other], period),
                        max(zeros_of(model), zeros_of(other)), model[0])
        try:
            never = points.first_break() is None
            self.assertIs(never_less(one, total, two, other_total), never)
        except Far:
            never = "far"
            self.check_raised(TooFar, {}, never_less, one, total, two, other_total)
        self.assertEqual((state(one), state(two)), before)
        return rounds, never

    def differ(self, parts, ranges):
        if any(high is None and parts.get(name) for name, (_, high) in ranges.items()):
            return True
        return any(worth(parts, values) for values in corners(ranges))


class PartingTest(ComparingChecks):
    def test_known_partings(self):
        one, two = Loop(x=(0, 5), y=0), Loop(x=(0, 5), y=0)
        one["x"] = 2 * one["x"] + 1
        two.assign("x", 4 * two["x"] + 3, every=2)
        x, y = one["x"], one["y"]
        self.check_parting(one, x, two, x, 1)
        self.check_parting(one, x, two, x + y, 1)
        self.check_parting(one, x, one, x + y, None)
        self.check_parting(one, 0, two, y, None)
        self.check_parting(one, 3, two, 3, None)
        self.check_parting(one, 3, two, 4, 0)
        self.check_parting(one, x, one.copy(), x + Ratio(1, 10 ** 30), 0)
        self.check_parting(one, x - x, two, 0 * x, None)

    def test_the_same_told_in_another_way(self):
        one, two = Loop(x=(0, None)), Loop(x=(0, None))
        one.assign("x", -one["x"] + 1, every=2)
        two.assign("x", -two["x"] + 1, every=4, at=0)
        two.assign("x", -two["x"] + 1, every=4, at=2)
        self.check_same((long_period(one), long_period(two)), (4, 4))
        self.check_parting(one, one["x"], two, two["x"], None)
        self.check_parting(one, one["x"], two, 1 - two["x"], 0)
        two = Loop(x=(0, None))
        two.assign("x", -two["x"] + 1, every=6, at=0)
        two.assign("x", 1 - two["x"], every=6, at=2)
        two.assign("x", 1 - two["x"], every=6, at=4)
        self.check_same(long_period(two), 12)
        self.check_parting(one, one["x"], two, two["x"], None)
        self.check_parting(two, two["x"], one, one["x"] + 1, 0)

    def test_beginnings_of_one_number(self):
        """With one beginning alone, what happens for others does not matter."""
        one, two = Loop(x=1, y=(0, 1)), Loop(x=1, y=(0, 1))
        one["x"] *= 2
        two["x"] = 3 * two["x"] - 1
        self.check_parting(one, one["x"], two, two["x"], 2)
        two = Loop(x=1, y=(0, 1))
        two["y"] += 0
        self.check_parting(one, one["y"], two, two["x"] + two["y"] - 1, None)
        one, two = Loop(x=1), Loop(x=1)
        two["x"] = 3 * two["x"] - 2
        self.check_parting(one, one["x"], two, two["x"], None)
        one, two = Loop(x=(1, 2)), Loop(x=(1, 2))
        two["x"] = 3 * two["x"] - 2
        self.check_parting(one, one["x"], two, two["x"], 1)

    def test_equal_at_the_low_ends(self):
        one, two = Loop(x=(0, 3), y=(1, 4)), Loop(x=(0, 3), y=(1, 4))
        two["x"] *= 2
        two["y"] += two["x"]
        self.check_parting(one, one["y"], two, two["y"], 1)
        one, two = Loop(x=(0, None)), Loop(x=(0, None))
        two["x"] *= -5
        self.check_parting(one, one["x"], two, two["x"], 1)

    def test_late_partings(self):
        """Sums may agree for as long as there are bases and vanishing variables, and part then."""
        names = "abcdef"
        one, two = (Loop(**{name: 0 for name in names}) for _ in range(2))
        for each, last in ((one, 1), (two, 2)):
            for name, ahead in zip("bcdef", names):
                each.assign(name, each[name] + each[ahead])
            each.assign("a", each["a"] + last)
        self.check_parting(one, one["f"], two, two["f"], 2)
        one, two = (Loop(**{name: 0 for name in names}) for _ in range(2))
        for each, last in ((one, 1), (two, 2)):
            for name, behind in zip("fedcb", "edcba"):
                each.assign(name, each[name] + each[behind])
            each.assign("a", last)
        # f changes after six rounds: a is set in the first one, and each other variable follows one later.
        self.check_parting(one, one["f"], two, two["f"], 6)
        self.assertIs(never_less(two, two["f"], one, one["f"]), True)
        self.assertIs(never_less(one, one["f"], two, two["f"]), False)

    def test_late_partings_with_a_long_period(self):
        names = "abcdef"
        one, two = (Loop(**{name: 0 for name in names}) for _ in range(2))
        for each, last in ((one, 1), (two, 2)):
            for name, behind in zip("fedcb", "edcba"):
                each.assign(name, each[name] + each[behind], every=6, at=5)
            each.assign("a", -each["a"] + last, every=6, at=5)
        self.check_same(long_period(one), 12)
        self.check_parting(one, one["f"], two, two["f"], 36)

    def test_a_variable_that_vanishes(self):
        one, two = Loop(x=(0, 3), y=0), Loop(x=(0, 3), y=0)
        for each in (one, two):
            each["x"] = 5
        two["y"] = two["x"] - 5
        self.check_parting(one, one["x"], two, two["x"], None)
        self.check_parting(one, one["y"], two, two["y"], None)
        two = Loop(x=(0, 3), y=0)
        two["y"] = two["x"] - 5
        two["x"] = 5
        self.check_parting(one, one["y"], two, two["y"], 1)

    def test_arguments_by_name(self):
        one = Loop(x=(0, 5))
        more = {"other_total": one["x"], "other": one.copy(), "total": one["x"], "loop": one}
        self.assertIs(agree(**more), True)
        self.assertIs(parting(**more), None)
        self.assertIs(never_less(**more), True)


class NeverLessTest(ComparingChecks):
    def test_known_loops(self):
        one, two = Loop(x=(0, 5), y=0), Loop(x=(0, 5), y=0)
        one["x"] = 2 * one["x"] + 1
        two.assign("x", 4 * two["x"] + 3, every=2)
        x = one["x"]
        for wanted, args in (
            (True, (two, x, one, x)), (False, (one, x, two, x)), (True, (one, x, one, x)),
            (False, (one, x, one, x + 1)),
            (True, (one, x + 1, one, x)), (True, (one, 5, two, 4)), (False, (one, 4, two, 5)), (True, (one, 4, two, 4)),
            (True, (one, x, two, one["y"])), (True, (one, 2 * x + 2, two, x)), (False, (one, 2 * x - 1, two, x)),
        ):
            self.assertIs(never_less(*args), wanted, str(args[1]))

    def test_without_an_upper_end(self):
        one, two = Loop(x=(0, None), y=(0, None)), Loop(x=(0, None), y=(0, None))
        one["x"] += one["y"]
        self.assertIs(never_less(one, one["x"], two, two["x"]), True)
        self.assertIs(never_less(two, two["x"], one, one["x"]), False)
        self.assertIs(never_less(one, one["x"] + one["y"], two, two["x"] + 2 * two["y"]), False)

    def test_far(self):
        one, total = changing_coefficient(1000)
        still = Loop(x=0, y=(1, 2))
        self.assertIs(never_less(one, total, still, 0), False)
        self.assertIs(never_less(one, total + 2000, still, 0), True)
        self.check_raised(TooFar, {}, never_less, still, 0, one, total)
        for other, fine in ((999, True), (1000, True), (1001, False)):
            args = (counter(), Sum(x=1), Loop(x=0), other)
            if fine:
                self.assertIs(never_less(*args), False)
            else:
                self.check_raised(TooFar, {}, never_less, *args)
            self.assertIs(agree(*args), False)

    def test_far_by_the_common_period(self):
        # For one loop alone the rests are those by 1; with another one of the period 3, n is 3 t + r.
        other = counter(3, 0)
        self.assertIs(never_less(counter(), Sum(x=1), Loop(x=0), 1000), False)
        # The difference is 2 t, 2 t and 2 t + 1 for the rests 0, 1 and 2: 333 is the last place for 0 and 1, not for 2.
        self.assertIs(never_less(counter(), Sum(x=1) - 665, other, Sum(x=1)), False)
        self.check_raised(TooFar, {}, never_less, counter(), Sum(x=1) - 666, other, Sum(x=1))

    def test_far_beside_a_variable_that_vanishes(self):
        # Its long multiplier 0 is no base: the steps of m - k n are less than 0 until the place k.
        one = Loop(m=0, n=0, z=1)
        one["m"] += one["n"]
        one["n"] += 1
        one["z"] = 0
        for many, far in ((1000, False), (1001, True)):
            args = (one, one["m"] - many * one["n"] + 10 ** 6, Loop(m=0, n=0, z=1), 0)
            if far:
                self.check_raised(TooFar, {}, never_less, *args)
            else:
                self.assertIs(never_less(*args), True)

    def test_the_greater_z(self):
        # T1 is at least z, here 6: only the places before it break it.
        names = "abcdef"
        one, two = (Loop(**{name: (1, 2) for name in names}) for _ in range(2))
        for name, behind in zip("fedcb", "edcba"):
            two.assign(name, two[behind])
        two.assign("a", 0)
        self.assertIs(never_less(one, one["f"], two, two["f"]), False)
        self.assertIs(never_less(two, two["f"], one, one["f"] - 2), True)
        self.assertIs(never_less(one, one["f"] + 1, two, two["f"]), True)


class ErrorsTest(ComparingChecks):
    def check_calls(self, kind, fields, *args):
        for call in (agree, parting, never_less):
            self.check_error(kind, fields, call, *args)

    def test_wrong_arguments(self):
        loop, other = Loop(x=1, y=1), Loop(x=1, y=1)
        for value in NO_LOOPS:
            self.check_calls(NotALoop, {"value": value}, value, None, None, None)
            self.check_calls(NotALoop, {"value": value}, loop, loop["x"], value, None)
        for value in NO_NUMBERS + (nested(70), loop):
            self.check_calls(NotASum, {"value": value}, loop, value, None, None)
            self.check_calls(NotASum, {"value": value}, loop, loop["x"], other, value)
        self.check_calls(UnknownName, {"name": "a"}, loop, Sum(x=1, z=1, a=1), None, None)
        self.check_calls(UnknownName, {"name": "a"}, loop, 1, other, Sum(x=1, z=1, a=1))

    def test_unlike_ranges(self):
        loop = Loop(b=(0, 1), d=(0, None), f=3)
        for name, ranges in (
            ("a", {"a": 1, "b": (0, 1), "d": (0, None), "f": 3}), ("a", {"a": 1}), ("b", {"c": 1}),
            ("b", {"d": (0, None)}),
            ("b", {"b": (0, 2), "d": 0, "f": 3}), ("b", {"b": (0, None), "d": 0, "f": 3}),
            ("c", {"b": (0, 1), "c": 1, "d": 0, "f": 3}), ("d", {"b": (0, 1), "d": (0, 1), "f": 3}),
            ("d", {"b": (0, 1), "d": (1, None), "f": 3}), ("d", {"b": (0, 1), "f": 3}),
            ("f", {"b": (0, 1), "d": (0, None)}),
            ("f", {"b": (0, 1), "d": (0, None), "f": 4}), ("z", {"b": (0, 1), "d": (0, None), "f": 3, "z": 0}),
            ("b", {"b": (Ratio(1, 2), 1), "d": (0, None), "f": 3}),
        ):
            for call in (agree, parting, never_less):
                self.check_raised(UnlikeRanges, {"name": name}, call, loop, 1, Loop(**ranges), None)
        like = Loop(b=(Ratio(0), Ratio(3, 3)), d=(0, None), f=(3, 3))
        self.assertIs(agree(loop, 1, like, 1), True)

    def test_unlike_ranges_come_ahead_of_the_other_sum(self):
        self.check_calls(UnknownName, {"name": "z"}, Loop(x=1), Sum(z=1), Loop(y=1), None)
        for call in (agree, parting, never_less):
            self.check_raised(UnlikeRanges, {"name": "x"}, call, Loop(x=1), 0, Loop(y=1), None)

    def test_too_many(self):
        for periods, signs, found in (
            ((5, 3), (1, 1), 15), ((5, 4), (1, 1), 20), ((5, 6), (1, 1), 30), ((5, 2), (-1, 1), None), ((5, 3),
            (1, -1), 30),
            ((4, 3), (1, 1), None), ((4, 6), (-1, 1), 24), ((4, 6), (1, -1), None), ((4, 6), (-1, -1), 24),
            ((6, 6), (-1, -1), None), ((4, 3), (1, -1), None), ((4, 3), (-1, 1), 24),
        ):
            loops = []
            for every, sign in zip(periods, signs):
                loop = Loop(x=(0, 1))
                loop.assign("x", sign * loop["x"] + 1, every=every)
                loops.append(loop)
            one, two = loops
            for call in (agree, parting, never_less):
                if found is None:
                    self.assertIn(call(one, 0, two, 0), (True, None))
                else:
                    self.check_raised(TooMany, {"found": found}, call, one, 0, two, 0)
                    self.check_raised(UnknownName, {"name": "y"}, call, one, 0, two, Sum(y=1))

    def test_too_many_comes_ahead_of_too_far(self):
        self.check_raised(TooMany, {"found": 20}, never_less, counter(4), Sum(x=1), counter(5), Sum(x=1) + 10 ** 6)
        self.check_raised(TooFar, {}, never_less, counter(4), Sum(x=1), counter(2), Sum(x=1) * 0 + 10 ** 6)
