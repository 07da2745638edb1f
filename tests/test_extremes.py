"""loopbounds.extremes: points 16 and 19 and the section on extremes, with points 2 to 7 for them."""

from fractions import Fraction

from loopbounds.errors import NotALoop, NotASum, TooFar, UnknownName
from loopbounds.extremes import greatest, least, least_added
from loopbounds.holding import greatest_at, holds_always, least_at
from loopbounds.loops import Loop
from loopbounds.ratios import Ratio
from loopbounds.running import value_after
from loopbounds.structure import long_period
from loopbounds.sums import Sum
from tests.helping import NO_NUMBERS, Checks, nested, ratio
from tests.models import loop_of, random_model, random_parts, sum_of
from tests.points import Far, minus, points_of
from tests.test_holding import changing_coefficient, counter
from tests.test_loops import state
from tests.test_running import NO_LOOPS


class ExtremesChecks(Checks):
    def check_triple(self, found, loop, total, value, rounds, reached):
        """A triple with this value and these rounds, and with a beginning in the ranges exactly if it is reached."""
        self.assertIs(type(found), tuple)
        self.assertEqual(len(found), 3)
        if value is None:
            self.assertIsNone(found[0])
        else:
            self.check_is_ratio(found[0], value)
        self.check_same(found[1], rounds)
        if not reached:
            self.assertIsNone(found[2])
            return
        self.check_beginning(loop, found[2])
        self.check_is_ratio(value_after(loop, total, rounds).at(**dict(found[2])), value)

    def check_greatest(self, loop, total, value, rounds):
        """What is told of the greatest value of a sum, and of the least one of minus the sum."""
        before = state(loop)
        reached = value is not None and rounds is not None
        self.check_triple(greatest(loop, total), loop, total, value, rounds, reached)
        other = None if value is None else -Fraction(value)
        self.check_triple(least(loop, -total), loop, -total, other, rounds, reached)
        added = least_added(loop, -total)
        if value is None:
            self.assertIsNone(added)
        else:
            self.check_is_ratio(added, value)
        self.assertEqual(state(loop), before)

    def check_far(self, loop, total):
        """The greatest value of a sum is too far out, and so is the least one of minus the sum."""
        self.check_raised(TooFar, {}, greatest, loop, total)
        self.check_raised(TooFar, {}, least, loop, -total)
        self.check_raised(TooFar, {}, least_added, loop, -total)


class ModelsTest(ExtremesChecks):
    def check_model(self, model, parts):
        loop, total = loop_of(model), sum_of(parts)
        try:
            value, rounds, _ = points_of(model, minus(parts)).highest()
        except Far:
            self.check_far(loop, total)
            return "far"
        self.check_greatest(loop, total, value, rounds)
        return "limit" if rounds is None and value is not None else (value is None, rounds)

    def test_models(self):
        told = []
        for seed in range(100):
            model = random_model(seed)
            told.append(self.check_model(model, random_parts(seed, model[0])))
        for kind in ((True, None), (True, 0), (False, 0)):
            self.assertGreater(told.count(kind), 3, kind)
        for unbounded in (True, False):
            later = [kind for kind in told if isinstance(kind, tuple) and kind[0] == unbounded and kind[1]]
            self.assertGreater(len(later), 3)

    def test_models_that_stay_small(self):
        """Own multipliers up to 1 without their signs and ranges with two ends, where limits are frequent."""
        own = (0, Fraction(1, 2), Fraction(-1, 2), Fraction(2, 3), Fraction(-1, 3), Fraction(8, 9))
        told = []
        for seed in range(70):
            ranges, body = random_model(seed, own)
            ranges = {name: (low, low + 3 if high is None else high) for name, (low, high) in ranges.items()}
            told.append(self.check_model((ranges, body), random_parts(seed, ranges)))
        self.assertGreater(told.count("limit"), 5)
        self.assertGreater(len([kind for kind in told if kind != "limit" and kind[1]]), 20)

    def test_plain_runs(self):
        """No value of the first rounds is greater or less than what is told, and one is if less is told."""
        for seed in range(60):
            model = random_model(seed)
            loop, total = loop_of(model), sum_of(random_parts(seed, model[0]))
            try:
                high, low = greatest(loop, total)[0], least(loop, total)[0]
            except TooFar:
                continue
            for rounds in range(30):
                if high is not None:
                    self.assertLessEqual(greatest_at(loop, total, rounds), high)
                if low is not None:
                    self.assertGreaterEqual(least_at(loop, total, rounds), low)


class GreatestTest(ExtremesChecks):
    def test_the_cases(self):
        loop = Loop(x=(90, 100), y=(0, None))
        loop["x"] = loop["x"] * Ratio(1, 2) + 30
        loop["y"] += 1
        x, y = loop["x"], loop["y"]
        for total, value, rounds in (
            (x, 100, 0), (-x, -60, None), (y, None, 0), (-y, 0, 0), (x + y, None, 0), (x - y, 100, 0),
            (70 - x, 10, None), (0, 0, 0), (Ratio(5, 3), Fraction(5, 3), 0), (x - x, 0, 0),
        ):
            self.check_greatest(loop, total, value, rounds)
        self.check_same(greatest(loop, y), (None, 0, None))
        self.check_same(least(loop, x)[1:], (None, None))

    def test_without_bound_later(self):
        loop = Loop(a=(0, None), b=1, c=0)
        loop.assign("c", loop["b"], every=4, at=3)
        loop.assign("b", loop["a"], every=4, at=2)
        self.check_greatest(loop, loop["b"], None, 3)
        self.check_greatest(loop, loop["c"], None, 4)
        self.check_greatest(loop, -loop["c"], 0, 0)
        self.check_greatest(loop, -loop["b"], 0, 3)

    def test_without_bound_for_some_time(self):
        """A variable without an upper end that is forgotten counts all the same."""
        loop = Loop(x=(0, None))
        loop["x"] = 0
        self.check_greatest(loop, loop["x"], None, 0)
        self.check_greatest(loop, -loop["x"], 0, 0)
        loop = Loop(a=(0, None), b=0)
        loop["b"] = loop["a"]
        loop["a"] = 0
        self.check_greatest(loop, loop["b"], None, 1)

    def test_without_bound_until_the_coefficient_settles(self):
        # The coefficient of y is n - 5, less than 0 until round 4, and minus it from round 6 on.
        loop = Loop(x=0, y=(1, None))
        loop["x"] += loop["y"]
        self.check_greatest(loop, 5 * loop["y"] - loop["x"], None, 0)
        self.check_greatest(loop, loop["x"] - 5 * loop["y"], None, 6)

    def test_without_bound_as_the_rounds_go_on(self):
        for own, added in ((2, 0), (1, 1), (Ratio(9, 8), 0), (-2, 0), (Ratio(-9, 8), 1)):
            loop = Loop(x=(1, 2))
            loop["x"] = own * loop["x"] + added
            self.check_greatest(loop, loop["x"], None, None)
        loop = Loop(x=(1, 2))
        loop["x"] -= 1
        self.check_greatest(loop, -loop["x"], None, None)
        self.check_greatest(loop, loop["x"], 2, 0)

    def test_without_bound_for_one_rest_alone(self):
        loop = Loop(x=0, y=0)
        loop["x"] += 1
        loop.assign("y", 0, every=3, at=1)
        loop.assign("y", loop["x"], every=3, at=2)
        self.check_greatest(loop, loop["y"], None, None)
        self.check_greatest(loop, -loop["y"], 0, 0)

    def test_limits(self):
        third = Ratio(-1, 3)
        for own, added, limit in ((Ratio(1, 2), 3, 6), (Ratio(8, 9), 1, 9), (Ratio(1, 9), third, Fraction(-3, 8))):
            loop = Loop(x=(-20, -10))
            loop["x"] = own * loop["x"] + added
            self.check_greatest(loop, loop["x"], limit, None)
            self.check_greatest(loop, -loop["x"], 20, 0)

    def test_a_limit_of_several_variables(self):
        loop = Loop(a=0, b=(0, 1), c=0)
        loop["a"] = Ratio(1, 2) * loop["a"] + 1
        loop["b"] = Ratio(1, 3) * loop["b"] + loop["a"]
        loop["c"] = Ratio(3, 4) * loop["c"] + loop["b"] - loop["a"]
        # a comes near to 2, b to 3, and c to 4 (3 - 2).
        self.check_greatest(loop, loop["a"], 2, None)
        self.check_greatest(loop, loop["b"] + 1, 4, None)
        self.check_greatest(loop, loop["c"] * Ratio(1, 2), 2, None)
        self.check_greatest(loop, loop["a"] + loop["b"] + loop["c"], 9, None)

    def test_equal_bases_below_1(self):
        # y is n (1/2) ** (n - 1): it rises, falls, and comes near to 0.
        loop = Loop(x=1, y=0)
        loop["y"] = Ratio(1, 2) * loop["y"] + loop["x"]
        loop["x"] *= Ratio(1, 2)
        self.check_greatest(loop, loop["y"], 1, 1)
        self.check_greatest(loop, -loop["y"], 0, 0)
        self.check_greatest(loop, 3 * loop["x"] - loop["y"], 3, 0)
        # x - y is (1 - 2 n) (1/2) ** n: least at 2 with -3/4.
        self.check_greatest(loop, loop["y"] - loop["x"], Fraction(3, 4), 2)

    def test_a_limit_behind_a_step_of_0(self):
        # w is the sum of n (1/2) ** (n - 1), so it stays at first.
        loop = Loop(w=0, x=1, y=0)
        loop["w"] += loop["y"]
        loop["y"] = Ratio(1, 2) * loop["y"] + loop["x"]
        loop["x"] *= Ratio(1, 2)
        self.check_greatest(loop, loop["w"], 4, None)
        self.check_greatest(loop, -loop["w"], 0, 0)

    def test_a_limit_that_is_reached_before(self):
        # x comes near to 0 from below, and 0 is a beginning.
        loop = Loop(x=(-1, 0))
        loop["x"] *= Ratio(1, 2)
        self.check_greatest(loop, loop["x"], 0, 0)
        # It is reached at once, and once more in no round.
        loop = Loop(x=0, y=-1)
        loop["x"] = loop["y"]
        loop["y"] *= Ratio(1, 2)
        self.check_greatest(loop, loop["x"], 0, 0)
        # 5 is the limit, 5 is reached in round 2 alone.
        loop = Loop(a=5, b=0, c=0, y=-1)
        loop["c"] = loop["b"]
        loop["b"] = loop["a"]
        loop["a"] = loop["y"] + 5
        loop["y"] *= Ratio(1, 2)
        self.check_greatest(loop, loop["c"], 5, 2)
        self.check_greatest(loop, loop["c"] + 3 * loop["y"], 5, None)

    def test_the_first_of_several_rounds(self):
        loop = Loop(x=0)
        for at, number in enumerate((3, 7, 1, 7)):
            loop.assign("x", number, every=4, at=at)
        self.check_greatest(loop, loop["x"], 7, 2)
        self.check_greatest(loop, -loop["x"], 0, 0)
        loop = Loop(x=(0, 1))
        loop["x"] = 1 - loop["x"]
        self.check_greatest(loop, loop["x"], 1, 0)
        loop = Loop(x=0)
        loop["x"] = 1 - loop["x"]
        self.check_greatest(loop, loop["x"], 1, 1)

    def test_a_value_that_stays(self):
        loop = Loop(x=(0, 3), y=0)
        loop["y"] = loop["x"]
        self.check_greatest(loop, loop["y"], 3, 1)
        self.check_greatest(loop, loop["x"] - loop["y"], 3, 0)
        self.check_greatest(loop, loop["y"] - loop["x"], 0, 0)

    def test_late_peaks(self):
        # 100 n - n ** 2 and n (n - 1) / 2.
        loop = Loop(n=0, m=0)
        loop["m"] += loop["n"]
        loop["n"] += 1
        self.check_greatest(loop, 100 * loop["n"] - 2 * loop["m"], 2550, 50)
        self.check_greatest(loop, 999 * loop["n"] - loop["m"], Fraction(999 * 1000, 2), 999)

    def test_own_multipliers_below_0(self):
        loop = Loop(x=(0, 1))
        loop["x"] = Ratio(-1, 2) * loop["x"] + 3
        self.check_same(long_period(loop), 2)
        self.check_greatest(loop, loop["x"], 3, 1)
        self.check_greatest(loop, -loop["x"], 0, 0)
        # With rests that come near to 2 from above and from below.
        loop = Loop(x=3, y=9)
        loop["x"] = Ratio(-1, 2) * loop["x"] + 3
        loop["y"] = 0
        self.check_greatest(loop, loop["x"], 3, 0)
        self.check_greatest(loop, -loop["x"], Fraction(-3, 2), 1)
        loop = Loop(x=-1)
        loop["x"] *= -1
        self.check_greatest(loop, loop["x"], 1, 1)
        loop = Loop(x=1, y=0)
        loop["x"] *= Ratio(-8, 9)
        loop["y"] += 1
        self.check_greatest(loop, loop["x"] - loop["y"], 1, 0)
        self.check_greatest(loop, -loop["x"] - 0 * loop["y"], Fraction(8, 9), 1)

    def test_long_periods(self):
        loop = Loop(x=(1, 2))
        loop.assign("x", Ratio(-1, 2) * loop["x"], every=6, at=2)
        self.check_same(long_period(loop), 12)
        self.check_greatest(loop, loop["x"], 2, 0)
        self.check_greatest(loop, -loop["x"], 1, 3)
        loop = Loop(x=1)
        loop.assign("x", Ratio(-1, 2) * loop["x"] + 9, every=6, at=2)
        self.check_greatest(loop, loop["x"], Fraction(17, 2), 3)

    def test_negative_places_before_the_rows(self):
        # With z = 2 the values after 0 and 1 rounds are no part of the rows.
        loop = Loop(a=50, b=(60, 70), c=1)
        loop["b"] = loop["a"]
        loop["a"] = loop["c"]
        loop["c"] += 1
        self.check_greatest(loop, loop["b"] - loop["c"], 69, 0)
        self.check_greatest(loop, loop["c"] - loop["b"], 2, 2)


class FarTest(ExtremesChecks):
    def test_the_last_place_of_coefficients(self):
        # T1 is that of minus the sum.
        loop, total = changing_coefficient(1000)
        self.check_far(loop, total)
        self.check_far(loop, total + 1)
        loop, total = changing_coefficient(999)
        self.check_greatest(loop, total, None, None)
        loop, total = changing_coefficient(1000)
        self.check_greatest(loop, -total, 2000, 0)
        loop, total = changing_coefficient(1001)
        self.check_far(loop, -total)

    def test_far_comes_ahead_of_without_bound(self):
        loop = Loop(x=0, y=(1, None))
        loop["x"] += loop["y"]
        self.check_far(loop, 1001 * loop["y"] - loop["x"])
        self.check_greatest(loop, 1000 * loop["y"] - loop["x"], None, 0)
        self.check_greatest(loop, loop["x"] - 999 * loop["y"], None, 1000)
        self.check_far(loop, loop["x"] - 1000 * loop["y"])

    def test_steps_need_not_settle_where_it_is_without_bound(self):
        loop = Loop(n=0, m=0, y=(0, None))
        loop["m"] += loop["n"]
        loop["n"] += 1
        self.check_greatest(loop, loop["y"] + 5000 * loop["n"] - loop["m"], None, 0)
        self.check_far(loop, 5000 * loop["n"] - loop["m"])
        self.check_far(loop, loop["m"] - 5000 * loop["n"])

    def test_the_last_place_of_steps(self):
        # The steps are many - n, less than 0 from many + 1 on; and n - many, at least 0 from many on.
        loop = Loop(n=0, m=0)
        loop["m"] += loop["n"]
        loop["n"] += 1
        n, m = loop["n"], loop["m"]
        self.check_greatest(loop, 999 * n - m, Fraction(999 * 1000, 2), 999)
        self.check_far(loop, 1000 * n - m)
        self.check_greatest(loop, m - 1000 * n, None, None)
        self.check_far(loop, m - 1001 * n)

    def test_the_last_place_of_each_rest(self):
        # The steps of m are t for both rests if it grows in the odd rounds, but t + 1 for the rest 1 in the even ones.
        for at, last in ((0, 500), (1, 499)):
            loop = Loop(n=0, m=0)
            loop.assign("m", loop["m"] + loop["n"], every=2, at=at)
            loop.assign("n", loop["n"] + 1, every=2, at=1)
            n, m = loop["n"], loop["m"]
            self.check_same(greatest(loop, m - last * n), (None, None, None))
            self.check_far(loop, m - (last + 1) * n)

    def test_a_late_peak_is_far_though_it_falls_at_first(self):
        loop = Loop(x=(0, 1), y=0)
        loop["y"] += 1
        loop["x"] *= Ratio(9, 8)
        self.check_far(loop, loop["x"] * Ratio(1, 10 ** 60) - loop["y"])
        self.check_greatest(loop, loop["x"] * Ratio(1, 10 ** 30) - loop["y"], None, None)


class LeastTest(ExtremesChecks):
    def test_known_values(self):
        loop = Loop(x=(1, 3), y=(0, None))
        loop["x"] = 2 * loop["x"] - 1
        self.check_triple(least(loop, loop["x"]), loop, loop["x"], 1, 0, True)
        self.check_triple(least(loop, 7 - loop["x"]), loop, loop["x"], None, None, False)
        self.check_triple(least(loop, loop["x"] + loop["y"]), loop, loop["x"] + loop["y"], 1, 0, True)
        self.check_triple(least(loop, loop["x"] - loop["y"]), loop, loop["x"], None, 0, False)
        self.check_triple(least(loop, 4), loop, 4, 4, 0, True)

    def test_least_added(self):
        loop = Loop(x=(90, 100), y=(0, None))
        loop["x"] = loop["x"] * Ratio(1, 2) + 30
        for total, added in (
            (loop["x"], -60), (loop["x"] - 70, 10), (-loop["x"], 100), (loop["y"], 0), (-loop["y"], None), (0, 0),
            (Ratio(-7, 2), Fraction(7, 2)), (3, -3), (loop["x"] - loop["y"], None),
        ):
            found = least_added(loop, total)
            if added is None:
                self.assertIsNone(found)
            else:
                self.check_is_ratio(found, added)
                self.assertIs(holds_always(loop, total + ratio(added)), True)
                self.assertIs(holds_always(loop, total + ratio(added) - Ratio(1, 10 ** 20)), False)

    def test_arguments_by_name(self):
        loop = Loop(x=(1, 2))
        self.check_same(greatest(total=loop["x"], loop=loop), (Ratio(2), 0, (("x", Ratio(2)),)))
        self.check_same(least(total=loop["x"], loop=loop), (Ratio(1), 0, (("x", Ratio(1)),)))
        self.check_same(least_added(total=loop["x"], loop=loop), Ratio(-1))

    def test_equal_calls(self):
        loop = Loop(x=(0, 1), y=(0, None))
        for call in (greatest, least, least_added):
            self.assertEqual(call(loop, loop["x"]), call(loop, loop["x"]))


class ErrorsTest(ExtremesChecks):
    def test_wrong_arguments(self):
        loop = Loop(x=1, y=1)
        for call in (greatest, least, least_added):
            for value in NO_LOOPS:
                self.check_error(NotALoop, {"value": value}, call, value, None)
            for value in NO_NUMBERS + (nested(70), loop):
                self.check_error(NotASum, {"value": value}, call, loop, value)
            self.check_error(UnknownName, {"name": "a"}, call, loop, Sum(x=1, z=1, a=1))

    def test_too_far_comes_last(self):
        loop, total = changing_coefficient(2000)
        for call in (greatest, least, least_added):
            self.check_error(UnknownName, {"name": "a"}, call, loop, total + Sum(a=1))
        self.check_same(greatest(counter(), Sum(x=-1) - 2000)[:2], (Ratio(-2000), 0))
