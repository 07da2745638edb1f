"""loopbounds.holding: points 16 to 18 and the section on holding, with points 2 to 7 for them."""

from fractions import Fraction

from loopbounds.errors import InvalidNumber, NotALoop, NotASum, TooFar, UnknownName
from loopbounds.extremes import least_added
from loopbounds.holding import first_break, greatest_at, holds_always, least_at, rounds_where
from loopbounds.loops import Loop
from loopbounds.ratios import Ratio
from loopbounds.rounds import Rounds
from loopbounds.running import value_after
from loopbounds.structure import long_period
from loopbounds.sums import Sum
from tests.helping import NO_NUMBERS, Checks, fraction, nested
from tests.models import loop_of, random_model, random_parts, sum_of, worth
from tests.points import Far, Values, least_of, minus, points_of
from tests.test_loops import state
from tests.test_running import NO_LOOPS, NO_ROUNDS

ALL = Rounds.rests(1, 0)


def counter(every=1, at=0, start=0):
    """A loop with one beginning, in which x counts some rounds."""
    loop = Loop(x=start)
    loop.assign("x", loop["x"] + 1, every=every, at=at)
    return loop


def changing_coefficient(many):
    """A loop and a sum in which the coefficient of y is n - many after n rounds."""
    loop = Loop(x=0, y=(1, 2))
    loop["x"] += loop["y"]
    return loop, loop["x"] - many * loop["y"]


class HoldingChecks(Checks):
    def check_break(self, loop, total, rounds):
        """The first break comes after so many rounds, with a beginning that shows it; None for no break."""
        found = first_break(loop, total)
        self.assertEqual(holds_always(loop, total), rounds is None)
        if rounds is None:
            self.assertIsNone(found)
            return
        self.assertIs(type(found), tuple)
        self.check_same(found[0], rounds)
        self.check_beginning(loop, found[1])
        self.assertLess(value_after(loop, total, rounds).at(**dict(found[1])), 0)

    def check_far(self, loop, total):
        for call in (holds_always, rounds_where, first_break):
            self.check_raised(TooFar, {}, call, loop, total)


class LeastTest(HoldingChecks):
    def test_models(self):
        kinds = set()
        for seed in range(150):
            model = random_model(seed)
            loop, parts = loop_of(model), random_parts(seed, model[0])
            before, total = state(loop), sum_of(parts)
            low_values, high_values = Values(model, parts), Values(model, minus(parts))
            for rounds in (0, 1, 2, 5, 12, 25):
                low = least_of(low_values.after(rounds), model[0])
                high = least_of(high_values.after(rounds), model[0])
                kinds.add((low is None, high is None))
                self.check_end(least_at(loop, total, rounds), low)
                self.check_end(greatest_at(loop, total, rounds), None if high is None else -high)
            self.assertEqual(state(loop), before)
        self.assertEqual(len(kinds), 4)

    def check_end(self, value, wanted):
        if wanted is None:
            self.assertIsNone(value)
        else:
            self.check_is_ratio(value, wanted)

    def test_known_values(self):
        loop = Loop(x=(-1, 3), y=(Ratio(1, 2), None), z=4)
        loop["x"] = -2 * loop["x"] + loop["z"]
        x, y, z = (loop[name] for name in "xyz")
        for total, rounds, low, high in (
            (x, 0, -1, 3), (x, 1, -2, 6), (x, 2, -8, 8), (-x, 1, -6, 2), (y, 5, Fraction(1, 2), None),
            (-y, 5, None, Fraction(-1, 2)), (x - y, 0, None, Fraction(5, 2)), (z, 1000, 4, 4), (y - y, 9, 0, 0),
            (7, 3, 7, 7), (Ratio(-1, 3), 0, Fraction(-1, 3), Fraction(-1, 3)),
        ):
            self.check_end(least_at(loop, total, rounds), low)
            self.check_end(greatest_at(loop, total, rounds), high)

    def test_a_variable_that_vanishes_has_no_end(self):
        loop = Loop(x=(0, None), y=(0, None))
        loop["y"] = loop["x"]
        loop["x"] = 0
        self.assertIsNone(least_at(loop, -loop["y"], 1))
        self.check_is_ratio(least_at(loop, -loop["y"], 2), 0)

    def test_many_rounds(self):
        loop = Loop(x=(1, 2))
        loop["x"] *= Ratio(-9, 8)
        self.check_is_ratio(least_at(loop, loop["x"], 1000), Fraction(9, 8) ** 1000)
        self.check_is_ratio(greatest_at(loop, loop["x"], 999), -Fraction(9, 8) ** 999)

    def test_arguments_by_name(self):
        loop = Loop(x=(1, 2))
        self.check_is_ratio(least_at(rounds=0, total=loop["x"], loop=loop), 1)
        self.check_is_ratio(greatest_at(rounds=0, total=loop["x"], loop=loop), 2)


class ModelsTest(HoldingChecks):
    def check_model(self, model, parts):
        """Everything on a sum against the points in Fractions; what is told of it: a round, None or far."""
        loop, total = loop_of(model), sum_of(parts)
        points = points_of(model, parts)
        try:
            found = points.signs()
        except Far:
            self.check_far(loop, total)
            return "far"
        rounds = points.first_break()
        self.check_break(loop, total, rounds)
        self.check_rounds(rounds_where(loop, total), found, points)
        return rounds

    def check_rounds(self, rounds, found, points):
        self.assertIs(type(rounds), Rounds)
        self.check_same(rounds.modulus, points.period)
        last = max(points.period * second + rest for rest, (_, second, _) in enumerate(found))
        for n in range(last + 3 * points.period):
            least = points.least_at(n)
            self.assertEqual(n in rounds, least is not None and least >= 0, n)

    def test_models(self):
        told = [self.check_model(model, random_parts(seed, model[0]))
                for seed, model in ((seed, random_model(seed)) for seed in range(160))]
        self.assertGreater(len([rounds for rounds in told if rounds == 0]), 20)
        self.assertGreater(len([rounds for rounds in told if rounds not in (0, None, "far")]), 20)
        self.assertGreater(told.count(None), 5)

    def test_sums_that_just_hold(self):
        """With the least number added a sum always holds, with less it does not."""
        seen = 0
        for seed in range(200):
            model = random_model(seed)
            loop, parts = loop_of(model), random_parts(seed, model[0])
            try:
                added = least_added(loop, sum_of(parts))
            except TooFar:
                continue
            if added is None:
                continue
            parts[None] += fraction(added)
            self.assertIsNone(self.check_model(model, parts))
            parts[None] -= Fraction(1, 3)
            seen += self.check_model(model, parts) not in (0, None)
        self.assertGreater(seen, 20)


class FirstBreakTest(HoldingChecks):
    def test_known_breaks(self):
        loop = Loop(x=(1, 3), y=0)
        loop["x"] = 2 * loop["x"] - 1
        loop["y"] += 3
        x, y = loop["x"], loop["y"]
        for total, rounds in (
            (x - 1, None), (10 - x, 3), (3 - x, 1), (2 - x, 0), (y, None), (-y, 1), (29 - y, 10), (30 - y, 11),
            (x + y - 1, None), (x - y, 1), (0, None), (-1, 0), (Ratio(1, 2), None), (Ratio(-1, 2), 0), (x - x, None),
        ):
            self.check_break(loop, total, rounds)

    def test_the_empty_body(self):
        loop = Loop(x=(-1, 1), y=(0, None))
        self.check_break(loop, loop["x"] + 1, None)
        self.check_break(loop, loop["x"] + Ratio(99, 100), 0)
        self.check_break(loop, loop["y"], None)
        self.check_break(loop, 10 ** 9 - loop["y"], 0)

    def test_without_an_upper_end(self):
        loop = Loop(a=(0, None), b=(5, None), c=(-1, 1))
        loop.assign("a", loop["a"] - loop["b"], every=3, at=2)
        for total, rounds in (
            (loop["a"], 3), (loop["b"] - loop["c"], None), (loop["a"] + 10 ** 9, 3), (-loop["b"], 0),
            (10 ** 9 - loop["b"] - loop["a"], 0), (loop["a"] + 3 * loop["b"], 12), (loop["c"] + loop["b"] - 4, None),
        ):
            self.check_break(loop, total, rounds)

    def test_a_break_that_needs_a_great_beginning(self):
        loop = Loop(x=(Ratio(1, 2), None), y=(-3, 4), z=(0, None))
        total = 10 ** 6 - Ratio(1, 7) * loop["x"] + 5 * loop["y"] - 3 * loop["z"]
        self.check_break(loop, total, 0)
        self.check_break(loop, total - 10 ** 7, 0)
        # Just at a multiple: the value has to be less than 0, not 0.
        self.check_break(Loop(x=(0, None)), 10 - Sum(x=2), 0)
        self.check_break(Loop(x=(0, None)), -Sum(x=2), 0)

    def test_own_multipliers_below_0(self):
        loop = Loop(x=(-1, 1))
        loop["x"] = -loop["x"] + Ratio(1, 2)
        self.check_break(loop, loop["x"] + 1, None)
        self.check_break(loop, 1 - loop["x"], 1)
        self.check_break(loop, Ratio(3, 2) - loop["x"], None)
        loop = Loop(x=1)
        loop["x"] *= Ratio(-9, 8)
        self.check_break(loop, loop["x"] + 10, 21)
        self.check_break(loop, 10 - loop["x"], 20)
        self.check_break(loop, loop["x"], 1)

    def test_own_multipliers_0(self):
        loop = Loop(a=(0, 5), b=(0, 5), c=(0, None))
        loop["c"] = loop["b"] - 1
        loop["b"] = loop["a"]
        loop["a"] = 0
        self.check_break(loop, loop["c"] + 1, None)
        self.check_break(loop, loop["c"], 1)
        # It breaks before the rows begin at z, and never later.
        self.check_break(loop, 4 - loop["b"], 0)
        self.check_break(loop, 3 - loop["c"], 0)
        self.assertEqual(rounds_where(loop, 4 - loop["b"]), ALL - Rounds.told(0, 1))
        self.assertEqual(rounds_where(loop, 3 - loop["c"]), ALL - Rounds.told(0, 1, 2))

    def test_long_periods(self):
        loop = Loop(x=(0, 1))
        loop.assign("x", -2 * loop["x"], every=6, at=5)
        self.check_same(long_period(loop), 12)
        self.check_break(loop, loop["x"] + 2, 18)
        self.assertEqual(rounds_where(loop, loop["x"]), Rounds.rests(12, 0, 1, 2, 3, 4, 5))
        self.check_same(rounds_where(loop, 5).modulus, 12)

    def test_late_breaks(self):
        loop = Loop(x=(1, 2), y=(10 ** 6, 10 ** 6 + 1))
        loop["x"] *= Ratio(8, 7)
        loop["y"] *= Ratio(9, 8)
        # (64/63) ** n grows beyond 10 ** 6 / 2.
        rounds = next(n for n in range(1000) if Fraction(64, 63) ** n * 2 > 10 ** 6)
        self.check_break(loop, loop["y"] - loop["x"], rounds)
        self.assertGreater(rounds, 800)
        where = rounds_where(loop, loop["x"] - loop["y"])
        self.check_same(where.after(0), next(n for n in range(1000) if Fraction(64, 63) ** n >= 10 ** 6 + 1))
        self.assertEqual(where.whole_from, where.after(0))

    def test_the_worst_beginning_changes(self):
        loop, total = changing_coefficient(10)
        # The value is (n - 10) y, so y = 2 is worst at first and y = 1 later.
        self.check_break(loop, total + 20, None)
        self.check_break(loop, total + 19, 0)
        self.assertEqual(rounds_where(loop, total + 5), ALL - Rounds.told(*range(8)))
        self.assertEqual(rounds_where(loop, total - 5), ALL - Rounds.told(*range(15)))
        self.assertEqual(rounds_where(loop, -total), Rounds.told(*range(11)))

    def test_arguments_by_name(self):
        loop = Loop(x=(1, 2))
        for call, wanted in ((holds_always, True), (first_break, None), (rounds_where, ALL)):
            self.check_same(call(total=loop["x"], loop=loop), wanted)
        self.check_same(first_break(loop, -1), (0, (("x", Ratio(1)),)))

    def test_loops_stay_as_they_are(self):
        loop, total = changing_coefficient(10)
        before = state(loop)
        for call in (holds_always, first_break, rounds_where):
            self.assertEqual(call(loop, total), call(loop, total))
            self.assertEqual(state(loop), before)


class RoundsWhereTest(HoldingChecks):
    def test_known_rounds(self):
        loop = Loop(x=(1, 3), y=0)
        loop["x"] = 2 * loop["x"] - 1
        loop.assign("y", loop["y"] + 3, every=2, at=1)
        for total, wanted in (
            (10 - loop["x"], Rounds.told(0, 1, 2)), (loop["x"], ALL), (-loop["x"], Rounds.told()),
            (loop["y"] - 3, ALL - Rounds.told(0, 1)), (3 - loop["y"], Rounds.told(0, 1, 2, 3)), (-1, Rounds.told()),
        ):
            found = rounds_where(loop, total)
            self.assertEqual(found, wanted)
            self.check_same(found.modulus, 2)

    def test_rests(self):
        loop = Loop(x=0)
        for at in range(3):
            loop.assign("x", at, every=3, at=at)
        self.assertEqual(rounds_where(loop, loop["x"] - 1), Rounds.rests(3, 0, 2) - Rounds.told(0))
        self.check_break(loop, loop["x"], None)


class FarTest(HoldingChecks):
    def test_the_last_place(self):
        # The value is n - 1000 after n rounds, settled at 1000.
        self.check_break(counter(), Sum(x=1) - 1000, 0)
        self.assertEqual(rounds_where(counter(), Sum(x=1) - 1000), ALL - Rounds.told(*range(1000)))
        self.check_break(counter(), 999 - Sum(x=1), 1000)
        self.check_far(counter(), Sum(x=1) - 1001)
        self.check_far(counter(), 1000 - Sum(x=1))
        self.check_break(counter(start=1), Sum(x=1) - 1001, 0)

    def test_the_last_place_of_each_rest(self):
        # After 2 t and 2 t + 1 rounds the value is t - 500 and t + 1 - 500; or t - 500 after both.
        self.check_break(counter(2, 0), Sum(x=1) - 500, 0)
        self.check_far(counter(2, 1), Sum(x=1) - 500)
        self.check_far(counter(2, 0), Sum(x=1) - 501)
        self.check_break(counter(2, 1), Sum(x=1) - 499, 0)
        # After 6 t + r rounds it is t - 166, and 6 * 166 + 4 is 1000; with at = 4, it is t - 165 for the rest 5.
        self.check_break(counter(6, 4), Sum(x=1) - 166, 0)
        self.check_far(counter(6, 5), Sum(x=1) - 166)

    def test_the_last_place_of_coefficients(self):
        loop, total = changing_coefficient(1000)
        self.check_break(loop, total, 0)
        # The sign of 0 is 1, so minus the coefficient settles one place later.
        self.check_far(loop, -total)
        loop, total = changing_coefficient(999)
        self.check_break(loop, -total, 1000)
        self.check_far(*changing_coefficient(1001))

    def test_coefficients_of_single_numbers_need_not_settle(self):
        loop = Loop(x=0, y=2, z=0)
        loop["x"] += loop["y"]
        loop["z"] = 0
        # The coefficient of y never is far from settled, but y has one beginning, and the value is 2.
        self.check_break(loop, loop["x"] - 1200 * loop["y"] + 2400, None)
        wide = Loop(x=0, y=(2, 3))
        wide["x"] += wide["y"]
        self.check_far(wide, wide["x"] - 1200 * wide["y"] + 3600)

    def test_far_though_it_is_without_bound(self):
        loop = Loop(x=0, y=(1, None))
        loop["x"] += loop["y"]
        self.check_break(loop, loop["x"] - 1000 * loop["y"], 0)
        self.check_far(loop, loop["x"] - 1001 * loop["y"])
        self.check_far(loop, 1000 * loop["y"] - loop["x"])
        # Without bound from T1 = 3 on, so nothing after it matters.
        loop = Loop(c=0, x=0, y=(1, None))
        loop["x"] -= loop["y"]
        loop["c"] += 1
        self.check_break(loop, loop["x"] + 2 * loop["y"] + loop["c"] - 2000, 0)

    def test_the_last_place_behind_that_of_coefficients(self):
        # From T1 = 10 on y = 1 is worst, and the value is 2 n - 10 and what is added.
        loop, total = changing_coefficient(10)
        more = Loop(c=0, x=0, y=(1, 2))
        more["x"] += more["y"]
        more["c"] += 1
        self.check_break(more, total + more["c"] - 1990, 0)
        self.check_far(more, total + more["c"] - 1991)

    def test_far_though_it_breaks_early(self):
        loop = counter()
        self.check_far(loop, Sum(x=1) - 10 ** 6)
        loop = Loop(a=(1, 2), b=1)
        loop["a"] *= Ratio(9, 8)
        loop["b"] += 1
        # The base 9/8 wins over 1, but from 10 ** 60 on too late.
        self.check_far(loop, loop["a"] - 10 ** 60 * loop["b"])
        self.check_break(loop, loop["a"] - 10 ** 30 * loop["b"], 0)


class ErrorsTest(HoldingChecks):
    def test_wrong_arguments(self):
        loop = Loop(x=1, y=1)
        for call in (least_at, greatest_at):
            for value in NO_LOOPS:
                self.check_error(NotALoop, {"value": value}, call, value, None, -1)
            for value in NO_NUMBERS + (nested(70), loop):
                self.check_error(NotASum, {"value": value}, call, loop, value, -1)
            self.check_error(UnknownName, {"name": "a"}, call, loop, Sum(x=1, z=1, a=1), -1)
            for value in NO_ROUNDS:
                self.check_error(InvalidNumber, {"number": value}, call, loop, loop["x"], value)
            self.check_is_ratio(call(loop, 1, 1000), 1)
        for call in (holds_always, rounds_where, first_break):
            for value in NO_LOOPS:
                self.check_error(NotALoop, {"value": value}, call, value, None)
            for value in NO_NUMBERS + (nested(70), loop):
                self.check_error(NotASum, {"value": value}, call, loop, value)
            self.check_error(UnknownName, {"name": "a"}, call, loop, Sum(x=1, z=1, a=1))

    def test_too_far_comes_last(self):
        for call in (holds_always, rounds_where, first_break):
            self.check_error(UnknownName, {"name": "a"}, call, counter(), Sum(-10 ** 6, x=1, a=1))


class WorstTest(HoldingChecks):
    def test_all_beginnings(self):
        """No corner of the ranges, and no number between, gives less than the least value."""
        for seed in range(40):
            model = random_model(seed)
            loop, parts = loop_of(model), random_parts(seed, model[0])
            for rounds in (0, 3, 8):
                least = least_at(loop, sum_of(parts), rounds)
                if least is None:
                    continue
                value = Values(model, parts).after(rounds)
                for share in (Fraction(0), Fraction(1, 3), Fraction(1)):
                    middle = {name: low + share * (low + 7 if high is None else high - low)
                              for name, (low, high) in model[0].items()}
                    inside = all(low <= middle[name] for name, (low, _) in model[0].items())
                    if inside:
                        self.assertGreaterEqual(worth(value, middle), fraction(least))
