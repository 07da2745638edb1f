"""loopbounds.closed: points 12, 13 and 20 and the section on closed forms, with points 3 to 7 for them."""

from fractions import Fraction

from loopbounds.closed import closed_form
from loopbounds.errors import InvalidName, InvalidNumber, NotALoop, NotASum, UnknownName
from loopbounds.forms import Form
from loopbounds.loops import Loop
from loopbounds.ratios import Ratio
from loopbounds.running import value_after
from loopbounds.structure import bases, long_period, zeros
from loopbounds.sums import Sum
from tests.helping import NO_INTEGERS, NO_NAMES, NO_NUMBERS, Checks, nested
from tests.models import loop_of, parts_after, random_model, random_parts, sum_of
from tests.test_loops import state
from tests.test_running import NO_LOOPS


class ClosedChecks(Checks):
    def check_forms(self, loop, total, places):
        """The closed forms of the constant and all coefficients, for each rest, at some places from z on."""
        many = long_period(loop)
        for rest in range(many):
            wanted = {t: value_after(loop, total, many * t + rest) for t in places}
            for name in (None, *loop.names):
                form = closed_form(loop, total, rest, name)
                self.assertIs(type(form), Form)
                for t in places:
                    value = wanted[t].constant if name is None else wanted[t].coefficient_of(name)
                    self.check_is_ratio(form(t), value)
                for base in form.bases:
                    self.assertLessEqual(form.bases.count(base), bases(loop).count(base))


class ClosedTest(ClosedChecks):
    def test_models(self):
        vanishing = 0
        for seed in range(60):
            model = random_model(seed)
            loop = loop_of(model)
            before = state(loop)
            first = zeros(loop)
            vanishing += first > 0
            self.check_forms(loop, sum_of(random_parts(seed, model[0])), (first, first + 1, first + 2, first + 9))
            self.assertEqual(state(loop), before)
        self.assertGreater(vanishing, 20)

    def test_models_reckoned_in_another_way(self):
        for seed in range(60, 75):
            model = random_model(seed)
            loop = loop_of(model)
            parts, many, t = random_parts(seed, model[0]), long_period(loop), zeros(loop) + 4
            for rest in (0, many - 1):
                wanted = parts_after(model, parts, many * t + rest)
                for name in wanted:
                    self.check_is_ratio(closed_form(loop, sum_of(parts), rest, name)(t), wanted[name])

    def test_known_forms(self):
        loop = Loop(x=1, y=1, z=1)
        loop["z"] += 2
        loop["y"] += loop["z"]
        loop["x"] = 2 * loop["x"] + loop["y"]
        for name, texts in (
            ("z", ("2 t^1", "0", "0", "1")),
            ("y", ("1 t^1 + 1 t^2", "0", "1", "1 t^1")),
            ("x", ("-8 + -5 t^1 + -1 t^2 + 8 2^t", "1 2^t", "-1 + 1 2^t", "-2 + -1 t^1 + 2 2^t")),
        ):
            for other, text in zip((None, "x", "y", "z"), texts):
                self.check_same(str(closed_form(loop, loop[name], 0, other)), text)
        self.check_same(str(closed_form(loop, 5, 0)), "5")
        self.check_same(str(closed_form(loop, 0, 0)), "0")
        self.check_same(str(closed_form(loop, 0, 0, "x")), "0")

    def test_arguments_by_name(self):
        loop = Loop(x=1, y=1)
        loop["x"] *= 2
        self.check_same(str(closed_form(name="x", rest=0, total=loop["x"] * 3, loop=loop)), "3 2^t")
        self.check_same(str(closed_form(loop, loop["x"] + 3, 0, name=None)), "3")

    def test_own_multipliers_below_0(self):
        loop = Loop(x=1)
        loop["x"] = Ratio(-1, 2) * loop["x"] + 3
        self.check_same(long_period(loop), 2)
        # 2 + (x - 2) (-1/2) ** n
        self.check_same(str(closed_form(loop, loop["x"], 0)), "-2 1/4^t + 2")
        self.check_same(str(closed_form(loop, loop["x"], 0, "x")), "1 1/4^t")
        self.check_same(str(closed_form(loop, loop["x"], 1)), "1 1/4^t + 2")
        self.check_same(str(closed_form(loop, loop["x"], 1, "x")), "-1/2 1/4^t")
        loop = Loop(x=1, y=1, z=1)
        loop.assign("x", -loop["x"] + 1, every=2)
        loop.assign("y", -9 * loop["y"] + loop["x"] + 1, every=2)
        loop.assign("z", Ratio(-9, 8) * loop["z"] - loop["x"], every=2)
        self.check_same((long_period(loop), zeros(loop)), (4, 0))
        self.check_forms(loop, loop["x"] - loop["y"] + loop["z"], (0, 1, 5, 20))

    def test_own_multipliers_0(self):
        loop = Loop(a=1, b=1, c=1)
        loop["c"] = loop["b"] + 1
        loop["b"] = loop["a"]
        loop["a"] = 7
        self.check_same(zeros(loop), 3)
        # The values after 0, 1 and 2 rounds are others, but the forms tell those from 3 on.
        for name, text in (("a", "7"), ("b", "7"), ("c", "8")):
            self.check_same(str(closed_form(loop, loop[name], 0)), text)
            for other in "abc":
                self.check_same(str(closed_form(loop, loop[name], 0, other)), "0")
        self.assertEqual(value_after(loop, loop["c"], 2), Sum(1, a=1))
        self.check_forms(loop, loop["a"] + loop["b"] + loop["c"], (3, 4, 50))

    def test_an_own_multiplier_0_in_some_rounds(self):
        loop = Loop(x=1, y=1)
        loop.assign("x", 2 * loop["x"] + loop["y"], every=3, at=0)
        loop.assign("x", loop["y"] - 1, every=3, at=2)
        loop.assign("y", -2 * loop["y"], every=3, at=1)
        self.check_same((long_period(loop), zeros(loop)), (6, 1))
        self.check_forms(loop, loop["x"] + 3, (1, 2, 7))

    def test_all_bases_equal(self):
        for number, text in ((1, ""), (Ratio(1, 2), " 1/2^t"), (9, " 9^t")):
            loop = Loop(a=1, b=1, c=1, d=1, e=1, f=1)
            for at, name in enumerate("abcdef"):
                loop.assign(name, Sum(**{name: number}) + (Sum(**{"abcdef"[at - 1]: number}) if at else 0))
            self.check_forms(loop, loop["f"], (0, 1, 5, 9))
        loop = Loop(a=1, b=1, c=1, d=1, e=1, f=1)
        for at, name in enumerate("fedcba"):
            loop.assign(name, loop[name] + (loop["fedcba"[at + 1]] if at < 5 else 1))
        form = closed_form(loop, loop["f"], 0)
        # The binomial coefficients t over 6.
        self.assertEqual([form(t) for t in range(9)], [0, 0, 0, 0, 0, 0, 1, 7, 28])
        self.assertEqual(form.bases, (Ratio(1),) * 7)
        self.check_same(str(closed_form(loop, loop["f"], 0, "e")), "1 t^1")
        self.check_same(str(closed_form(loop, loop["f"], 0, "d")), "-1/2 t^1 + 1/2 t^2")

    def test_the_greatest_and_least_bases(self):
        loop = Loop(x=1, y=1)
        for at in range(6):
            loop.assign("x", loop["x"] * (-9 if at == 0 else 9) + 1, every=6, at=at)
            loop.assign("y", loop["y"] * Ratio(1, 9) + loop["x"], every=6, at=at)
        self.check_same(long_period(loop), 12)
        self.check_forms(loop, loop["x"] + loop["y"], (0, 1, 2, 6))
        self.check_same(str(closed_form(loop, loop["x"], 0, "x")), f"1 {9 ** 12}^t")
        self.check_same(str(closed_form(loop, loop["y"], 0, "y")), f"1 1/{9 ** 12}^t")

    def test_twelve_rests(self):
        loop = Loop(x=1)
        loop.assign("x", -2 * loop["x"], every=6, at=3)
        for rest in range(12):
            wanted = 1 if rest < 4 else -2 if rest < 10 else 4
            self.check_same(str(closed_form(loop, loop["x"], rest, "x")), f"{wanted} 4^t")
        self.check_error(InvalidNumber, {"number": 12}, closed_form, loop, loop["x"], 12)

    def test_fractions(self):
        loop = Loop(x=1)
        loop["x"] = Ratio(2, 3) * loop["x"] + Ratio(1, 7)
        form = closed_form(loop, loop["x"], 0)
        self.check_is_ratio(form(50), Fraction(3, 7) * (1 - Fraction(2, 3) ** 50))


class ErrorsTest(ClosedChecks):
    def test_wrong_arguments(self):
        loop = Loop(x=1, y=1)
        loop.assign("x", -loop["x"], every=3)
        for value in NO_LOOPS:
            self.check_error(NotALoop, {"value": value}, closed_form, value, None, -1, 5)
        for value in NO_NUMBERS + (nested(70), loop):
            self.check_error(NotASum, {"value": value}, closed_form, loop, value, -1, 5)
        self.check_error(UnknownName, {"name": "a"}, closed_form, loop, Sum(x=1, z=1, a=1), -1, 5)
        for value in NO_INTEGERS + (-1, 6, 7, 10 ** 30):
            self.check_error(InvalidNumber, {"number": value}, closed_form, loop, loop["x"], value, 5)
            self.check_error(InvalidNumber, {"number": value}, closed_form, loop, loop["x"], value)
        for value in NO_NAMES:
            if value is not None:
                self.check_error(InvalidName, {"name": value}, closed_form, loop, loop["x"], 5, value)
                self.check_error(InvalidName, {"name": value}, closed_form, loop, 0, 0, name=value)
        self.check_error(UnknownName, {"name": "z"}, closed_form, loop, loop["x"], 0, "z")

    def test_the_rests_end_with_the_long_period(self):
        loop = Loop(x=1)
        self.check_error(InvalidNumber, {"number": 1}, closed_form, loop, loop["x"], 1)
        loop["x"] *= -1
        self.check_same(str(closed_form(loop, loop["x"], 1, "x")), "-1")
        self.check_error(InvalidNumber, {"number": 2}, closed_form, loop, loop["x"], 2)
