"""loopbounds.running: points 10 and 13 and the section on running, with points 3 to 7 for them."""

import random
from fractions import Fraction

from loopbounds.errors import InvalidName, InvalidNumber, InvalidRatio, NotALoop, NotASum, UnknownName
from loopbounds.loops import Loop
from loopbounds.ratios import Ratio
from loopbounds.running import after, states, value_after
from loopbounds.sums import Sum
from tests.helping import NO_INTEGERS, NO_KEYWORDS, NO_NUMBERS, ODD_VALUES, Checks, nested, ratio
from tests.models import loop_of, parts_after, random_model, random_parts, run, sum_of
from tests.test_loops import state

NO_LOOPS = ODD_VALUES + (1, Ratio(1), Sum(x=1), "x in 1", nested(70), Loop)
NO_ROUNDS = NO_INTEGERS + (-1, 1001, 10 ** 30, -10 ** 30)
VALUES = (0, 1, -1, 5, Fraction(1, 2), Fraction(-7, 3), 10 ** 40)


def steps(*args, **more):
    """What the generator yields first, as its errors may wait for that."""
    return next(iter(states(*args, **more)))


class RunningChecks(Checks):
    def check_pairs(self, found, wanted):
        """A tuple of the pairs (name, ratio) with the values of a dict, names ascending."""
        self.assertIs(type(found), tuple)
        self.assertEqual([name for name, _ in found], sorted(wanted))
        for pair in found:
            self.assertIs(type(pair), tuple)
            self.check_is_ratio(pair[1], wanted[pair[0]])


class AfterTest(RunningChecks):
    def test_models(self):
        for seed in range(120):
            model = random_model(seed)
            loop = loop_of(model)
            before = state(loop)
            source = random.Random(seed)
            values = {name: source.choice(VALUES) for name in model[0]}
            # Integers are passed as they are, or as ratios.
            as_ratios = seed % 2 == 0
            passed = {name: ratio(value) if as_ratios or isinstance(value, Fraction) else value
                      for name, value in values.items()}
            for rounds in (0, 1, 2, 3, 7, 30):
                wanted = run(model, rounds, values)
                self.check_pairs(after(loop, rounds, **passed), wanted)
                self.check_pairs(after(the_rounds=rounds, the_loop=loop, **dict(reversed(passed.items()))), wanted)
            yielded = list(states(loop, 9, **passed))
            self.assertEqual(len(yielded), 10)
            for rounds, found in enumerate(yielded):
                self.check_pairs(found, run(model, rounds, values))
            self.assertEqual(state(loop), before)

    def test_order_within_a_round(self):
        loop = Loop(x=0, y=0, z=0)
        loop["y"] += loop["x"]
        loop["x"] += 1
        loop["z"] += loop["x"]
        self.check_pairs(after(loop, 1, x=0, y=0, z=0), {"x": 1, "y": 0, "z": 1})
        self.check_pairs(after(loop, 2, x=0, y=0, z=0), {"x": 2, "y": 1, "z": 3})

    def test_every_and_at(self):
        for every in range(1, 7):
            for at in range(every):
                loop = Loop(x=0)
                loop.assign("x", loop["x"] + 1, every=every, at=at)
                counts = [int(str(pairs[0][1])) for pairs in states(loop, 20, x=0)]
                self.assertEqual(counts, [len([n for n in range(many) if n % every == at]) for many in range(21)])

    def test_no_assignments_and_beginnings_outside_the_ranges(self):
        loop = Loop(x=(0, 1), y=(0, None))
        for rounds in (0, 1, 1000):
            self.check_pairs(after(loop, rounds, x=-5, y=Ratio(-1, 2)), {"x": -5, "y": Fraction(-1, 2)})

    def test_1000_rounds(self):
        loop = Loop(x=0, y=0)
        loop["x"] = loop["x"] * Ratio(9, 8) + 1
        loop["y"] += loop["x"] * -9
        values = {"x": Fraction(1, 3), "y": 0}
        model = ({}, [("x", {"x": Fraction(9, 8), None: 1}, 1, 0), ("y", {"y": 1, "x": -9}, 1, 0)])
        self.check_pairs(after(loop, 1000, x=Ratio(1, 3), y=0), run(model, 1000, values))
        yielded = list(states(loop, 1000, x=Ratio(1, 3), y=0))
        self.assertEqual(len(yielded), 1001)
        self.check_pairs(yielded[-1], run(model, 1000, values))

    def test_states_is_a_generator(self):
        loop = Loop(x=0)
        loop["x"] += 1
        found = states(loop, 1, x=4)
        self.assertIs(iter(found), found)
        self.check_pairs(next(found), {"x": 4})
        self.check_pairs(next(found), {"x": 5})
        self.assertIsNone(next(found, None))
        self.assertEqual(len(list(states(loop, 0, x=4))), 1)


class AfterErrorsTest(RunningChecks):
    def test_wrong_loops(self):
        for call in (after, steps):
            for value in NO_LOOPS:
                self.check_error(NotALoop, {"value": value}, call, value, -1, x=1)
                self.check_error(NotALoop, {"value": value}, call, the_rounds=-1, the_loop=value, X=None)

    def test_wrong_rounds(self):
        loop = Loop(x=0)
        for call in (after, steps):
            for value in NO_ROUNDS:
                self.check_error(InvalidNumber, {"number": value}, call, loop, value, x=0)
                self.check_error(InvalidNumber, {"number": value}, call, loop, the_rounds=value, X=None)

    def test_wrong_beginnings(self):
        loop = Loop(x=0, y=0)
        for call in (after, steps):
            for name in NO_KEYWORDS:
                self.check_error(InvalidName, {"name": name}, call, loop, 1, **{"x": 1, "y": 1, name: None})
            for name in ("z", "a", "xx", "rounds"):
                self.check_error(UnknownName, {"name": name}, call, loop, 1, **{"x": 1, "y": 1, name: None})
            for value in NO_NUMBERS + (Sum(1), nested(70)):
                self.check_error(InvalidRatio, {"value": value}, call, loop, 1, x=1, y=value)
                self.check_error(InvalidRatio, {"value": value}, call, loop, 1, y="later", x=value)
                self.check_error(InvalidRatio, {"value": value}, call, loop, 0, x=value)

    def test_missing_beginnings(self):
        loop = Loop(x=0, y=0, a=0)
        for call in (after, steps):
            self.check_error(UnknownName, {"name": "a"}, call, loop, 1)
            self.check_error(UnknownName, {"name": "a"}, call, loop, 1, x=1, y=1)
            self.check_error(UnknownName, {"name": "x"}, call, loop, 1, a=1)
            self.check_error(UnknownName, {"name": "y"}, call, loop, 0, a=1, x=2)

    def test_order_of_errors(self):
        loop = Loop(x=0, y=0)
        for call in (after, steps):
            # Names ascend, each with all of its errors, and missing ones come last.
            self.check_error(InvalidRatio, {"value": None}, call, loop, 1, x=None, z=1)
            self.check_error(UnknownName, {"name": "a"}, call, loop, 1, a=None, x=None)
            self.check_error(InvalidName, {"name": "A"}, call, loop, 1, A=None, a=1, x=None)
            self.check_error(UnknownName, {"name": "z"}, call, loop, 1, x=1, z=1)
            self.check_error(InvalidRatio, {"value": ()}, call, loop, 1, y=())
            self.check_error(InvalidName, {"name": "y1"}, call, loop, 1, x=1, y1=1, z=1)


class ValueAfterTest(Checks):
    def test_models(self):
        for seed in range(120):
            model = random_model(seed)
            loop = loop_of(model)
            before = state(loop)
            parts = random_parts(seed, model[0])
            total = sum_of(parts)
            for rounds in (0, 1, 2, 5, 6, 13):
                found = value_after(loop, total, rounds)
                self.assertIs(type(found), Sum)
                self.assertEqual(found, sum_of(parts_after(model, parts, rounds)))
                self.assertEqual(value_after(rounds=rounds, total=total, loop=loop), found)
            self.assertEqual(state(loop), before)

    def test_it_tells_the_values_of_runs(self):
        for seed in range(30):
            loop = loop_of(random_model(seed))
            values = {name: Ratio(at - 2, 3) for at, name in enumerate(loop.names)}
            for rounds in (4, 50):
                ends = dict(after(loop, rounds, **values))
                for name in loop.names:
                    self.assertEqual(value_after(loop, loop[name], rounds).at(**values), ends[name])

    def test_numbers(self):
        loop = Loop(x=0)
        loop["x"] *= 2
        for number in (0, 3, Ratio(-1, 2)):
            self.assertEqual(value_after(loop, number, 5), Sum(number))
        self.assertEqual(value_after(loop, Sum(1, x=-1), 1000), Sum(1, x=-2 ** 1000))

    def test_wrong_arguments(self):
        loop = Loop(x=0, y=0)
        for value in NO_LOOPS:
            self.check_error(NotALoop, {"value": value}, value_after, value, None, -1)
        for value in NO_NUMBERS + (nested(70), loop):
            self.check_error(NotASum, {"value": value}, value_after, loop, value, -1)
        self.check_error(UnknownName, {"name": "a"}, value_after, loop, Sum(z=1, a=1, x=1), -1)
        for value in NO_ROUNDS:
            self.check_error(InvalidNumber, {"number": value}, value_after, loop, loop["x"], value)
            self.check_error(InvalidNumber, {"number": value}, value_after, rounds=value, total=0, loop=loop)
