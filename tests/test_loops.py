"""loopbounds.loops: points 10 and 11 and the section on loops, with points 3 to 7 for them."""

import itertools
import random
from math import lcm

from loopbounds.errors import (
    InvalidName, InvalidNumber, InvalidRange, InvalidSum, NotASum, Ring, TooLong, TooMany, TwiceAssigned, UnknownName,
)
from loopbounds.loops import Loop
from loopbounds.ratios import Ratio
from loopbounds.sums import Sum
from tests.helping import NO_INTEGERS, NO_KEYWORDS, NO_NAMES, NO_NUMBERS, ODD_VALUES, Checks, nested
from tests.models import loop_of, random_model, sum_of

BILLION = 10 ** 9
SLOTS = [(every, at) for every in range(1, 7) for at in range(every)]
GOOD_RANGES = (
    (0, 0, 0), (7, 7, 7), (Ratio(-1, 2), Ratio(-1, 2), Ratio(-1, 2)), ((0, 1), 0, 1), ((-3, -3), -3, -3),
    ((0, None), 0, None), ((Ratio(1, 3), Ratio(1, 2)), Ratio(1, 3), Ratio(1, 2)), ((Ratio(-7, 2), 4), Ratio(-7, 2), 4),
    ((Ratio(4, 2), 2), 2, 2), (BILLION, BILLION, BILLION), (-BILLION, -BILLION, -BILLION),
    ((-BILLION, BILLION), -BILLION, BILLION), ((Ratio(-1, BILLION), Ratio(1, BILLION)), Ratio(-1, BILLION),
                                               Ratio(1, BILLION)),
    (Ratio(BILLION, BILLION - 1), Ratio(BILLION, BILLION - 1), Ratio(BILLION, BILLION - 1)),
    ((Ratio(BILLION - 1, BILLION), None), Ratio(BILLION - 1, BILLION), None),
)
BAD_RANGES = tuple(value for value in ODD_VALUES if value is not ODD_VALUES[-2] and not value == -1) + (
    (1, 0), (0, Ratio(-1, BILLION)), (None, 1), (None, None), (1,), (1, 2, 3), (1, 2, None), [0, 1], [0, None], "01",
    (True, 2), (0, True), (False, False), ("0", "1"), (0, "1"), (0, Sum(1)), Sum(1), (Sum(0), None), {0: 1}, {0, 1},
    BILLION + 1, -BILLION - 1, (0, BILLION + 1), (-BILLION - 1, 0), (-BILLION - 1, None), Ratio(1, BILLION + 1),
    (Ratio(-1, BILLION + 1), 0), (0, Ratio(BILLION + 1, 2)), ((0, 1), 2), (0, (1, 2)), nested(70), (0, nested(69)),
    ValueError("x"),
)


def names_of(many):
    return ["abcdefghijklm"[at] for at in range(many)]


def state(loop):
    """All that a loop tells of itself, to see whether it changed."""
    ends = [(low.top, low.bottom, high and (high.top, high.bottom)) for low, high in map(loop.range_of, loop.names)]
    return loop.names, ends, [(name, str(total), every, at) for name, total, every, at in loop.body], loop.period


class LoopChecks(Checks):
    def check_unchanged(self, kind, fields, loop, call, *args, **more):
        """The call raises the error, and leaves the loop as it is."""
        before = state(loop)
        self.check_error(kind, fields, call, *args, **more)
        self.assertEqual(state(loop), before)


class MakingTest(LoopChecks):
    def test_ranges(self):
        for told, low, high in GOOD_RANGES:
            found = Loop(x=told).range_of("x")
            self.assertIs(type(found), tuple)
            self.check_is_ratio(found[0], low)
            if high is None:
                self.assertEqual(len(found), 2)
                self.assertIsNone(found[1])
            else:
                self.check_is_ratio(found[1], high)

    def test_names_ascend(self):
        loop = Loop(z=1, total=2, a=(0, None), aa=3, index=4, ab=5)
        self.check_same(loop.names, ("a", "aa", "ab", "index", "total", "z"))
        self.check_same(loop.body, ())
        self.check_same(loop.period, 1)
        self.assertEqual([str(loop.range_of(name)[0]) for name in loop.names], ["0", "3", "5", "4", "2", "1"])

    def test_one_to_six_variables(self):
        for many in range(1, 7):
            self.assertEqual(len(Loop(**dict.fromkeys(names_of(many), 0)).names), many)
        for many in (0, 7, 8, 13):
            self.check_raised(TooMany, {"found": many}, Loop, **dict.fromkeys(names_of(many), (0, None)))

    def test_wrong_ranges(self):
        for value in BAD_RANGES:
            self.check_error(InvalidRange, {"name": "x"}, Loop, x=value)
            self.check_error(InvalidRange, {"name": "x"}, Loop, a=1, z=(0, None), x=value)

    def test_wrong_names(self):
        for name in NO_KEYWORDS:
            self.check_error(InvalidName, {"name": name}, Loop, **{name: 1})
            self.check_error(InvalidName, {"name": name}, Loop, **{"zzz": 1, name: (0, 1)})

    def test_order_of_errors(self):
        # Of one name InvalidName comes first, of several names the least one, and their number last.
        self.check_error(InvalidName, {"name": "A"}, Loop, **{"A": None, "a": None})
        self.check_error(InvalidName, {"name": "x1"}, Loop, **{"y": None, "x1": (1, 0)})
        self.check_error(InvalidRange, {"name": "x"}, Loop, **{"x1": 1, "x": (1, 0)})
        self.check_error(InvalidRange, {"name": "b"}, Loop, d=None, b=None, c=1, a=2)
        many = dict.fromkeys(names_of(9), 0)
        self.check_raised(InvalidRange, {"name": "i"}, Loop, **{**many, "i": (2, 1)})
        self.check_raised(InvalidName, {"name": "zZ"}, Loop, **{**many, "zZ": 1})

    def test_truth_equality_and_iteration(self):
        one, two = Loop(x=1), Loop(x=1)
        self.check_same(bool(one), True)
        self.check_same(one == one, True)
        self.check_same(one == two, False)
        self.check_same(one != two, True)
        self.check_same(one == one.copy(), False)
        for value in ODD_VALUES:
            self.check_same(one == value, False)
        self.check_error(TypeError, {}, iter, one)

    def test_nothing_is_assigned_to_a_property(self):
        loop = Loop(x=1)
        for name in ("names", "body", "period"):
            with self.assertRaises(AttributeError):
                setattr(loop, name, ())


class NamesTest(LoopChecks):
    def test_contains(self):
        loop = Loop(x=1, total=(0, None))
        for value in ODD_VALUES + NO_NAMES + ("y", "xx", "tota", 0, 1, Sum(x=1), ("x", "total"), loop):
            self.check_same(value in loop, value == "x" if isinstance(value, str) else False)
        self.check_same("total" in loop, True)

    def test_getting(self):
        loop = Loop(x=1, total=(0, None))
        for name in loop.names:
            found = loop[name]
            self.assertIs(type(found), Sum)
            self.assertEqual(str(found), f"1 {name}")
        for name in NO_NAMES:
            self.check_error(InvalidName, {"name": name}, lambda: loop[name])
            self.check_error(InvalidName, {"name": name}, loop.range_of, name)
            self.check_error(InvalidName, {"name": name}, loop.range_of, name=name)
        for name in ("y", "xx", "in", "names"):
            self.check_error(UnknownName, {"name": name}, lambda: loop[name])
            self.check_error(UnknownName, {"name": name}, loop.range_of, name)


class AssigningTest(LoopChecks):
    def test_body(self):
        loop = Loop(x=1, y=2, every=3)
        self.assertIsNone(loop.assign("y", loop["x"] - 2))
        self.assertIsNone(loop.assign("x", 3, every=2, at=1))
        self.assertIsNone(loop.assign(every=3, total=Ratio(1, 2), name="every"))
        self.assertIsNone(loop.assign("every", loop["every"] * 9, at=2, every=3))
        self.assertIs(type(loop.body), tuple)
        for found, wanted in zip(loop.body, (
            ("y", Sum(-2, x=1), 1, 0), ("x", Sum(3), 2, 1), ("every", Sum(Ratio(1, 2)), 3, 0),
            ("every", Sum(every=9), 3, 2),
        ), strict=True):
            self.assertIs(type(found), tuple)
            self.assertIs(type(found[1]), Sum)
            self.assertEqual(found, wanted)
            self.assertEqual([type(item) for item in found[2:]], [int, int])

    def test_models(self):
        for seed in range(100):
            ranges, body = random_model(seed)
            loop = loop_of((ranges, body))
            self.assertEqual(loop.names, tuple(ranges))
            self.assertEqual(loop.body, tuple((name, sum_of(parts), every, at) for name, parts, every, at in body))
            self.check_same(loop.period, lcm(*[every for _, _, every, _ in body]))

    def test_setting(self):
        loop = Loop(x=1, y=2)
        loop["x"] = loop["x"] - loop["y"]
        loop["y"] += 2
        self.assertEqual(loop.body, (("x", Sum(x=1, y=-1), 1, 0), ("y", Sum(2, y=1), 1, 0)))
        for name, total, kind, fields in (
            ("A", None, InvalidName, {"name": "A"}), (1, None, InvalidName, {"name": 1}),
            ("z", None, UnknownName, {"name": "z"}), ("x", "x", NotASum, {"value": "x"}),
            ("x", Sum(z=1), UnknownName, {"name": "z"}), ("x", 1001, InvalidSum, {"value": 1001}),
            ("x", 3, TwiceAssigned, {"name": "x"}),
        ):
            self.check_unchanged(kind, fields, loop, loop.__setitem__, name, total)

    def test_own_multiplier_is_kept_small(self):
        for number in (0, 1, 9, -9, Ratio(1, 9), Ratio(-9, 8), Ratio(9, 7)):
            loop = Loop(x=1, y=2)
            loop.assign("x", Sum(5, x=number, y=1000))
            self.assertEqual(loop.body[0][1].coefficient_of("x"), number)
        for number in (10, -10, 1000, Ratio(1, 10), Ratio(10, 9), Ratio(-11, 2), Ratio(89, 10)):
            loop = Loop(x=1, y=2)
            total = Sum(5, x=number)
            self.check_unchanged(InvalidSum, {"value": total}, loop, loop.assign, "x", total)

    def test_other_numbers_are_kept_plain(self):
        for number in (1000, -1000, Ratio(1000, 9), Ratio(-1, 9), Ratio(10, 9), Ratio(-999, 8)):
            loop = Loop(x=1, y=2)
            loop.assign("x", Sum(number, y=number))
            self.assertEqual(loop.body[0][1], Sum(number, y=number))
            loop.assign("y", number)
        for number in (1001, -1001, Ratio(1, 10), Ratio(1001, 2), Ratio(-9, 10), 10 ** 30, Ratio(1, 10 ** 30)):
            loop = Loop(x=1, y=2)
            for total in (number, Sum(number), Sum(number, x=1), Sum(y=number), Sum(1, x=1, y=number), Sum(x=number)):
                self.check_unchanged(InvalidSum, {"value": total}, loop, loop.assign, "x", total)

    def test_every_and_at(self):
        for every, at in SLOTS:
            loop = Loop(x=1)
            loop.assign("x", 0, every=every, at=at)
            self.assertEqual(loop.body, (("x", Sum(), every, at),))
            self.check_same(loop.period, every)
        loop = Loop(x=1)
        for every in NO_INTEGERS + (0, -1, 7, 10 ** 30):
            self.check_unchanged(InvalidNumber, {"number": every}, loop, loop.assign, "x", 0, every=every, at=every)
        for every in range(1, 7):
            for at in NO_INTEGERS + (-1, every, 6, 10 ** 30):
                self.check_unchanged(InvalidNumber, {"number": at}, loop, loop.assign, "x", 0, every=every, at=at)
        self.check_unchanged(InvalidNumber, {"number": 1}, loop, loop.assign, "x", 0, at=1)

    def test_every_and_at_by_name_only(self):
        loop = Loop(x=1)
        self.check_unchanged(TypeError, {}, loop, loop.assign, "x", 0, 1)
        self.check_unchanged(TypeError, {}, loop, loop.assign, "x", 0, 1, 0)

    def test_wrong_names_and_totals(self):
        loop = Loop(x=1, y=2)
        for name in NO_NAMES:
            self.check_unchanged(InvalidName, {"name": name}, loop, loop.assign, name, None, every=0)
        self.check_unchanged(UnknownName, {"name": "z"}, loop, loop.assign, "z", None, every=0)
        for total in NO_NUMBERS + (nested(70), loop, [Sum(1)]):
            self.check_unchanged(NotASum, {"value": total}, loop, loop.assign, "x", total, every=0)
        for total, name in ((Sum(z=1), "z"), (Sum(z=1, aa=1, x=1, b=1), "aa"), (Sum(2000, x=1, yy=1, y=1), "yy")):
            self.check_unchanged(UnknownName, {"name": name}, loop, loop.assign, "x", total, every=0)
        loop.assign("x", Sum(1, x=2, z=0))
        self.assertEqual(loop.body, (("x", Sum(1, x=2), 1, 0),))

    def test_order_of_errors(self):
        full = Loop(x=1, y=2, z=3)
        for every, at in [(6, at) for at in range(6)]:
            full.assign("x", full["y"], every=every, at=at)
            full.assign("y", 1, every=every, at=at)
        big, ring = Sum(1001), Sum(x=1)
        check = self.check_unchanged
        check(InvalidSum, {"value": big}, full, full.assign, "x", big, every=0, at=-1)
        check(InvalidNumber, {"number": 0}, full, full.assign, "x", 1, every=0, at=-1)
        check(InvalidNumber, {"number": 4}, full, full.assign, "x", 1, every=4, at=4)
        check(TooLong, {}, full, full.assign, "y", ring, every=4)
        check(TooLong, {}, full, full.assign, "z", 1)
        full.drop(11)
        check(TwiceAssigned, {"name": "y"}, full, full.assign, "y", ring, every=4)
        full.drop(10)
        full.drop(9)
        check(TooMany, {"found": 30}, full, full.assign, "z", full["z"], every=5)
        check(TooMany, {"found": 12}, full, full.assign, "z", full["z"], every=4)
        full.drop(1)
        check(TwiceAssigned, {"name": "y"}, full, full.assign, "y", ring, every=5)
        for index in (2, 3, 4):
            full.drop(index)
        self.assertEqual([step[0] for step in full.body], ["x"] * 5)
        check(TooMany, {"found": 30}, full, full.assign, "y", ring, every=5)
        self.check_raised(Ring, {"ring": ("y", "x")}, full.assign, "y", ring, every=6)
        full.assign("y", full["y"], every=6)


class RoundsTest(LoopChecks):
    def test_two_assignments_of_one_variable(self):
        for one, two in itertools.product(SLOTS, SLOTS):
            loop = Loop(x=1, y=1)
            loop.assign("x", 1, every=one[0], at=one[1])
            meet = any(n % one[0] == one[1] and n % two[0] == two[1] for n in range(60))
            if meet:
                self.check_unchanged(TwiceAssigned, {"name": "x"}, loop, loop.assign, "x", 0, every=two[0], at=two[1])
            elif lcm(one[0], two[0]) > 6:
                wanted = {"found": lcm(one[0], two[0])}
                self.check_unchanged(TooMany, wanted, loop, loop.assign, "x", 0, every=two[0], at=two[1])
            else:
                loop.assign("x", 0, every=two[0], at=two[1])
                self.check_same(loop.period, lcm(one[0], two[0]))

    def test_periods(self):
        for three in itertools.product(range(1, 7), repeat=3):
            loop = Loop(x=1, y=1, z=1)
            every = 1
            for name, step in zip("xyz", three):
                every = lcm(every, step)
                if every > 6:
                    self.check_raised(TooMany, {"found": every}, loop.assign, name, 1, every=step)
                    break
                loop.assign(name, 1, every=step)
                self.check_same(loop.period, every)

    def test_twelve_assignments(self):
        loop = Loop(x=1, y=1, z=1)
        for at in range(6):
            loop.assign("x", at, every=6, at=at)
            loop.assign("y", at, every=6, at=at)
        self.assertEqual(len(loop.body), 12)
        self.check_unchanged(TooLong, {}, loop, loop.assign, "z", 1)
        loop.drop(0)
        loop.assign("z", 1)
        self.check_unchanged(TooLong, {}, loop, loop.assign, "x", 1, every=6, at=0)
        self.assertEqual(loop.body[-1], ("z", Sum(1), 1, 0))


class RingTest(LoopChecks):
    def check_ring(self, loop, edges, name, total):
        """The ring that is told is one of the graph with the new edges."""
        with self.assertRaises(Ring) as caught:
            loop.assign(name, total, every=6, at=5)
        ring = caught.exception.ring
        self.assertIs(type(ring), tuple)
        self.assertGreaterEqual(len(ring), 2)
        self.assertEqual(len(set(ring)), len(ring))
        for one, two in zip(ring, ring[1:] + ring[:1]):
            self.assertTrue((one, two) in edges or one == name and total.coefficient_of(two) != 0)

    def reaches(self, edges, first, last):
        found = {first}
        for _ in range(6):
            found |= {two for one, two in edges if one in found}
        return last in found

    def test_random_graphs(self):
        rings = 0
        for seed in range(300):
            names = names_of(2 + seed % 5)
            loop, edges = Loop(**dict.fromkeys(names, 1)), set()
            source = random.Random(seed)
            for at in range(5):
                one, two, three = [source.choice(names) for _ in range(3)]
                total = Sum(1, **{two: 1}) - Sum(**{three: Ratio(1, 2)}) + Sum(**{one: 1})
                others = [name for name in total.names if name != one]
                if any(self.reaches(edges, other, one) for other in others):
                    before = state(loop)
                    self.check_ring(loop, edges, one, total)
                    self.assertEqual(state(loop), before)
                    rings += 1
                else:
                    loop.assign(one, total, every=6, at=at)
                    edges |= {(one, other) for other in others}
        self.assertGreater(rings, 100)

    def test_six_in_a_ring(self):
        loop = Loop(a=1, b=1, c=1, d=1, e=1, f=1)
        for at, (one, two) in enumerate(zip("abcde", "bcdef")):
            loop.assign(one, loop[two], every=6, at=at)
        self.check_raised(Ring, {"ring": tuple("fabcde")}, loop.assign, "f", loop["f"] + loop["a"], every=6, at=5)
        self.check_raised(Ring, {"ring": ("f", "e")}, loop.assign, "f", loop["e"], every=6, at=5)
        loop.drop(2)
        loop.assign("f", loop["f"] + loop["a"], every=6, at=5)

    def test_a_variable_that_rests_on_itself_is_no_ring(self):
        loop = Loop(x=1, y=1)
        loop["x"] = loop["x"] * 2 + loop["y"]
        loop["y"] = loop["y"] * -2 + loop["x"] * 0
        self.assertEqual(len(loop.body), 2)

    def test_the_rounds_of_the_assignments_do_not_matter(self):
        loop = Loop(x=1, y=1)
        loop.assign("x", loop["y"], every=2, at=0)
        self.check_raised(Ring, {"ring": ("y", "x")}, loop.assign, "y", loop["x"], every=2, at=1)
        loop.drop(0)
        loop.assign("y", loop["x"], every=2, at=1)


class DroppingTest(LoopChecks):
    def test_drop(self):
        for index in range(4):
            loop = Loop(x=1, y=1)
            for at in range(4):
                loop.assign("x", at, every=4, at=at)
            self.assertIsNone(loop.drop(index))
            self.assertEqual([step[3] for step in loop.body], [at for at in range(4) if at != index])
            self.assertIsNone(loop.drop(index=0))
            self.assertEqual(len(loop.body), 2)

    def test_period_after_drop(self):
        loop = Loop(x=1, y=1)
        loop.assign("x", 1, every=2)
        loop.assign("y", 1, every=3)
        self.check_same(loop.period, 6)
        loop.drop(0)
        self.check_same(loop.period, 3)
        loop.drop(0)
        self.check_same(loop.period, 1)
        loop.assign("x", 1, every=5, at=4)
        self.check_same(loop.period, 5)

    def test_wrong_indexes(self):
        loop = Loop(x=1, y=1)
        for many in range(3):
            for index in NO_INTEGERS + (-1, many, many + 1, 10 ** 30, -10 ** 30):
                self.check_unchanged(InvalidNumber, {"number": index}, loop, loop.drop, index)
            if many < 2:
                loop.assign("xy"[many], 1)


class CopyingTest(LoopChecks):
    def test_copies(self):
        for seed in range(40):
            loop = loop_of(random_model(seed))
            made = loop.copy()
            self.assertIs(type(made), Loop)
            self.assertIsNot(made, loop)
            self.assertEqual(state(made), state(loop))

    def test_each_changes_by_itself(self):
        loop = Loop(x=(0, None), y=1)
        loop["x"] += 1
        made = loop.copy()
        made.assign("y", made["x"])
        self.assertEqual((len(loop.body), len(made.body)), (1, 2))
        loop.drop(0)
        self.assertEqual((len(loop.body), len(made.body)), (0, 2))
        loop.assign("x", loop["y"])
        self.assertEqual(made.body, (("x", Sum(1, x=1), 1, 0), ("y", Sum(x=1), 1, 0)))
        self.assertIsNone(made.range_of("x")[1])


class DefinedTest(Checks):
    def test_each_listed_method_stands_in_the_class(self):
        for name in (
            "__init__", "__getitem__", "__setitem__", "__contains__", "assign", "drop", "copy", "names", "body",
            "period",
            "range_of",
        ):
            self.assertIn(name, vars(Loop))
        self.assertEqual(Loop.__module__, "loopbounds.loops")
