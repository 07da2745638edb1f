"""loopbounds.rounds: the section on sets of rounds, with points 3 to 7 for it."""

import itertools
import operator
import random
from math import lcm

from loopbounds.errors import InvalidNumber, InvalidValues, TooMany
from loopbounds.ratios import Ratio
from loopbounds.rounds import Rounds
from loopbounds.sums import Sum
from tests.helping import NO_INTEGERS, ODD_VALUES, Checks, nested

MILLION = 10 ** 6
BILLION = 10 ** 9
# All members of the sets below that do not repeat are less than this.
END = 60
EMPTY = Rounds.told()
ALL = Rounds.rests(1, 0)
SIGNS = (
    (operator.and_, set.__and__), (operator.or_, set.__or__), (operator.sub, set.__sub__), (operator.xor, set.__xor__),
)


def random_set(source, depth=3):
    """A random set of rounds, its modulus, and the set of its members less than 4 * END."""
    kind = source.randrange(4 if depth else 2)
    if kind == 0:
        members = sorted(source.sample(range(END), source.randint(0, 6)))
        return Rounds.told(*members), 1, set(members)
    if kind == 1:
        modulus = source.choice((1, 2, 3, 4, 6, 5))
        rests = sorted(source.sample(range(modulus), source.randint(0, modulus)))
        return Rounds.rests(modulus, *rests), modulus, {n for n in range(4 * END) if n % modulus in rests}
    sign, plain_sign = source.choice(SIGNS)
    one, one_modulus, one_members = random_set(source, depth - 1)
    two, two_modulus, two_members = random_set(source, depth - 1)
    return sign(one, two), lcm(one_modulus, two_modulus), plain_sign(one_members, two_members)


def some_sets():
    source = random.Random(9)
    return [random_set(source) for _ in range(150)]


SETS = some_sets()


class RoundsChecks(Checks):
    def check_set(self, found, modulus, members):
        """The set has this modulus, and these members less than 4 * END, in every way in which it tells them."""
        self.assertIs(type(found), Rounds)
        self.check_same(found.modulus, modulus)
        for n in range(4 * END):
            self.check_same(n in found, n in members)
        for first in (0, 1, 7, END - 1, END, 100):
            wanted = [n for n in sorted(members) if n >= first]
            for many in (0, 1, 5, 30):
                got = list(found.members(first, many))
                self.check_same(got[:len(wanted)], wanted[:many])
                if not any(n >= END for n in members):
                    self.assertEqual(len(got), min(many, len(wanted)))
            if wanted:
                self.check_same(found.after(first), wanted[0])
            else:
                self.assertIsNone(found.after(first))
        self.check_same(bool(found), bool(members))
        gaps = [n for n in range(4 * END) if n not in members]
        if gaps and gaps[-1] >= END:
            self.assertIsNone(found.whole_from)
        else:
            self.check_same(found.whole_from, gaps[-1] + 1 if gaps else 0)


class MakingTest(RoundsChecks):
    def test_told(self):
        for members in ((), (0,), (1,), (0, 1, 2), (3, 10, 11, 59), tuple(range(END)), tuple(range(1, END, 2))):
            self.check_set(Rounds.told(*members), 1, set(members))
        self.check_same(list(Rounds.told(5, MILLION).members(0, 10)), [5, MILLION])
        many = Rounds.told(*range(0, 99998 * 2, 2))
        self.check_same(many.after(99997 * 2), 99997 * 2)
        self.assertIsNone(many.after(99997 * 2 + 1))

    def test_rests(self):
        for modulus in range(1, 8):
            for many in range(modulus + 1):
                for rests in itertools.combinations(range(modulus), many):
                    found = Rounds.rests(modulus, *rests)
                    self.check_set(found, modulus, {n for n in range(4 * END) if n % modulus in rests})

    def test_the_greatest_modulus(self):
        found = Rounds.rests(5040, 0, 17, 5039)
        self.check_same(found.modulus, 5040)
        self.check_same(list(found.members(1, 5)), [17, 5039, 5040, 5057, 10079])
        self.check_same(len(list(found.members(0, 1000))), 1000)
        self.check_same(found.after(BILLION), BILLION + next(n for n in range(5040) if (BILLION + n) % 5040 in (0, 17, 5039)))
        self.check_same(Rounds.rests(5040, *range(5040)).whole_from, 0)
        self.check_same(Rounds.rests(5040, *range(5040)) == ALL, True)
        self.assertIsNone(Rounds.rests(5040, *range(1, 5040)).whole_from)

    def test_wrong_members(self):
        for value in NO_INTEGERS + (-1, MILLION + 1, 10 ** 30):
            self.check_error(InvalidValues, {"index": 0}, Rounds.told, value)
            self.check_error(InvalidValues, {"index": 2}, Rounds.told, 0, 1, value, value)
        for members, index in (((0, 0), 1), ((1, 0), 1), ((0, 5, 5, None), 2), ((3, 4, 2, 1), 2), ((1, 2, 3, 3), 3)):
            self.check_error(InvalidValues, {"index": index}, Rounds.told, *members)

    def test_wrong_rests(self):
        for value in NO_INTEGERS + (-1, 6, 7, 10 ** 30):
            self.check_error(InvalidValues, {"index": 0}, Rounds.rests, 6, value)
            self.check_error(InvalidValues, {"index": 2}, Rounds.rests, 6, 0, 1, value, value)
        for rests, index in (((0, 0), 1), ((1, 0), 1), ((0, 5, 5, None), 2), ((3, 4, 2, 1), 2)):
            self.check_error(InvalidValues, {"index": index}, Rounds.rests, 6, *rests)
        self.check_error(InvalidValues, {"index": 1}, Rounds.rests, 1, 0, 1)
        self.check_error(InvalidValues, {"index": 0}, Rounds.rests, 5040, 5040)

    def test_wrong_moduli(self):
        for value in NO_INTEGERS + (0, -1, 5041, 10 ** 30):
            self.check_error(InvalidNumber, {"number": value}, Rounds.rests, value)
            self.check_error(InvalidNumber, {"number": value}, Rounds.rests, value, None)
            self.check_error(InvalidNumber, {"number": value}, Rounds.rests, modulus=value)
        self.check_set(Rounds.rests(modulus=4), 4, set())

    def test_static_methods_are_called_off_objects_too(self):
        self.check_same(list(ALL.told(3, 4).members(0, 9)), [3, 4])
        self.check_same(list(EMPTY.rests(2, 1).members(0, 2)), [1, 3])

    def test_nothing_is_assigned_to_a_property(self):
        for name in ("modulus", "whole_from"):
            with self.assertRaises(AttributeError):
                setattr(ALL, name, 2)


class CombiningTest(RoundsChecks):
    def test_random_sets(self):
        for found, modulus, members in SETS:
            self.check_set(found, modulus, members)

    def test_pairs(self):
        for (one, one_modulus, one_members), (two, two_modulus, two_members) in zip(SETS, SETS[1:] + SETS[:1]):
            modulus = lcm(one_modulus, two_modulus)
            for sign, plain_sign in SIGNS:
                self.check_set(sign(one, two), modulus, plain_sign(one_members, two_members))
            self.check_set(one, one_modulus, one_members)
            self.check_set(two, two_modulus, two_members)

    def test_equality_and_order(self):
        for one, two in itertools.product(SETS[::2], SETS[::3]):
            # The members less than 4 * END tell all: the moduli have 60 for a multiple.
            self.check_same(one[0] == two[0], one[2] == two[2])
            self.check_same(one[0] != two[0], one[2] != two[2])
            self.check_same(one[0] <= two[0], one[2] <= two[2])
        for found, _, _ in SETS:
            self.check_same(found == found, True)
            self.check_same((found ^ found) == EMPTY, True)
            self.check_same((found | (ALL - found)) == ALL, True)
            self.check_same(EMPTY <= found <= ALL, True)

    def test_equal_sets_with_other_moduli(self):
        self.check_same(Rounds.rests(6, 1, 4) == Rounds.rests(3, 1), True)
        self.check_same(Rounds.rests(4, 0, 2) == Rounds.rests(6, 0, 2, 4), True)
        self.check_same(Rounds.rests(4, 0, 2) != Rounds.rests(6, 0, 2, 4), False)
        self.check_same(Rounds.rests(4, 0, 1) == Rounds.rests(6, 0, 1), False)
        self.check_same(Rounds.rests(4) == Rounds.rests(6), True)
        self.check_same(Rounds.rests(4) == EMPTY, True)
        self.check_same(Rounds.rests(5040, *range(0, 5040, 7)) == Rounds.rests(7, 0), True)
        self.check_same(Rounds.rests(2, 1) - Rounds.told(1) == Rounds.rests(2, 1), False)
        self.check_same(Rounds.rests(2, 1) - Rounds.told(2) == Rounds.rests(2, 1), True)
        self.check_same((Rounds.rests(2, 1) - Rounds.told(2)).modulus, 2)

    def test_moduli_up_to_the_limit(self):
        for one, two in ((5040, 7), (720, 7), (63, 80), (1, 5040), (5039, 1), (71, 70)):
            for sign, _ in SIGNS:
                self.check_same(sign(Rounds.rests(one, 0), Rounds.rests(two, 0)).modulus, lcm(one, two))
            self.check_same(Rounds.rests(one, 0) <= Rounds.rests(two, 0), one % two == 0)
        found = Rounds.rests(63, 5) & Rounds.rests(80, 7)
        self.check_same(found.after(0), next(n for n in range(5040) if n % 63 == 5 and n % 80 == 7))

    def test_moduli_beyond_the_limit(self):
        for one, two in ((5040, 11), (5039, 2), (72, 71), (5041 // 71, 73), (1000, 999)):
            for sign in (operator.and_, operator.or_, operator.sub, operator.xor, operator.le):
                for rests in ((), (0,)):
                    wanted = {"found": lcm(one, two)}
                    self.check_raised(TooMany, wanted, sign, Rounds.rests(one, *rests), Rounds.rests(two, *rests))

    def test_other_operands(self):
        for sign in (operator.and_, operator.or_, operator.sub, operator.xor, operator.le):
            for wrong in ODD_VALUES + (0, Ratio(1), Sum(1), {1}, frozenset(), nested(70)):
                self.check_error(TypeError, {}, sign, ALL, wrong)
                self.check_error(TypeError, {}, sign, wrong, ALL)
        for value in ODD_VALUES + (0, {0}, (0,), [0], Ratio(1)):
            self.check_same(Rounds.told(0) == value, False)
            self.check_same(value == Rounds.told(0), False)
            self.check_same(Rounds.told(0) != value, True)

    def test_operators_that_are_not_there(self):
        for sign in (operator.add, operator.mul, operator.lt, operator.gt):
            self.check_error(TypeError, {}, sign, ALL, EMPTY)
        for sign in (operator.neg, operator.invert, len, iter):
            self.check_error(TypeError, {}, sign, ALL)


class AskingTest(RoundsChecks):
    def test_contains(self):
        some = Rounds.rests(2, 1) | Rounds.told(0, MILLION)
        for n, wanted in ((0, True), (1, True), (2, False), (MILLION, True), (MILLION + 2, False), (-1, False), (-2, False),
                          (10 ** 100 + 1, True), (10 ** 100, False), (-10 ** 100 - 1, False)):
            self.check_same(n in some, wanted)
        for value in NO_INTEGERS + (True, False, "1", (1,), [1], ALL):
            self.check_same(value in ALL, False)
            self.check_same(value in some, False)

    def test_whole_from(self):
        self.check_same(ALL.whole_from, 0)
        self.check_same((ALL - Rounds.told(0)).whole_from, 1)
        self.check_same((ALL - Rounds.told(3, MILLION)).whole_from, MILLION + 1)
        self.check_same((Rounds.rests(2, 0) | Rounds.rests(2, 1)).whole_from, 0)
        self.check_same(((Rounds.rests(2, 0) | Rounds.rests(2, 1)) - Rounds.told(7)).whole_from, 8)
        self.assertIsNone((Rounds.rests(2, 0) | Rounds.told(1, 3)).whole_from)
        self.assertIsNone(EMPTY.whole_from)
        self.assertIsNone(Rounds.told(*range(1000)).whole_from)

    def test_after(self):
        some = Rounds.rests(10, 9) - Rounds.told(19, 29) | Rounds.told(0, 20, 21)
        for first, wanted in ((0, 0), (1, 9), (9, 9), (10, 20), (20, 20), (21, 21), (22, 39), (39, 39), (40, 49),
                              (BILLION, BILLION + 9)):
            self.check_same(some.after(first), wanted)
            self.check_same(some.after(first=first), wanted)
        self.assertIsNone(EMPTY.after(0))
        self.assertIsNone(Rounds.told(5).after(6))
        self.assertIsNone(Rounds.told(5).after(BILLION))
        self.check_same(Rounds.told(MILLION).after(0), MILLION)
        self.check_same(ALL.after(BILLION), BILLION)

    def test_members(self):
        some = ALL - Rounds.told(*range(0, 50000))
        self.check_same(list(some.members(0, 3)), [50000, 50001, 50002])
        self.check_same(list(some.members(many=2, first=BILLION)), [BILLION, BILLION + 1])
        self.check_same(list(ALL.members(5, 1000)), list(range(5, 1005)))
        self.check_same(list(EMPTY.members(0, 1000)), [])
        found = ALL.members(0, 2)
        self.assertIs(iter(found), found)
        self.assertEqual([next(found), next(found), next(found, None)], [0, 1, None])
        mixed = (Rounds.rests(2, 0) - Rounds.told(*range(0, 100000, 2))) | Rounds.told(*range(1, 100000, 2))
        self.check_same(list(mixed.members(99000, 1000)), list(range(99001, 100000, 2)) + list(range(100000, 101000, 2)))

    def test_wrong_arguments(self):
        for some in (EMPTY, ALL, Rounds.told(3)):
            for value in NO_INTEGERS + (-1, BILLION + 1, 10 ** 30):
                self.check_error(InvalidNumber, {"number": value}, some.after, value)
                self.check_error(InvalidNumber, {"number": value}, lambda: next(some.members(value, None)))
                self.check_error(InvalidNumber, {"number": value}, lambda: list(some.members(many=-1, first=value)))
            for value in NO_INTEGERS + (-1, 1001, 10 ** 30):
                self.check_error(InvalidNumber, {"number": value}, lambda: next(some.members(0, value)))
                self.check_error(InvalidNumber, {"number": value}, lambda: list(some.members(many=value, first=0)))

    def test_truth(self):
        for some, wanted in (
            (EMPTY, False), (Rounds.rests(7), False), (ALL - ALL, False), (Rounds.told(0), True), (ALL, True),
            (Rounds.rests(5, 4), True), (Rounds.rests(2, 0) & Rounds.rests(2, 1), False), (Rounds.told(4) & ALL, True),
            (ALL - Rounds.told(4), True), (Rounds.told(3) & Rounds.rests(2, 0), False),
        ):
            self.check_same(bool(some), wanted)


class DefinedTest(Checks):
    def test_each_listed_method_stands_in_the_class(self):
        for name in (
            "told", "rests", "modulus", "whole_from", "after", "members", "__and__", "__or__", "__sub__", "__xor__",
            "__contains__", "__eq__", "__le__", "__bool__",
        ):
            self.assertIn(name, vars(Rounds))
        for name in ("told", "rests"):
            self.assertIsInstance(vars(Rounds)[name], staticmethod)
        self.assertEqual(Rounds.__module__, "loopbounds.rounds")
