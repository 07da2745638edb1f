"""loopbounds.checker: points 2, 10, 11, 13 to 19 and the section on the checker, with points 3 to 7 for it."""

import random
import unittest
from fractions import Fraction

from loopbounds.certificates import (
    certify_agreement, certify_greatest, certify_holding, certify_settling, plain_loop, plain_sum,
)
from loopbounds.checker import accepts
from loopbounds.comparing import parting
from loopbounds.errors import InvalidSum, TooFar, TooMany
from loopbounds.extremes import least_added
from loopbounds.holding import first_break
from loopbounds.loops import Loop
from loopbounds.ratios import Ratio
from loopbounds.sums import Sum
from tests.helping import ODD_VALUES, nested, ratio
from tests.models import loop_of, random_model, random_parts, sum_of
from tests.test_comparing import changed
from tests.test_holding import changing_coefficient, counter
from tests.test_language import imports_of, trees
from tests.truth import is_right, spoilt

X = Sum(x=1)
WORDS = ("always", "breaks", "first", "greatest", "agree", "part", "settled", "ring")


def one(top, bottom=1):
    return (top, bottom)


def plain(constant=0, **coefficients):
    """A plain sum with integers."""
    return ((constant, 1), tuple((name, (coefficients[name], 1)) for name in sorted(coefficients)))


def ranged(*names):
    """Plain variables that begin with 0."""
    return tuple((name, (0, 1), (0, 1)) for name in names)


def claimed(loop, total):
    return plain_loop(loop), plain_sum(total)


def numbers(**told):
    return tuple((name, (told[name], 1)) for name in sorted(told))


class CheckerChecks(unittest.TestCase):
    def check(self, wanted, claim, certificate):
        """The checker accepts exactly what is wanted."""
        self.assertIs(accepts(claim, certificate), wanted, (claim, certificate))

    def check_all_spoilt(self, claim, certificate, many, seed=0):
        """The checker agrees with what is right for so many values that are spoilt in one thing; how many are right."""
        self.check(True, claim, certificate)
        self.assertTrue(is_right(claim, certificate))
        source, right = random.Random(seed), 0
        pairs = [(other, certificate) for other in spoilt(claim)]
        pairs = source.sample(pairs, min(many, len(pairs)))
        others = [(claim, other) for other in spoilt(certificate)]
        for pair in pairs + source.sample(others, min(many, len(others))):
            wanted = is_right(*pair)
            right += wanted
            self.check(wanted, *pair)
        return right


class ModelsTest(CheckerChecks):
    def pairs_of(self, seed):
        model = random_model(seed)
        loop, total = loop_of(model), sum_of(random_parts(seed, model[0]))
        pairs = []
        try:
            added = least_added(loop, total) if seed % 2 else None
            total = total if added is None else total + added
            pairs.append(certify_holding(loop, total))
            pairs.append(certify_greatest(loop, total))
            pairs.append(certify_agreement(loop, total, loop_of(changed(seed, model)), total))
        except (TooFar, InvalidSum, TooMany):
            pass
        return [pair for pair in pairs if pair]

    def test_spoilt_claims(self):
        right = {word: 0 for word in WORDS}
        for seed in range(40):
            for claim, certificate in self.pairs_of(seed):
                right[claim[0]] += self.check_all_spoilt(claim, certificate, 25, seed)
        for word in ("always", "first", "greatest", "agree", "part"):
            self.assertGreater(right[word], 0, word)

    def test_certificates_of_models(self):
        told = {word: 0 for word in WORDS}
        for seed in range(40, 240):
            for claim, certificate in self.pairs_of(seed):
                told[claim[0]] += 1
                self.check(True, claim, certificate)
                self.check(False, claim, list(certificate))
                self.check(False, list(claim), certificate)
                self.check(False, claim[:-1], certificate)
                self.check(False, claim + (0,), certificate)
        for word in ("always", "first", "greatest", "agree", "part"):
            self.assertGreater(told[word], 10, word)

    def test_places_one_off(self):
        seen = 0
        for seed in range(200):
            for claim, certificate in self.pairs_of(seed):
                if claim[0] not in ("always", "greatest"):
                    continue
                places = certificate if claim[0] == "always" else certificate[0]
                for rest, (first, second) in enumerate(places):
                    for other in ((first + 1, second), (first - 1, second), (first, second + 1), (first, second - 1),
                                  (first + 1, second + 1), (first, second, second), [first, second], (first,)):
                        changed_places = places[:rest] + (other,) + places[rest + 1:]
                        spoilt_one = changed_places if claim[0] == "always" else (changed_places, certificate[1])
                        self.check(False, claim, spoilt_one)
                        seen += 1
        self.assertGreater(seen, 500)


class AlwaysTest(CheckerChecks):
    def test_known_claims(self):
        loop = Loop(x=(1, 3))
        loop["x"] = 2 * loop["x"] - 1
        told = plain_loop(loop)
        self.check(True, ("always", told, plain(-1, x=1)), ((0, 0),))
        self.check(True, ("always", told, plain(5)), ((0, 0),))
        self.check(True, ("always", told, plain()), ((0, 0),))
        for total, places in (
            (plain(-2, x=1), ((0, 0),)), (plain(10, x=-1), ((0, 3),)), (plain(-1), ((0, 0),)), (plain(-1, x=1),
            ((1, 1),)),
            (plain(-1, x=1), ((0, 1),)), (plain(-1, x=1), ()), (plain(-1, x=1), ((0, 0), (0, 0))), (plain(-1, x=1),
            (0, 0)),
            (plain(-1, x=1), ((False, 0),)), (plain(-1, x=1), ((0, False),)), (plain(-1, x=1), [(0, 0)]),
            (plain(-1, x=1), ([0, 0],)), (plain(-1, x=1), ((0, 10 ** 30),)), (plain(-1, x=1), ((-1, 0),)),
            (plain(-1, x=1), None), (plain(-1, x=1), ((0, None),)), (plain(-1, y=1), ((0, 0),)),
        ):
            self.check(False, ("always", told, total), places)

    def test_far(self):
        loop, total = changing_coefficient(1000)
        self.check(True, ("always", *claimed(loop, total + 2000)), ((1000, 1000),))
        loop, total = changing_coefficient(1001)
        for places in (((1001, 1001),), ((1000, 1000),), ((0, 0),), ((1000, 1001),)):
            self.check(False, ("always", *claimed(loop, total + 3000)), places)
        self.check(True, ("always", *claimed(counter(), X)), ((0, 0),))
        # Minus 1000, from the round 1000 on it would hold.
        self.check(False, ("always", *claimed(counter(), X - 1000)), ((0, 1000),))

    def test_the_last_place_of_each_rest(self):
        # The coefficient of y is t - many after 2 t and 2 t + 1 rounds, or one more after these.
        for at, many, places, wanted in (
            (0, 500, ((500, 500), (499, 499)), True), (1, 499, ((499, 499), (499, 499)), True),
            (1, 500, ((500, 500), (500, 500)), False), (0, 501, ((501, 501), (500, 500)), False),
        ):
            loop = Loop(x=0, y=(1, 2))
            loop.assign("x", loop["x"] + loop["y"], every=2, at=at)
            claim = ("always", *claimed(loop, loop["x"] - many * loop["y"] + 2 * many))
            self.check(wanted, claim, places)
            self.assertEqual(is_right(claim, places), wanted)

    def test_several_rests(self):
        loop = Loop(x=(0, 1))
        loop.assign("x", -2 * loop["x"], every=3, at=1)
        claim = ("always", *claimed(loop, loop["x"] * 0))
        self.check(True, claim, ((0, 0),) * 6)
        self.check(False, claim, ((0, 0),) * 3)
        self.check(False, claim, ((0, 0),) * 12)
        loop = Loop(x=(0, None), y=5)
        loop["x"] = 0
        claim = ("always", *claimed(loop, loop["x"] + loop["y"]))
        self.check(True, claim, ((1, 1),))
        self.check(False, claim, ((0, 0),))
        # It breaks without an upper end before the rows begin.
        self.check(False, ("always", *claimed(loop, loop["y"] - loop["x"])), ((1, 1),))

    def test_a_break_between_the_places(self):
        # The least value is 3 at first, less than 0 in round 3, and 0 or more again later.
        loop = Loop(n=0, m=0)
        loop["m"] += loop["n"]
        loop["n"] += 1
        total = loop["m"] * 2 - 5 * loop["n"] + 8
        self.check(False, ("always", *claimed(loop, total)), ((0, 5),))
        for added, many in ((0, 0), (1, 1)):
            claim = ("always", *claimed(loop, total + added))
            found = [second for second in range(12) if accepts(claim, ((0, second),))]
            self.assertEqual(len(found), many)


class BreaksTest(CheckerChecks):
    def test_breaks(self):
        loop = Loop(x=(1, 3), y=0)
        loop["x"] = 2 * loop["x"] - 1
        told, total = plain_loop(loop), plain(10, x=-1)
        for word, rounds, x, wanted in (
            ("first", 3, 3, True), ("breaks", 3, 3, True), ("breaks", 4, 3, True), ("first", 4, 3, False),
            ("breaks", 4, 1, False), ("breaks", 4, 2, True), ("first", 3, 2, False), ("breaks", 2, 3, False),
            ("breaks", 1000, 2, True), ("breaks", 1001, 2, False), ("breaks", -1, 2, False), ("breaks", True, 3, False),
            ("breaks", 3, 4, False), ("breaks", 10, 0, False), ("first", 3, 4, False), ("breaks", None, 3, False),
            ("breaks", "3", 3, False), ("breaks", (3, 1), 3, False), ("first", True, 3, False),
        ):
            self.check(wanted, (word, told, total, rounds), numbers(x=x, y=0))
        self.check(True, ("breaks", told, total, 3), (("x", (5, 2)), ("y", (0, 1))))
        for certificate in (
            (("x", (6, 2)), ("y", (0, 1))), (("x", (3, 1)),), (("y", (0, 1)), ("x", (3, 1))), numbers(x=3, y=0, z=0),
            numbers(x=3, y=1), [("x", (3, 1)), ("y", (0, 1))], (["x", (3, 1)], ("y", (0, 1))), (("x", 3), ("y", 0)),
            (("x", (3, True)), ("y", (0, 1))), (("x", (3, 1)), ("y", (False, 1))), (), None, (("x", [3, 1]),
            ("y", (0, 1))),
            (("x", (-3, -1)), ("y", (0, 1))), (("x", (3, 1)), ("x", (3, 1))), {"x": (3, 1), "y": (0, 1)},
        ):
            self.check(False, ("breaks", told, total, 3), certificate)

    def test_far_sums_may_be_told_to_break(self):
        claim = (*claimed(counter(), X - 10 ** 6), 0)
        self.check(True, ("breaks", *claim), numbers(x=0))
        self.check(True, ("first", *claim), numbers(x=0))
        loop = Loop(x=0)
        loop["x"] -= 1
        self.check(True, ("first", *claimed(loop, loop["x"] + 999), 1000), numbers(x=0))
        self.check(False, ("first", *claimed(loop, loop["x"] + 1000), 1001), numbers(x=0))

    def test_without_an_upper_end(self):
        loop = Loop(x=(0, None))
        loop["x"] -= 3
        self.check(True, ("first", *claimed(loop, 5 - loop["x"]), 0), numbers(x=6))
        self.check(False, ("first", *claimed(loop, 5 - loop["x"]), 0), numbers(x=5))
        # After one round it is less than 0 for a greater beginning, but it was without bound before.
        self.check(False, ("first", *claimed(loop, 5 - loop["x"]), 1), numbers(x=9))
        self.check(True, ("breaks", *claimed(loop, 5 - loop["x"]), 1), numbers(x=9))


class GreatestTest(CheckerChecks):
    def test_reached(self):
        loop = Loop(x=(90, 100))
        loop["x"] = loop["x"] * Ratio(1, 2) + 30
        told = claimed(loop, loop["x"])
        self.check(True, ("greatest", *told, one(100), 0), (((0, 0),), numbers(x=100)))
        for value, rounds, places, beginning in (
            (one(101), 0, ((0, 0),), numbers(x=100)), (one(99), 0, ((0, 0),), numbers(x=99)),
            (one(100), 1, ((0, 0),), numbers(x=100)),
            (one(100), None, ((0, 0),), numbers(x=100)), (one(100), 0, ((0, 0),), None),
            (one(100), 0, ((0, 1),), numbers(x=100)),
            (one(100), 0, ((0, 0),), numbers(x=99)), (one(100), False, ((0, 0),), numbers(x=100)),
            (one(200, 2), 0, ((0, 0),), numbers(x=100)), (100, 0, ((0, 0),), numbers(x=100)),
            (one(60), None, ((0, 0),), None),
            (None, 0, ((0, 0),), numbers(x=100)), (None, None, ((0, 0),), None),
            (one(100), 0, ((0, False),), numbers(x=100)),
            (one(100), 0, (), numbers(x=100)), (one(100), 0, ((0, 0), (0, 0)), numbers(x=100)),
            (one(100), 0, ((0, 0),), numbers(x=100, y=0)), (one(100), 10 ** 9, ((0, 0),), numbers(x=100)),
        ):
            self.check(False, ("greatest", *told, value, rounds), (places, beginning))
        for certificate in (((0, 0),), ((0, 0),), (((0, 0),),), (((0, 0),), numbers(x=100), ()), [((0, 0),), numbers(x=100)], None):
            self.check(False, ("greatest", *told, one(100), 0), certificate)

    def test_limits(self):
        loop = Loop(x=(90, 100))
        loop["x"] = loop["x"] * Ratio(1, 2) + 30
        told = claimed(loop, -loop["x"])
        self.check(True, ("greatest", *told, one(-60), None), (((0, 0),), None))
        for value, rounds, beginning in (
            (one(-61), None, None), (one(-59), None, None), (one(-60), 0, None), (one(-60), 5, numbers(x=90)),
            (one(-60), None, numbers(x=90)), (one(-60), None, ()), (one(-90), 0, numbers(x=90)),
            (one(-60), False, None),
        ):
            self.check(False, ("greatest", *told, value, rounds), (((0, 0),), beginning))

    def test_a_limit_behind_a_step_of_0(self):
        # w is the sum of n (1/2) ** (n - 1), so it stays at first.
        loop = Loop(w=0, x=1, y=0)
        loop["w"] += loop["y"]
        loop["y"] = Ratio(1, 2) * loop["y"] + loop["x"]
        loop["x"] *= Ratio(1, 2)
        told = claimed(loop, loop["w"])
        self.check(True, ("greatest", *told, one(4), None), (((0, 0),), None))
        self.check(False, ("greatest", *told, one(0), 0), (((0, 0),), numbers(w=0, x=1, y=0)))
        self.check(False, ("greatest", *told, one(5), None), (((0, 0),), None))
        self.assertEqual(certify_greatest(loop, loop["w"])[1], (((0, 0),), None))

    def test_no_limit_of_what_grows_slowly(self):
        # The greatest values are -10 (1/2) ** t + t / 1000, which look as if they came near to something.
        loop = Loop(x=-10, y=0)
        loop["x"] *= Ratio(1, 2)
        loop["y"] += 1
        for total in (loop["x"] + Ratio(1, 1000) * loop["y"], loop["x"]):
            grows = "y" in total.names
            for value in (one(0), one(1, 500), one(1, 1000), one(3, 1000), one(1)):
                wanted = not grows and value == (0, 1)
                self.check(wanted, ("greatest", *claimed(loop, total), value, None), (((0, 0),), None))
        self.assertIsNone(certify_greatest(loop, loop["x"] + Ratio(1, 1000) * loop["y"]))

    def test_fractions(self):
        """Limits and peaks of sums of several fractions, with places that are not 0."""
        own = (Fraction(1, 2), Fraction(-1, 2), Fraction(2, 3), Fraction(-5, 7), Fraction(8, 9))
        later = 0
        for seed in range(60):
            model = random_model(seed, own)
            ranges = {name: (low, low + 3 if high is None else high) for name, (low, high) in model[0].items()}
            loop, total = loop_of((ranges, model[1])), sum_of(random_parts(seed, ranges))
            try:
                pair = certify_greatest(loop, total)
            except TooFar:
                continue
            if pair:
                self.check(True, *pair)
                later += any(second > first for first, second in pair[1][0])
        self.assertGreater(later, 10)

    def test_a_limit_and_a_reached_value(self):
        loop = Loop(a=5, b=0, c=0, y=-1)
        loop["c"] = loop["b"]
        loop["b"] = loop["a"]
        loop["a"] = loop["y"] + 5
        loop["y"] *= Ratio(1, 2)
        claim, certificate = certify_greatest(loop, loop["c"])
        self.assertEqual(claim[3:], ((5, 1), 2))
        self.check_all_spoilt(claim, certificate, 60)
        # The limit is 5, too, but the value is reached.
        self.check(False, (*claim[:4], None), (certificate[0], None))

    def test_the_first_round(self):
        loop = Loop(x=0)
        loop.assign("x", 1 - loop["x"])
        told = claimed(loop, loop["x"])
        claim, certificate = certify_greatest(loop, loop["x"])
        self.check(True, claim, certificate)
        self.assertEqual(claim[4], 1)
        self.check(False, (*claim[:4], 3), certificate)
        self.check(False, ("greatest", *told, one(1), None), (certificate[0], None))

    def test_without_bound(self):
        for loop in (counter(), Loop(x=(0, None))):
            for value in (one(0), one(1), one(10 ** 9)):
                for rounds, beginning in ((0, numbers(x=0)), (0, numbers(x=1)), (None, None)):
                    self.check(False, ("greatest", *claimed(loop, X), value, rounds), (((0, 0),), beginning))
        # Nothing of a variable without an upper end is in the sum.
        self.check(True, ("greatest", *claimed(Loop(x=(0, None)), X - X), one(0), 0), (((0, 0),), numbers(x=10 ** 9)))
        # Without bound in a round before the rows begin alone.
        loop = Loop(x=(0, None))
        loop["x"] = 0
        for rounds, beginning in ((0, numbers(x=0)), (1, numbers(x=0)), (None, None)):
            self.check(False, ("greatest", *claimed(loop, loop["x"]), one(0), rounds), (((1, 1),), beginning))

    def test_far(self):
        loop = Loop(n=0, m=0)
        loop["m"] += loop["n"]
        loop["n"] += 1
        for factor, wanted in ((999, True), (1000, False)):
            total = factor * loop["n"] - loop["m"]
            value = ratio(Fraction(factor * (factor + 1), 2))
            claim = ("greatest", *claimed(loop, total), (value.top, value.bottom), factor)
            self.check(wanted, claim, (((0, factor + 1),), numbers(m=0, n=0)))


class AgreementTest(CheckerChecks):
    def two(self):
        one_loop, two = Loop(x=(0, 5), y=0), Loop(x=(0, 5), y=0)
        one_loop["x"] = 2 * one_loop["x"] + 1
        two.assign("x", 4 * two["x"] + 3, every=2)
        return plain_loop(one_loop), plain_loop(two)

    def test_known_claims(self):
        first, second = self.two()
        self.check(True, ("agree", first, plain(x=1), first, plain(x=1, y=1)), ())
        self.check(True, ("agree", first, plain(), second, plain(y=3)), ())
        self.check(False, ("agree", first, plain(x=1), second, plain(x=1)), ())
        self.check(False, ("agree", first, plain(x=1), first, plain(1, x=1)), ())
        for certificate in (None, [], 0, False, (0,), ((),), "", numbers(x=0, y=0)):
            self.check(False, ("agree", first, plain(x=1), first, plain(x=1)), certificate)
        for rounds, x, wanted in (
            (0, 0, False), (1, 0, True), (1, 5, True), (2, 5, False), (3, 0, True), (1000, 0, False),
            (999, 0, True), (1001, 0, False),
            (True, 0, False), (-1, 0, False), (None, 0, False), (1, 6, False), (1, -1, False),
        ):
            self.check(wanted, ("part", first, plain(x=1), second, plain(x=1), rounds), numbers(x=x, y=0))

    def test_the_same_variables(self):
        loop = Loop(x=(0, 5), y=0)
        for other in (Loop(x=(0, 5)), Loop(x=(0, 5), y=1), Loop(x=(0, 4), y=0), Loop(x=(0, None), y=0), Loop(x=(0, 5), z=0)):
            claim = (*claimed(loop, 1), *claimed(other, 1))
            self.check(False, ("agree", *claim), ())
            parted = (*claimed(loop, 1), *claimed(other, 2), 0)
            self.check(False, ("part", *parted), numbers(x=0, y=0))

    def test_long_periods(self):
        for every, sign, wanted in ((5, 1, False), (4, 1, True), (4, -1, False), (6, -1, True), (6, 1, True)):
            first, second = Loop(x=(0, 1)), Loop(x=(0, 1))
            first.assign("x", first["x"] + 1, every=3)
            second.assign("x", sign * second["x"] + 1, every=every)
            claim = (*claimed(first, 5), *claimed(second, 5))
            self.check(wanted, ("agree", *claim), ())
            # Where they part, the periods do not matter.
            self.check(True, ("part", *claim[:3], plain(4), 1000), numbers(x=1))

    def test_late_partings(self):
        names = "abcdef"
        first, second = (Loop(**{name: 0 for name in names}) for _ in range(2))
        for each, last in ((first, 1), (second, 2)):
            for name, behind in zip("fedcb", "edcba"):
                each.assign(name, each[name] + each[behind], every=6, at=5)
            each.assign("a", -each["a"] + last, every=6, at=5)
        claim = (*claimed(first, first["f"]), *claimed(second, second["f"]))
        self.assertEqual(parting(first, first["f"], second, second["f"])[0], 36)
        self.check(False, ("agree", *claim), ())
        self.check(True, ("part", *claim, 36), numbers(**{name: 0 for name in names}))
        self.check(False, ("part", *claim, 35), numbers(**{name: 0 for name in names}))


class SettledTest(CheckerChecks):
    def test_known_rows(self):
        for bases, values, place, sign in (
            ((1, 2), (1, -1), 1, -1), ((1, 1, 2), (1, -1, -2), 4, 1), ((1, 3), (0, 0), 0, 1), ((1,), (-1,), 0, -1),
            ((1, 1), (-1000, -999), 1000, 1), ((2,), (5,), 0, 1), ((Ratio(1, 2), 1), (Ratio(-1, 3), 0), 1, 1),
        ):
            claim, certificate = certify_settling(bases, values)
            self.assertEqual((claim[3:], certificate), ((place, sign), ()))
            self.check_all_spoilt(claim, certificate, 60)
        self.check(False, ("settled", ((1, 1), (1, 1)), ((-1001, 1), (-1000, 1)), 1001, 1), ())
        self.check(False, ("settled", ((1, 1), (1, 1)), ((-1001, 1), (-1000, 1)), 1000, -1), ())

    def test_random_rows(self):
        source, right = random.Random(5), 0
        for seed in range(60):
            many = source.randint(1, 5)
            bases = sorted(Fraction(source.randint(1, 6), source.randint(1, 4)) for _ in range(many))
            values = [Fraction(source.randint(-9, 9), source.randint(1, 3)) for _ in bases]
            try:
                claim, certificate = certify_settling(tuple(map(ratio, bases)), tuple(map(ratio, values)))
            except TooFar:
                continue
            right += self.check_all_spoilt(claim, certificate, 15, seed)
        self.assertGreater(right, 10)

    def test_forms(self):
        twelve = ((1, 1),) * 12
        zeros = ((0, 1),) * 12
        self.check(True, ("settled", twelve, zeros, 0, 1), ())
        self.check(True, ("settled", ((10 ** 12, 1),), ((7, 1),), 0, 1), ())
        self.check(True, ("settled", ((1, 10 ** 12),), ((-7, 10 ** 20 + 1),), 0, -1), ())
        for bases, values, place, sign in (
            (twelve + ((1, 1),), zeros + ((0, 1),), 0, 1), ((), (), 0, 1), (((10 ** 12 + 1, 1),), ((7, 1),), 0, 1),
            (((1, 10 ** 12 + 1),), ((7, 1),), 0, 1), (((0, 1),), ((7, 1),), 0, 1), (((-1, 1),), ((7, 1),), 0, 1),
            (((2, 1), (1, 1)), ((0, 1), (0, 1)), 0, 1), (((1, 1),), ((7, 1), (7, 1)), 0, 1), (((1, 1),), (), 0, 1),
            (((1, 1),), ((7, 1),), 0, -1), (((1, 1),), ((7, 1),), 0, 0), (((1, 1),), ((7, 1),), 0, True),
            (((1, 1),), ((7, 1),), False, 1), (((1, 1),), ((7, 1),), 1, 1), (((1, 1),), ((7, 1),), -1, 1),
            (((1, True),), ((7, 1),), 0, 1), ([(1, 1)], ((7, 1),), 0, 1), (((1, 1),), [(7, 1)], 0, 1),
            (((1, 1), (1, 1)), ((-1, 1), (0, 1)), 0, 0), (((1, 1),), ((7, 1),), None, 1), (((1, 1),),
            ((7, 1),), 0, None),
            (((1, 1), (1, 1)), ((-5, 1), (-4, 1)), 3, 0), (((1, 1),), ((14, 2),), 0, 1), (((2, 2),), ((7, 1),), 0, 1),
        ):
            self.check(False, ("settled", bases, values, place, sign), ())


class RingTest(CheckerChecks):
    def rests(self, one_name, two, every=1, at=0, factor=1):
        """An assignment that lets a variable rest on another one."""
        return (one_name, plain(**{two: factor}), every, at)

    def test_rings(self):
        body = (self.rests("a", "b"), self.rests("b", "c"), self.rests("c", "a"), self.rests("d", "a"))
        self.assertEqual(self.check_all_spoilt(("ring", body), ("a", "b", "c"), 400) > 0, True)
        for ring, wanted in (
            (("a", "b", "c"), True), (("b", "c", "a"), True), (("c", "a", "b"), True), (("a", "c", "b"), False),
            (("a", "b"), False), (("a",), False), ((), False), (("a", "b", "c", "d"), False),
            (("d", "a", "b", "c"), False),
            (("a", "b", "c", "a", "b", "c"), False), (["a", "b", "c"], False), ("abc", False), (None, False),
            (("a", "b", 1), False), (("a", "b", ["c"]), False), (("a", "b", None), False), (("a", "a"), False),
        ):
            self.check(wanted, ("ring", body), ring)

    def test_rings_have_different_names(self):
        body = (("a", plain(b=1, c=1), 1, 0), self.rests("b", "a"), self.rests("c", "a"))
        self.check(True, ("ring", body), ("a", "b"))
        self.check(True, ("ring", body), ("c", "a"))
        self.check(False, ("ring", body), ("a", "b", "a", "c"))

    def test_no_rings(self):
        body = (("a", plain(a=1, b=1), 1, 0), ("b", plain(b=1), 1, 0))
        for ring in (("a", "a"), ("a",), ("a", "b"), ("b", "a"), ("b", "b")):
            self.check(False, ("ring", body), ring)
        self.check(False, ("ring", ()), ("a", "b"))

    def test_rings_in_different_rounds(self):
        body = (self.rests("a", "b", 3, 0), self.rests("b", "a", 6, 5), self.rests("a", "c", 3, 1))
        self.check(True, ("ring", body), ("a", "b"))
        self.check(True, ("ring", body), ("b", "a"))
        self.check(False, ("ring", body), ("a", "c"))

    def test_what_points_10_and_11_ask_for(self):
        ring = (self.rests("a", "b", 6, 0), self.rests("b", "a", 6, 0))
        slots = tuple(("c", plain(k), 6, k) for k in range(6))
        others = tuple(("d", plain(k), 6, k) for k in range(4))
        self.check(True, ("ring", ring + slots + others), ("a", "b"))
        for body, wanted in (
            (slots + others + (("d", plain(), 6, 4),), False), ((("a", plain(), 6, 1),), True),
            ((("a", plain(), 6, 0),), False),
            ((("a", plain(), 3, 0),), False), ((("a", plain(), 3, 1),), True), ((("c", plain(), 4, 1),), False),
            ((("c", plain(), 5, 1),), False), ((("c", plain(), 0, 0),), False), ((("c", plain(), 7, 0),), False),
            ((("c", plain(), 2, 2),), False), ((("c", plain(), 2, -1),), False), ((("c", plain(), True, 0),), False),
            ((("c", plain(), 1, False),), False), ((("c", plain(1000), 1, 0),), True),
            ((("c", plain(1001), 1, 0),), False),
            ((("c", plain(-1001), 1, 0),), False), ((("c", ((1, 9), ()), 1, 0),), True), ((("c", ((1, 10),
            ()), 1, 0),), False),
            ((("c", plain(d=1000), 1, 0),), True), ((("c", plain(d=1001), 1, 0),), False),
            ((("c", plain(c=9), 1, 0),), True),
            ((("c", plain(c=10), 1, 0),), False), ((("c", plain(c=-9), 1, 0),), True),
            ((("c", plain(c=-10), 1, 0),), False),
            ((("c", ((0, 1), (("c", (9, 8)),)), 1, 0),), True), ((("c", ((0, 1), (("c", (10, 9)),)), 1, 0),), False),
            ((("c", ((0, 1), (("d", (10, 9)),)), 1, 0),), True), ((("c", ((0, 1), (("d", (1, 10)),)), 1, 0),), False),
            ((("self", plain(), 1, 0),), False), ((("C", plain(), 1, 0),), False),
            ((("abcdefghi", plain(), 1, 0),), False),
            ((("abcdefgh", plain(), 1, 0),), True), ((("c", plain(self=1), 1, 0),), False),
            ((("", plain(), 1, 0),), False),
            ((("c", plain(d=1, e=1, f=1), 1, 0),), True), ((("c", plain(d=1, e=1, f=1, g=1), 1, 0),), False),
            ((("c", plain(d=1), 1, 0), ("e", plain(f=1), 1, 0), ("g", plain(), 1, 0)), False),
            ((("c", ((0, 1), (("e", (1, 1)), ("d", (1, 1)))), 1, 0),), False), ((("c", ((0, 1),
            (("d", (0, 1)),)), 1, 0),), False),
            ((("c", ((0, 1), (("d", (1, 1)), ("d", (1, 1)))), 1, 0),), False), ((["c", plain(), 1, 0],), False),
            ((("c", plain(), 1),), False), ((("c", list(plain()), 1, 0),), False),
            ((("c", ((0, 1), []), 1, 0),), False),
            ((("c", ((0, 2), ()), 1, 0),), False), ((("c", ((2, 4), ()), 1, 0),), False), ((("c", ((1, 0),
            ()), 1, 0),), False),
            ((("c", ((1, -1), ()), 1, 0),), False), ((("c", ((True, 1), ()), 1, 0),), False),
            ((("c", (0, ()), 1, 0),), False),
        ):
            self.assertEqual(is_right(("ring", ring + body), ("a", "b")), wanted, body)
            self.check(wanted, ("ring", ring + body), ("a", "b"))


class LoopsTest(CheckerChecks):
    """What a loop, a sum and a number have to be, in a claim that is true of all of them."""

    def check_loop(self, wanted, loop):
        total = plain(1)
        if wanted:
            self.check(True, ("always", loop, total), ((0, 0),))
        else:
            for many in (1, 2, 4, 6, 12):
                for first in (0, 1, 2):
                    self.check(False, ("always", loop, total), ((first, first),) * many)
            for names in ("x", "xy", "abcdefg"):
                self.check(False, ("breaks", loop, plain(-1), 0), tuple((name, (0, 1)) for name in names))
            self.check(False, ("agree", loop, total, loop, total), ())

    def test_variables(self):
        end = 10 ** 9
        for variables, wanted in (
            (ranged("x"), True), (ranged("a", "b", "c", "d", "e", "f"), True),
            (ranged("a", "b", "c", "d", "e", "f", "g"), False),
            ((), False), (ranged("y", "x"), False), (ranged("x", "x"), False), (ranged("self"), False),
            (ranged("X"), False),
            (ranged("abcdefgh"), True), (ranged("abcdefghi"), False), (ranged("xY"), False),
            (ranged("x1"), False), (ranged("x y"), False), (ranged("_x"), False), (ranged("x", "x_"), False),
            (ranged("\u00e9"), False), (ranged(""), False),
            ((("x", (0, 1), None),), True), ((("x", (0, 1), (1, 2)),), True), ((("x", (1, 1), (1, 2)),), False),
            ((("x", None, None),), False), ((("x", None, (0, 1)),), False), ((("x", (end, 1), None),), True),
            ((("x", (-end, 1), (end, 1)),), True), ((("x", (end + 1, 1), None),), False), ((("x", (0, 1),
            (end + 1, 1)),), False),
            ((("x", (1, end), None),), True), ((("x", (1, end + 1), None),), False), ((("x", (0, 1),
            (1, end + 1)),), False),
            ((("x", (-end - 1, 1), None),), False), ((("x", (0, 1)),), False), ((("x", (0, 1), (0, 1), 1),), False),
            ((["x", (0, 1), (0, 1)],), False), ([("x", (0, 1), (0, 1))], False), ((("x", (0, 2), None),), False),
            ((("x", (2, 4), None),), False), ((("x", (0, 1), (2, 4)),), False), ((("x", (0, 1), False),), False),
            ((("x", (False, 1), None),), False), ((("x", (0, True), None),), False), ((("x", 0, None),), False),
            ((("x", [0, 1], None),), False), ((("x", (0, 1), (0, -1)),), False), ((("x", (0, 0), None),), False),
            (("x",), False),
            (((b"x", (0, 1), None),), False), ((((), (0, 1), None),), False), ("x", False), (None, False),
            (((),), False),
        ):
            self.check_loop(wanted, (variables, ()))

    def test_bodies(self):
        variables = ranged("x", "y")
        y = ("y", plain(x=1), 1, 0)
        for body, wanted in (
            ((), True), ((("x", plain(x=1), 1, 0),), True), ((("x", plain(y=1, x=1), 1, 0),), True), (None, False),
            ([], False),
            ((("x", plain(y=1), 1, 0), y), False), ((("x", plain(z=1), 1, 0),), False),
            ((("z", plain(), 1, 0),), False), ((("x", plain(x=10), 1, 0),), False),
            ((("x", plain(1001), 1, 0),), False),
            ((("x", plain(x=1), 1, 0),) * 2, False), ((("x", plain(x=1), 1, 0), ("x", plain(), 2, 1)), False),
            ((("x", plain(x=1), True, 0),), False), ((("x", plain(x=1), 1, 0, 0),), False), (((),), False),
            (("x",), False),
        ):
            self.check_loop(wanted, (variables, body))

    def test_a_ring_in_a_loop(self):
        body = (("x", plain(y=1, x=1), 2, 0), ("y", plain(x=1, y=1), 2, 1))
        self.check_loop(False, (ranged("x", "y"), body))
        self.check(True, ("ring", body), ("x", "y"))
        longer = (("a", plain(a=1, b=1), 1, 0), ("b", plain(b=1, c=1), 1, 0), ("c", plain(c=1, a=1), 1, 0))
        self.check_loop(False, (ranged("a", "b", "c"), longer))
        self.check_loop(True, (ranged("a", "b", "c"), longer[:2]))

    def test_sums(self):
        loop = (ranged("x", "y"), ())
        for total, wanted in (
            (plain(1), True), (plain(0, x=1, y=-1), True), (plain(10 ** 30), True), (((1, 10 ** 30), ()), True),
            (1, False),
            (plain(x=0), False), (plain(z=1), False), (((0, 1), (("y", (1, 1)), ("x", (1, 1)))), False), (None, False),
            (((0, 1), (("x", (1, 1)), ("x", (1, 1)))), False), (((0, 1),), False), (((0, 1), (), ()), False),
            ((), False),
            ([(0, 1), ()], False), (((0, 1), [("x", (1, 1))]), False), (((0, 1), (["x", (1, 1)],)), False),
            (((0, 1), (("x", [1, 1]),)), False), (((0, 1), (("x", 1),)), False), (((0, 3), ()), False), (((3, 3),
            ()), False),
            (((True, 1), ()), False), (((0, True), ()), False), (((0, 1), (("x", (1, True)),)), False),
            (((0, 1), None), False),
            (((0, 1), (("x",),)), False), (((0, 1), (("x", (1, 1), 1),)), False), (((None, 1), ()), False),
            ((0, ()), False),
        ):
            self.check(wanted, ("always", loop, total), ((0, 0),))
            self.check(wanted, ("agree", loop, total, loop, total), ())


class AnyValuesTest(CheckerChecks):
    def test_odd_values(self):
        loop = Loop(x=(0, 1))
        loop["x"] -= 1
        pairs = [
            certify_holding(loop, 1), certify_holding(loop, loop["x"]), certify_greatest(loop, loop["x"]),
            certify_agreement(loop, 1, loop, 1), certify_agreement(loop, 1, loop, 2), certify_settling((1,), (1,)),
            (("ring", (("a", plain(b=1), 1, 0), ("b", plain(a=1), 1, 0))), ("a", "b")),
        ]
        odd = ODD_VALUES + (nested(70), loop, Ratio(1), X, Loop, b"always", (None,) * 5, ((),) * 4, [["x"]], {"x": {}})
        for claim, certificate in pairs:
            self.check(True, claim, certificate)
            for value in odd:
                self.check(False, value, certificate)
                if not (claim[0] in ("agree", "settled") and value == ()):
                    self.check(False, claim, value)
                for at in range(len(claim)):
                    self.check(False, claim[:at] + (value,) + claim[at + 1:], certificate)

    def test_words(self):
        claim, certificate = certify_settling((1,), (1,))
        for word in ("Settled", "settled ", "", "always", "certify", "accepts", None, 0, b"settled", ["settled"], ("settled",), {}):
            self.check(False, (word, *claim[1:]), certificate)
        for word in WORDS:
            self.check(False, (word,), ())
            self.check(False, word, ())

    def test_arguments_by_name(self):
        claim, certificate = certify_settling((1,), (1,))
        self.assertIs(accepts(certificate=certificate, claim=claim), True)

    def test_values_are_not_changed(self):
        loop = Loop(x=(0, 1))
        loop["x"] -= 1
        claim, certificate = certify_holding(loop, loop["x"] + 3)
        before = repr((claim, certificate))
        self.assertEqual(accepts(claim, certificate), accepts(claim, certificate))
        self.assertEqual(repr((claim, certificate)), before)


class FirstTest(CheckerChecks):
    def test_what_first_break_returns(self):
        for seed in range(100):
            model = random_model(seed)
            loop, total = loop_of(model), sum_of(random_parts(seed, model[0]))
            try:
                found = first_break(loop, total)
            except TooFar:
                continue
            if found is None:
                continue
            rounds, beginning = found
            certificate = tuple((name, (number.top, number.bottom)) for name, number in beginning)
            self.check(True, ("first", *claimed(loop, total), rounds), certificate)
            for other in range(rounds):
                self.check(False, ("breaks", *claimed(loop, total), other), certificate)
            for other in range(rounds + 1, rounds + 4):
                self.check(False, ("first", *claimed(loop, total), other), certificate)


class ModulesTest(unittest.TestCase):
    def test_imports(self):
        """The checker imports only limits, errors and modules that only the checker uses."""
        needs = {}
        for name, tree in trees():
            modules = [node.module for node in imports_of(tree) if node.module.startswith("loopbounds.")]
            needs[name] = {module.partition(".")[2] + ".py" for module in modules}
        shared = {"limits.py", "errors.py"}
        own, left = set(), ["checker.py"]
        while left:
            name = left.pop()
            own.add(name)
            left += [other for other in needs[name] - shared if other not in own]
        for name in needs:
            if name not in own:
                self.assertFalse(needs[name] & own, name)
        for name in own:
            self.assertFalse(needs[name] - own - shared)
