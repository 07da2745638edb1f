"""loopbounds.certificates: points 2, 18 and 19 and the section on certificates, with points 3 to 7 for them."""

from fractions import Fraction

from loopbounds.certificates import (
    certify_agreement, certify_greatest, certify_holding, certify_settling, plain_loop, plain_sum,
)
from loopbounds.checker import accepts
from loopbounds.comparing import parting
from loopbounds.errors import (
    InvalidBases, InvalidSum, InvalidValues, NotALoop, NotASum, TooFar, TooMany, UnknownName, UnlikeRanges,
)
from loopbounds.extremes import greatest
from loopbounds.holding import first_break
from loopbounds.loops import Loop
from loopbounds.ratios import Ratio
from loopbounds.rows import settling_place
from loopbounds.sums import Sum
from tests.helping import NO_NUMBERS, Checks, nested
from tests.models import loop_of, random_model, random_parts, sum_of
from tests.points import Far, minus, points_of
from tests.test_comparing import changed
from tests.test_holding import changing_coefficient, counter
from tests.test_loops import state
from tests.test_running import NO_LOOPS

X = Sum(x=1)


class CertificateChecks(Checks):
    def check_plain(self, value):
        """Nothing but tuples, strings, integers and None."""
        if type(value) is tuple:
            for item in value:
                self.check_plain(item)
        else:
            self.assertIn(type(value), (str, int, type(None)))

    def check_pair(self, pair, claim, certificate):
        """A pair of this claim and this certificate, which the checker accepts."""
        self.check_plain(pair)
        self.assertEqual(len(pair), 2)
        self.assertEqual(repr(pair), repr((claim, certificate)))
        self.assertIs(accepts(*pair), True, pair)


def plain(beginning):
    return tuple((name, (number.top, number.bottom)) for name, number in beginning)


class PlainTest(CertificateChecks):
    def test_sums(self):
        for total, wanted in (
            (Sum(), ((0, 1), ())), (3, ((3, 1), ())), (Ratio(-4, 6), ((-2, 3), ())), (-10 ** 40, ((-10 ** 40, 1), ())),
            (Sum(Ratio(1, 2), y=-1, x=Ratio(3, 9), z=0), ((1, 2), (("x", (1, 3)), ("y", (-1, 1))))),
        ):
            self.check_plain(plain_sum(total))
            self.assertEqual(repr(plain_sum(total)), repr(wanted))
        self.assertEqual(plain_sum(total=X), ((0, 1), (("x", (1, 1)),)))
        for value in NO_NUMBERS + (nested(70), Loop(x=1)):
            self.check_error(NotASum, {"value": value}, plain_sum, value)

    def test_loops(self):
        loop = Loop(y=(Ratio(-1, 2), None), x=(1, 3), z=4)
        loop.assign("y", 2 * loop["y"] - Ratio(1, 3) * loop["x"], every=3, at=2)
        loop.assign("x", 7)
        self.check_plain(plain_loop(loop))
        self.assertEqual(repr(plain_loop(loop)), repr((
            (("x", (1, 1), (3, 1)), ("y", (-1, 2), None), ("z", (4, 1), (4, 1))),
            (("y", ((0, 1), (("x", (-1, 3)), ("y", (2, 1)))), 3, 2), ("x", ((7, 1), ()), 1, 0)),
        )))
        self.assertEqual(repr(plain_loop(loop=Loop(x=0))), repr(((("x", (0, 1), (0, 1)),), ())))
        for value in NO_LOOPS:
            self.check_error(NotALoop, {"value": value}, plain_loop, value)

    def test_models(self):
        for seed in range(60):
            model = random_model(seed)
            loop = loop_of(model)
            variables, body = plain_loop(loop)
            self.check_plain((variables, body))
            self.assertEqual([name for name, _, _ in variables], sorted(model[0]))
            for name, low, high in variables:
                self.assertEqual(Fraction(*low), model[0][name][0])
                self.assertEqual(high and Fraction(*high), model[0][name][1])
            self.assertEqual([(name, every, at) for name, _, every, at in body],
                             [(name, every, at) for name, _, every, at in model[1]])
            for (_, total, _, _), (_, parts, _, _) in zip(body, model[1]):
                self.assertEqual(total, plain_sum(sum_of(parts)))


class HoldingTest(CertificateChecks):
    def test_known_claims(self):
        loop = Loop(x=(1, 3))
        loop["x"] = 2 * loop["x"] - 1
        told = plain_loop(loop)
        self.check_pair(certify_holding(loop, loop["x"] - 1), ("always", told, plain_sum(loop["x"] - 1)), ((0, 0),))
        self.check_pair(certify_holding(loop, 10 - loop["x"]), ("first", told, plain_sum(10 - loop["x"]), 3), (("x", (3, 1)),))
        self.check_pair(certify_holding(total=5, loop=loop), ("always", told, ((5, 1), ())), ((0, 0),))
        self.check_pair(certify_holding(loop, -1), ("first", told, ((-1, 1), ()), 0),
                        plain(first_break(loop, -1)[1]))
        loop, total = changing_coefficient(10)
        self.check_pair(certify_holding(loop, total + 20), ("always", plain_loop(loop), plain_sum(total + 20)), ((10, 10),))
        self.check_pair(certify_holding(loop, total + 25), ("always", plain_loop(loop), plain_sum(total + 25)), ((10, 10),))

    def test_models(self):
        told = []
        for seed in range(120):
            model = random_model(seed)
            loop, parts = loop_of(model), random_parts(seed, model[0])
            before = state(loop)
            for added in (0, 10 ** 9):
                parts[None] += added
                told.append(self.check_model(model, loop, parts))
            self.assertEqual(state(loop), before)
        self.assertGreater(told.count("always"), 20)
        self.assertGreater(told.count("first"), 30)

    def check_model(self, model, loop, parts):
        total = sum_of(parts)
        try:
            found = points_of(model, parts).signs()
        except Far:
            self.check_raised(TooFar, {}, certify_holding, loop, total)
            return "far"
        result = first_break(loop, total)
        if result is None:
            places = tuple((first, second) for first, second, _ in found)
            self.check_pair(certify_holding(loop, total), ("always", plain_loop(loop), plain_sum(total)), places)
            return "always"
        claim = ("first", plain_loop(loop), plain_sum(total), result[0])
        self.check_pair(certify_holding(loop, total), claim, plain(result[1]))
        return "first"


class GreatestTest(CertificateChecks):
    def test_known_claims(self):
        loop = Loop(x=(90, 100), y=(0, None))
        loop["x"] = loop["x"] * Ratio(1, 2) + 30
        loop["y"] += 1
        told = plain_loop(loop)
        beginning = (("x", (100, 1)), ("y", (0, 1)))
        self.check_pair(certify_greatest(loop, loop["x"]), ("greatest", told, plain_sum(loop["x"]), (100, 1), 0),
                        (((0, 0),), plain(greatest(loop, loop["x"])[2])))
        self.check_pair(certify_greatest(total=loop["x"] - loop["y"], loop=loop),
                        ("greatest", told, plain_sum(loop["x"] - loop["y"]), (100, 1), 0), (((0, 0),), beginning))
        self.check_pair(certify_greatest(loop, -loop["x"]), ("greatest", told, plain_sum(-loop["x"]), (-60, 1), None),
                        (((0, 0),), None))
        self.assertIsNone(certify_greatest(loop, loop["y"]))
        self.assertIsNone(certify_greatest(counter(), X))

    def test_models(self):
        told = []
        own = (0, Fraction(1, 2), Fraction(-1, 2), Fraction(2, 3), 1, -1)
        for seed in range(120):
            model = random_model(seed, own)
            loop, parts = loop_of(model), random_parts(seed, model[0])
            try:
                value, rounds, places = points_of(model, minus(parts)).highest()
            except Far:
                self.check_raised(TooFar, {}, certify_greatest, loop, sum_of(parts))
                continue
            if value is None:
                self.assertIsNone(certify_greatest(loop, sum_of(parts)))
                continue
            beginning = greatest(loop, sum_of(parts))[2]
            claim = ("greatest", plain_loop(loop), plain_sum(sum_of(parts)), (value.numerator, value.denominator), rounds)
            self.check_pair(certify_greatest(loop, sum_of(parts)), claim,
                            (tuple(places), None if rounds is None else plain(beginning)))
            told.append(rounds)
        self.assertGreater(told.count(None), 3)
        self.assertGreater(len(told) - told.count(None), 30)


class AgreementTest(CertificateChecks):
    def test_known_claims(self):
        one, two = Loop(x=(0, 5), y=0), Loop(x=(0, 5), y=0)
        one["x"] = 2 * one["x"] + 1
        two.assign("x", 4 * two["x"] + 3, every=2)
        claim = (plain_loop(one), plain_sum(one["x"]), plain_loop(two), plain_sum(two["x"]))
        rounds, beginning = parting(one, one["x"], two, two["x"])
        self.check_pair(certify_agreement(one, one["x"], two, two["x"]), ("part", *claim, rounds), plain(beginning))
        claim = (plain_loop(one), plain_sum(0), plain_loop(two), plain_sum(two["y"]))
        self.check_pair(certify_agreement(other_total=two["y"], other=two, total=0, loop=one), ("agree", *claim), ())

    def test_models(self):
        told = []
        for seed in range(120):
            model = random_model(seed)
            one, two = loop_of(model), loop_of(changed(seed, model))
            total = sum_of(random_parts(seed, model[0]))
            claim = (plain_loop(one), plain_sum(total), plain_loop(two), plain_sum(total))
            found = parting(one, total, two, total)
            pair = certify_agreement(one, total, two, total)
            if found is None:
                self.check_pair(pair, ("agree", *claim), ())
            else:
                self.check_pair(pair, ("part", *claim, found[0]), plain(found[1]))
            told.append(pair[0][0])
        self.assertGreater(told.count("agree"), 20)
        self.assertGreater(told.count("part"), 20)


class SettlingTest(CertificateChecks):
    def test_known_rows(self):
        half = Ratio(1, 2)
        for bases, values in (
            ((1, 2), (1, -1)), ((1, 1, 2), (1, -1, -2)), ((1, 3), (0, 0)), ((half, half, 2), (Ratio(-1, 3), 5, half)),
            ((1, 1), (-1000, -999)), ((1,) * 12, (0,) * 12), ((10 ** 12,), (-1,)), ((Ratio(1, 10 ** 12), 1), (1, -1)),
        ):
            place, sign = settling_place(bases, values)
            self.check_pair(certify_settling(bases, values), (
                "settled", tuple(plain_sum(base)[0] for base in bases), tuple(plain_sum(value)[0] for value in values),
                place, sign), ())
        self.assertEqual(certify_settling(values=(1, -1), bases=(1, 2)), certify_settling((1, 2), (1, -1)))


class ErrorsTest(CertificateChecks):
    def test_loops_and_sums(self):
        loop, other = Loop(x=1, y=1), Loop(x=1, y=1)
        for call in (certify_holding, certify_greatest):
            for value in NO_LOOPS:
                self.check_error(NotALoop, {"value": value}, call, value, None)
            for value in NO_NUMBERS + (nested(70), loop):
                self.check_error(NotASum, {"value": value}, call, loop, value)
            self.check_error(UnknownName, {"name": "a"}, call, loop, Sum(x=1, z=1, a=1))
        for value in NO_LOOPS:
            self.check_error(NotALoop, {"value": value}, certify_agreement, value, None, None, None)
            self.check_error(NotALoop, {"value": value}, certify_agreement, loop, 1, value, None)
        for value in NO_NUMBERS + (nested(70), loop):
            self.check_error(NotASum, {"value": value}, certify_agreement, loop, value, None, None)
            self.check_error(NotASum, {"value": value}, certify_agreement, loop, 1, other, value)
        self.check_error(UnknownName, {"name": "a"}, certify_agreement, loop, Sum(a=1, b=1), None, None)
        self.check_error(UnknownName, {"name": "a"}, certify_agreement, loop, 1, other, Sum(a=1, b=1))
        self.check_raised(UnlikeRanges, {"name": "y"}, certify_agreement, loop, 1, Loop(x=1, y=2), None)

    def test_limits(self):
        self.check_raised(TooFar, {}, certify_holding, counter(), X - 1001)
        self.check_raised(TooFar, {}, certify_holding, counter(), 1000 - X)
        loop, total = changing_coefficient(1000)
        self.check_raised(TooFar, {}, certify_greatest, loop, total)
        self.check_raised(TooMany, {"found": 20}, certify_agreement, counter(4), 1, counter(5), 1)
        self.check_raised(InvalidSum, {"value": 1001}, Loop(x=1).assign, "x", 1001)

    def test_rows(self):
        for bases in (None, [], (), (1,) * 13, [1], "1"):
            self.check_raised(InvalidBases, {"index": None}, certify_settling, bases, None)
        self.check_raised(InvalidBases, {"index": 1}, certify_settling, (2, 1), None)
        self.check_raised(InvalidBases, {"index": 0}, certify_settling, (True, 1), None)
        self.check_raised(InvalidValues, {"index": None}, certify_settling, (1, 2), (1,))
        self.check_raised(InvalidValues, {"index": 1}, certify_settling, (1, 2), (1, False))
        self.check_raised(TooFar, {}, certify_settling, (1, 1), (-1001, -1000))
