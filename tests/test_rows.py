"""loopbounds.rows: points 14 and 15 and the section on rows, with points 3 to 7 for them."""

import random
from fractions import Fraction

from loopbounds.errors import InvalidBases, InvalidNumber, InvalidValues, TooFar
from loopbounds.ratios import Ratio
from loopbounds.rows import levels_at, settling_place, value_at
from loopbounds.sums import Sum
from tests.helping import NO_INTEGERS, NO_NUMBERS, ODD_VALUES, Checks, fraction, nested, ratio

TRILLION = 10 ** 12
BASES = (Fraction(1, 3), Fraction(1, 2), Fraction(2, 3), 1, 1, 1, Fraction(3, 2), 2, 2, 3, Fraction(10, 3), 9)
VALUES = (0, 0, 1, -1, 2, -5, Fraction(1, 2), Fraction(-7, 3), 100)
NO_TUPLES = tuple(value for value in ODD_VALUES if not isinstance(value, tuple)) + (Ratio(1), [1], [1, 2], 3)
NO_BASES = NO_NUMBERS + (
    0, -1, Ratio(0), Ratio(-1, 2), TRILLION + 1, Ratio(TRILLION + 1, 2), Ratio(1, TRILLION + 1), Sum(1), nested(69),
)
CALLS = (lambda bases, values: value_at(bases, values, -1), lambda bases, values: levels_at(bases, values, -1),
         settling_place)


def row_of(bases, values, many):
    """So many values of a row, by the one recurrence of all its bases, in fractions."""
    factors = [Fraction(1)]
    for base in bases:
        # The factors of a product of (shift - base), the highest power of the shift last.
        factors = [up - base * factor for up, factor in zip([0] + factors, factors + [0])]
    row = [Fraction(value) for value in values]
    while len(row) < many:
        row.append(-sum(factor * value for factor, value in zip(factors, row[-len(bases):])))
    return row


def levels_of(bases, row):
    """The lists of the values of all levels, by their definition."""
    levels = [row]
    for base in bases[:-1]:
        levels.append([behind - base * value for value, behind in zip(levels[-1], levels[-1][1:])])
    return levels


def first_settled(levels, most):
    """The settling place and the sign, looked up by their definition; None if it is beyond the most."""
    top = max([0] + [at for at, level in enumerate(levels) if any(level)])
    for place in range(most + 1):
        signs = {-1 if level[place] < 0 else 1 for level in levels[:top + 1]}
        if len(signs) == 1:
            return place, signs.pop()


def random_row(seed):
    """Ascending bases and values, in fractions."""
    source = random.Random(seed)
    bases = sorted(source.choice(BASES) for _ in range(source.randint(1, 6 if seed % 5 else 12)))
    return bases, [source.choice(VALUES) for _ in bases]


def told(numbers):
    """The tuple of the numbers as the program takes them: integers as they are."""
    return tuple(number if isinstance(number, int) else ratio(number) for number in numbers)


class RowChecks(Checks):
    def check_settling(self, bases, values, wanted):
        """The settling place and the sign, or TooFar for None."""
        if wanted is None:
            self.check_error(TooFar, {}, settling_place, bases, values)
        else:
            found = settling_place(bases, values)
            self.check_same(found, wanted)
            self.assertEqual([type(item) for item in found], [int, int])


class ValuesTest(RowChecks):
    def test_random_rows(self):
        for seed in range(150):
            bases, values = random_row(seed)
            row = row_of(bases, values, 40)
            levels = levels_of(bases, row)
            for place in (0, 1, 2, 3, 11, 12, 25):
                self.check_is_ratio(value_at(told(bases), told(values), place), row[place])
                self.check_is_ratio(value_at(place=place, values=told(values), bases=told(bases)), row[place])
                found = levels_at(told(bases), told(values), place)
                self.assertIs(type(found), tuple)
                self.assertEqual(len(found), len(bases))
                for level, wanted in zip(found, levels):
                    self.check_is_ratio(level, wanted[place])

    def test_first_values_are_those_that_are_passed(self):
        for seed in range(30):
            bases, values = random_row(seed)
            for place, value in enumerate(values):
                self.check_is_ratio(value_at(told(bases), told(values), place), value)

    def test_known_rows(self):
        for place in (0, 1, 7, 1000):
            self.check_is_ratio(value_at((1,), (5,), place), 5)
            self.check_is_ratio(value_at((Ratio(1, 2),), (-3,), place), Fraction(-3, 2 ** place))
            self.check_is_ratio(value_at((1, 1, 1), (0, 1, 4), place), place ** 2)
            self.check_is_ratio(value_at((1, 3), (2, 4), place), 1 + 3 ** place)
            self.check_is_ratio(value_at((2, 2), (0, 2), place), place * 2 ** place)
            self.assertEqual(levels_at((1, 1, 1), (0, 1, 4), place), (place ** 2, 2 * place + 1, 2))
            self.assertEqual(levels_at((1, 3), (2, 4), place), (1 + 3 ** place, 2 * 3 ** place))

    def test_twelve_bases_and_the_place_1000(self):
        powers = tuple(at ** 11 for at in range(12))
        for place in (12, 999, 1000):
            self.check_is_ratio(value_at((1,) * 12, powers, place), place ** 11)
        self.assertEqual(len(levels_at((1,) * 12, powers, 1000)), 12)
        self.check_is_ratio(levels_at((1,) * 12, powers, 1000)[11], 39916800)
        bases = tuple(Ratio(at, 12) for at in range(1, 13))
        values = tuple(sum((base ** at for base in bases), Ratio(0)) for at in range(12))
        wanted = sum(Fraction(at, 12) ** 1000 for at in range(1, 13))
        self.check_is_ratio(value_at(bases, values, 1000), wanted)

    def test_the_greatest_bases(self):
        self.check_is_ratio(value_at((TRILLION,), (1,), 100), 10 ** 1200)
        self.check_is_ratio(value_at((Ratio(1, TRILLION), TRILLION), (0, 1), 2), TRILLION + Fraction(1, TRILLION))
        self.check_is_ratio(value_at((Ratio(TRILLION - 1, TRILLION),), (1,), 3), Fraction(TRILLION - 1, TRILLION) ** 3)


class SettlingTest(RowChecks):
    def test_random_rows(self):
        settled = []
        for seed in range(400):
            bases, values = random_row(seed)
            wanted = first_settled(levels_of(bases, row_of(bases, values, 80)), 60)
            if wanted is not None:
                self.check_settling(told(bases), told(values), wanted)
                self.check_settling(told(bases), told(Fraction(-value) for value in values),
                                    first_settled(levels_of(bases, row_of(bases, [-value for value in values], 80)), 60))
                settled.append(wanted)
        self.assertGreater(len(settled), 250)
        self.assertGreater(len([place for place, _ in settled if place > 2]), 50)
        self.assertEqual({sign for _, sign in settled}, {-1, 1})

    def test_zero_rows(self):
        for many in range(1, 13):
            self.check_settling((1,) * many, (0,) * many, (0, 1))
            self.check_settling(tuple(range(1, many + 1)), (Ratio(0),) * many, (0, 1))

    def test_one_base(self):
        for base in (1, 2, Ratio(1, 9)):
            for value, sign in ((1, 1), (Ratio(-1, 5), -1), (0, 1)):
                self.check_settling((base,), (value,), (0, sign))

    def test_levels_above_the_top_do_not_matter(self):
        # Minus 1 everywhere: the levels above are 0, with the sign 1.
        self.check_settling((1, 2, 3), (-1, -1, -1), (0, -1))
        self.check_settling((1, 1, 1), (-5, -6, -7), (0, -1))
        self.check_settling((1, 1, 1), (5, 4, 3), (6, -1))

    def test_0_has_the_sign_1(self):
        self.check_settling((1, 1), (0, 1), (0, 1))
        self.check_settling((1, 1), (0, -1), (1, -1))
        self.check_settling((1, 1), (-3, -2), (3, 1))
        self.check_settling((1, 1), (3, 2), (4, -1))

    def test_just_within_and_just_beyond_1000(self):
        for places in (998, 999, 1000, 1001, 1002, 5000):
            within = places <= 1000
            # t - places is at least 0 from there on, places - 1 - t is below 0 from there on.
            self.check_settling((1, 1), (-places, 1 - places), (places, 1) if within else None)
            self.check_settling((1, 1), (places - 1, places - 2), (places, -1) if within else None)
            # 2 ** t - 2 ** places, and 2 ** (places - t) - 1, which is 0 at places and below 0 behind it.
            self.check_settling((1, 2), (1 - 2 ** places, 2 - 2 ** places), (places, 1) if within else None)
            halves = (Ratio(1, 2), 1)
            values = (2 ** places - 1, 2 ** (places - 1) - 1)
            self.check_settling(halves, values, (places + 1, -1) if places < 1000 else None)

    def test_never_settled_early_by_the_value_alone(self):
        # The values are at least 0 at 0 and 1, but a level is not.
        bases, values = (1, 1, 1), (10, 5, 2)
        row = row_of(bases, values, 30)
        self.assertTrue(min(row) >= 0)
        self.check_settling(bases, values, first_settled(levels_of(bases, row), 20))
        self.assertGreater(settling_place(bases, values)[0], 1)

    def test_twelve_bases(self):
        powers = [(at - 20) ** 11 for at in range(60)]
        wanted = first_settled(levels_of([1] * 12, [Fraction(value) for value in powers]), 40)
        self.check_settling((1,) * 12, tuple(powers[:12]), wanted)
        self.check_settling((1,) * 12, tuple((at - 1500) ** 11 for at in range(12)), None)

    def test_the_same_for_multiples(self):
        for seed in range(40):
            bases, values = random_row(seed)
            wanted = first_settled(levels_of(bases, row_of(bases, values, 80)), 60)
            if wanted is not None:
                for factor in (Fraction(1, 10 ** 30), 10 ** 30, Fraction(7, 3)):
                    self.check_settling(told(bases), tuple(ratio(value * factor) for value in values), wanted)


class ErrorsTest(RowChecks):
    def test_bases_that_are_no_tuples_of_a_right_length(self):
        for call in CALLS:
            for value in NO_TUPLES + ((), (1,) * 13, (0,) * 13, tuple(range(20))):
                self.check_error(InvalidBases, {"index": None}, call, value, None)
        for call in (value_at, levels_at):
            self.check_error(InvalidBases, {"index": None}, call, place=0, values=(), bases=[1])

    def test_wrong_bases(self):
        for call in CALLS:
            for value in NO_BASES:
                self.check_error(InvalidBases, {"index": 0}, call, (value,), None)
                self.check_error(InvalidBases, {"index": 0}, call, (value, value, 3), (None,))
                self.check_error(InvalidBases, {"index": 2}, call, (1, 2, value, 1), (1, 1))
            self.check_error(InvalidBases, {"index": 1}, call, (2, 1), (1, 1))
            self.check_error(InvalidBases, {"index": 1}, call, (Ratio(1, 2), Ratio(1, 3), True), (1, 1, 1))
            self.check_error(InvalidBases, {"index": 3}, call, (1, 1, 2, 1, 0), ())
            self.check_error(InvalidBases, {"index": 11}, call, (1,) * 11 + (0,), ())

    def test_the_greatest_bases_are_taken(self):
        bases = (Ratio(1, TRILLION), Ratio(TRILLION - 1, TRILLION), 1, Ratio(TRILLION, TRILLION - 1), TRILLION, TRILLION)
        self.check_is_ratio(value_at(bases, (1, 2, 3, 4, 5, 6), 5), 6)
        self.check_settling(bases, (0,) * 6, (0, 1))

    def test_values_that_are_no_tuples_of_a_right_length(self):
        for call in CALLS:
            for value in NO_TUPLES + ((), (None,), (1, 2), (1, 2, 3, 4), (None,) * 4):
                self.check_error(InvalidValues, {"index": None}, call, (1, 1, 2), value)

    def test_wrong_values(self):
        for call in CALLS:
            for value in NO_NUMBERS + (Sum(1), nested(69)):
                self.check_error(InvalidValues, {"index": 0}, call, (1,), (value,))
                self.check_error(InvalidValues, {"index": 1}, call, (1, 1, 2), (1, value, value))
                self.check_error(InvalidValues, {"index": 11}, call, (1,) * 12, (Ratio(1, 2),) * 11 + (value,))

    def test_wrong_places(self):
        for call in (value_at, levels_at):
            for value in NO_INTEGERS + (-1, 1001, 10 ** 30):
                self.check_error(InvalidNumber, {"number": value}, call, (1, 2), (1, 1), value)
                self.check_error(InvalidNumber, {"number": value}, call, place=value, values=(0,), bases=(1,))

    def test_too_far_comes_last(self):
        self.check_error(InvalidValues, {"index": 1}, settling_place, (1, 1), (-5000, None))
        self.check_error(InvalidBases, {"index": 1}, settling_place, (1, 0), (-5000, 1))
        self.check_error(TooFar, {}, settling_place, values=(-5000, -4999), bases=(1, 1))

    def test_fractions_are_kept_exactly(self):
        self.assertEqual(fraction(value_at((Ratio(1, 3), Ratio(1, 2)), (Ratio(1, 7), 0), 2)), Fraction(-1, 42))
