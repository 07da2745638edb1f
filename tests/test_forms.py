"""loopbounds.forms: points 14, 15 and 20 and the section on forms, with points 3 to 7 for them."""

import itertools
import operator
import random
from fractions import Fraction
from math import comb

from loopbounds.errors import InvalidNumber, InvalidValues, TooFar, TooMany
from loopbounds.forms import Form
from loopbounds.ratios import Ratio
from loopbounds.sums import Sum
from tests.helping import NO_INTEGERS, NO_NUMBERS, ODD_VALUES, Checks, fraction, nested, ratio

TRILLION = 10 ** 12
COEFFICIENTS = (1, -1, 2, -3, Fraction(1, 2), Fraction(-5, 3), 7, 0)
BASES = (1, 1, 1, 2, 3, Fraction(1, 2), Fraction(2, 3), Fraction(3, 2))
T = Form((1, 1, 1))
TWO = Form((1, 0, 2))
NUMBERS = (0, 1, -2, Ratio(1, 2), Ratio(-7, 3), Ratio(0))
ORDERS = (operator.le, operator.lt, operator.ge, operator.gt)


def table_of(terms):
    """The dict of the coefficients other than 0, by base and power, of (coefficient, power, base) added up."""
    found = {}
    for coefficient, power, base in terms:
        key = (fraction(base), power)
        found[key] = found.get(key, 0) + fraction(coefficient)
    return {key: found[key] for key in found if found[key] != 0}


def many_bases(table):
    """How many bases a form with these terms has (point 20)."""
    return sum(max(power for other, power in table if other == base) + 1 for base in {base for base, _ in table})


def worth(table, t):
    return sum((table[base, power] * t ** power * base ** t for base, power in table), Fraction(0))


def product(one, two):
    return table_of((one[a] * two[b], a[1] + b[1], a[0] * b[0]) for a in one for b in two)


def random_terms(source, most=3):
    terms = [(source.choice(COEFFICIENTS), source.randint(0, 2), source.choice(BASES))
             for _ in range(source.randint(0, most))]
    return [(Fraction(number), power, Fraction(base)) for number, power, base in terms]


def told(terms):
    """The terms as the program takes them: integers as they are."""
    return [tuple(item if isinstance(item, int) else ratio(item) for item in term) for term in terms]


class FormChecks(Checks):
    def check_form(self, form, table):
        """The value is the form with these terms, in every way in which it tells them."""
        self.assertIs(type(form), Form)
        self.assertIs(type(form.terms), tuple)
        self.assertEqual([(fraction(base), power) for _, power, base in form.terms], sorted(table))
        self.assertEqual([fraction(number) for number, _, _ in form.terms], [table[key] for key in sorted(table)])
        for number, power, base in form.terms:
            self.assertEqual((type(number), type(power), type(base)), (Ratio, int, Ratio))
        powers = {base: max(power for other, power in table if other == base) for base, _ in table}
        self.assertIs(type(form.bases), tuple)
        self.assertEqual([fraction(base) for base in form.bases],
                         [base for base in sorted(powers) for _ in range(powers[base] + 1)])
        for base in form.bases:
            self.assertIs(type(base), Ratio)
        for t in (0, 1, 2, 7):
            self.check_is_ratio(form(t), worth(table, t))


class MakingTest(FormChecks):
    def test_random_forms(self):
        source = random.Random(1)
        for _ in range(200):
            terms = random_terms(source, 4)
            self.check_form(Form(*told(terms)), table_of(terms))

    def test_no_terms(self):
        for form in (Form(), Form((0, 3, 2)), Form((1, 1, 2), (-1, 1, Ratio(4, 2))), Form((Ratio(0), 11, 5))):
            self.check_form(form, {})
            self.assertEqual(form.bases, ())
            self.check_is_ratio(form(1000), 0)

    def test_terms_with_the_same_base_and_power_are_added(self):
        form = Form((1, 1, 2), (Ratio(1, 2), 1, Ratio(4, 2)), (5, 0, 2), (-5, 0, 2), (3, 1, 1))
        self.check_form(form, {(Fraction(1), 1): 3, (Fraction(2), 1): Fraction(3, 2)})
        self.assertEqual(repr(form.terms), "((Ratio(3, 1), 1, Ratio(1, 1)), (Ratio(3, 2), 1, Ratio(2, 1)))")
        self.assertEqual(repr(form.bases), "(Ratio(1, 1), Ratio(1, 1), Ratio(2, 1), Ratio(2, 1))")

    def test_the_edges_of_terms(self):
        self.check_form(Form((1, 11, 1)), {(Fraction(1), 11): 1})
        for base in (TRILLION, Ratio(1, TRILLION), Ratio(TRILLION - 1, TRILLION), Ratio(TRILLION, TRILLION - 1)):
            self.check_form(Form((10 ** 50, 0, base)), {(fraction(base), 0): 10 ** 50})

    def test_twelve_bases(self):
        for terms in (
            [(1, 11, 1)], [(1, 0, base) for base in range(1, 13)], [(1, 5, 2), (1, 5, 3)],
            [(1, 10, 2), (1, 0, 3), (1, 12 - 1, 7), (-1, 11, 7)],
        ):
            self.check_form(Form(*terms), table_of(terms))
            self.assertEqual(len(Form(*terms).bases), 12)

    def test_too_many_bases(self):
        for terms, found in (
            ([(1, 11, 1), (1, 0, 2)], 13), ([(1, 0, base) for base in range(1, 14)], 13), ([(1, 5, 2), (1, 6, 3)], 13),
            ([(1, 11, 2), (1, 11, 3)], 24), ([(1, 11, base) for base in range(1, 11)], 120),
            ([(0, 11, 5), (1, 11, 2), (1, 1, 3), (7, 11, 4), (-7, 11, 4)], 14),
        ):
            self.check_raised(TooMany, {"found": found}, Form, *terms)

    def test_wrong_terms(self):
        for wrong in (
            ODD_VALUES + ((1, 0), (1, 0, 1, 1), [1, 0, 1], 1, Ratio(1), T, Sum(1), nested(70), ((1, 0, 1),))
            + tuple((value, 0, 1) for value in NO_NUMBERS + (Sum(1), T))
            + tuple((1, value, 1) for value in NO_INTEGERS + (-1, 12, 10 ** 30))
            + tuple((1, 0, value) for value in NO_NUMBERS + (Sum(1), T, 0, -1, Ratio(-1, 2), TRILLION + 1,
                                                             Ratio(1, TRILLION + 1), Ratio(TRILLION + 1, 7)))
        ):
            self.check_error(InvalidValues, {"index": 0}, Form, wrong)
            self.check_error(InvalidValues, {"index": 2}, Form, (1, 0, 1), (0, 0, 1), wrong, None)
            # It comes before TooMany.
            self.check_error(InvalidValues, {"index": 2}, Form, (1, 11, 1), (1, 11, 2), wrong)

    def test_nothing_changes_a_form(self):
        for name in ("terms", "bases"):
            with self.assertRaises(AttributeError):
                setattr(T, name, ())


class CallingTest(FormChecks):
    def test_values(self):
        source = random.Random(2)
        for _ in range(60):
            terms = random_terms(source, 4)
            form, table = Form(*told(terms)), table_of(terms)
            for t in (0, 1, 5, 30, 100):
                self.check_is_ratio(form(t), worth(table, t))
                self.check_is_ratio(form(t=t), worth(table, t))

    def test_0_to_the_power_0_is_1(self):
        self.check_is_ratio(Form((5, 0, 3))(0), 5)
        self.check_is_ratio(Form((5, 1, 3))(0), 0)

    def test_the_place_1000(self):
        self.check_is_ratio((T ** 2 * TWO)(1000), 10 ** 6 * 2 ** 1000)
        self.check_is_ratio(Form((1, 0, Ratio(2, 3)))(1000), Fraction(2, 3) ** 1000)

    def test_wrong_places(self):
        for value in NO_INTEGERS + (-1, 1001, 10 ** 30, T):
            self.check_error(InvalidNumber, {"number": value}, T, value)
            self.check_error(InvalidNumber, {"number": value}, Form(), t=value)


class ReckoningTest(FormChecks):
    def test_sums_and_products(self):
        source = random.Random(3)
        for _ in range(150):
            left, right = random_terms(source), random_terms(source)
            one, two = Form(*told(left)), Form(*told(right))
            self.check_form(one + two, table_of(left + right))
            self.check_form(one - two, table_of(left + [(-number, power, base) for number, power, base in right]))
            self.check_form(-one, table_of([(-number, power, base) for number, power, base in left]))
            wanted = product(table_of(left), table_of(right))
            if many_bases(wanted) <= 12:
                self.check_form(one * two, wanted)
            else:
                self.check_raised(TooMany, {"found": many_bases(wanted)}, operator.mul, one, two)
            self.check_form(one, table_of(left))

    def test_numbers(self):
        source = random.Random(4)
        for number in NUMBERS:
            terms = random_terms(source)
            form, value = Form(*told(terms)), [(fraction(number), 0, 1)]
            minus = [(-factor, power, base) for factor, power, base in terms]
            self.check_form(form + number, table_of(terms + value))
            self.check_form(number + form, table_of(terms + value))
            self.check_form(form - number, table_of(terms + [(-fraction(number), 0, 1)]))
            self.check_form(number - form, table_of(minus + value))
            self.check_form(form * number, product(table_of(terms), table_of(value)))
            self.check_form(number * form, product(table_of(terms), table_of(value)))

    def test_powers(self):
        source = random.Random(5)
        for _ in range(40):
            terms = random_terms(source, 2)
            form, wanted = Form(*told(terms)), {(Fraction(1), 0): Fraction(1)}
            for k in range(7):
                if many_bases(wanted) > 12:
                    self.check_raised(TooMany, {"found": many_bases(wanted)}, operator.pow, form, k)
                    break
                self.check_form(form ** k, wanted)
                wanted = product(wanted, table_of(terms))
        self.check_form(Form() ** 0, {(Fraction(1), 0): 1})
        self.check_form(Form() ** 6, {})

    def test_a_product_of_fewer_with_too_many_bases(self):
        form = Form((1, 4, 1), (1, 0, 2))
        # The square has t ** 8 1, t ** 4 2 ** t and 4 ** t: 9 + 5 + 1 bases; each further one has more.
        for k in range(2, 7):
            self.check_raised(TooMany, {"found": 15}, operator.pow, form, k)
        self.check_form(form ** 1, {(Fraction(1), 4): 1, (Fraction(2), 0): 1})
        self.check_form(T ** 6, {(Fraction(1), 6): 1})
        self.check_raised(TooMany, {"found": 13}, operator.pow, T ** 2, 6)
        self.check_raised(TooMany, {"found": 13}, operator.pow, T ** 3, 5)
        self.check_raised(TooMany, {"found": 13}, operator.pow, T ** 6, 2)
        self.check_raised(TooMany, {"found": 13}, operator.pow, T ** 6, 3)

    def test_too_many(self):
        full = Form((1, 11, 1))
        self.check_raised(TooMany, {"found": 13}, operator.add, full, TWO)
        self.check_raised(TooMany, {"found": 13}, operator.sub, TWO, full)
        self.check_raised(TooMany, {"found": 13}, operator.mul, T, full)
        self.check_raised(TooMany, {"found": 23}, operator.mul, full, full)
        self.check_raised(TooMany, {"found": 24}, operator.mul, full, TWO + 1)
        self.check_raised(TooMany, {"found": 13}, operator.add, 1, Form(*[(1, 0, base) for base in range(2, 14)]))
        self.check_form(full - full, {})
        self.check_form(full * 0, {})

    def test_bases_beyond_the_limit_of_those_that_are_passed(self):
        great = Form((1, 0, TRILLION))
        self.check_form(great ** 6, {(Fraction(TRILLION ** 6), 0): 1})
        self.check_form(great * great - great, {(Fraction(TRILLION ** 2), 0): 1, (Fraction(TRILLION), 0): -1})
        self.check_form(-(great * great), {(Fraction(TRILLION ** 2), 0): -1})
        self.check_form(great * great << 2, {(Fraction(TRILLION ** 2), 0): TRILLION ** 4})
        self.check_same(great * great >= great, True)
        self.check_same(great * great <= great, False)

    def test_shifts(self):
        source = random.Random(6)
        for k in (0, 1, 2, 3, 10, 100):
            for _ in range(20):
                terms = random_terms(source)
                form = Form(*told(terms))
                shifted = form << k
                table = {(fraction(base), power): fraction(number) for number, power, base in shifted.terms}
                self.check_form(shifted, table)
                for t in range(8):
                    self.check_is_ratio(shifted(t), worth(table_of(terms), t + k))
        wanted = {(Fraction(1), power): comb(11, power) * 100 ** (11 - power) for power in range(12)}
        self.check_form(Form((1, 11, 1)) << 100, wanted)

    def test_wrong_powers_and_shifts(self):
        for k in (-1, 7, 10 ** 30, -10 ** 30):
            self.check_error(InvalidNumber, {"number": k}, operator.pow, Form((1, 11, 1)), k)
        for k in (-1, 101, 10 ** 30, -10 ** 30):
            self.check_error(InvalidNumber, {"number": k}, operator.lshift, T, k)
        for k in NO_INTEGERS + (T,):
            self.check_error(TypeError, {}, operator.pow, T, k)
            self.check_error(TypeError, {}, operator.lshift, T, k)

    def test_other_operands(self):
        for sign in (operator.add, operator.sub, operator.mul) + ORDERS:
            for wrong in NO_NUMBERS + (Sum(1), Sum(x=1), nested(70)):
                self.check_error(TypeError, {}, sign, T, wrong)
                self.check_error(TypeError, {}, sign, wrong, T)

    def test_operators_that_are_not_there(self):
        for sign in (operator.floordiv, operator.truediv, operator.mod, operator.rshift, operator.and_, operator.or_):
            for other in (2, Ratio(2), T):
                self.check_error(TypeError, {}, sign, T, other)
                self.check_error(TypeError, {}, sign, other, T)
        for sign in (operator.pow, operator.lshift):
            for other in (2, Ratio(2)):
                self.check_error(TypeError, {}, sign, other, T)
        for sign in (operator.pos, operator.invert, operator.abs, len, iter):
            self.check_error(TypeError, {}, sign, T)


class ComparingTest(FormChecks):
    def check_orders(self, one, two, at_most, less):
        """One is at most the other everywhere, less everywhere; however it is asked."""
        self.check_same(one <= two, at_most)
        self.check_same(two >= one, at_most)
        self.check_same(one < two, less)
        self.check_same(two > one, less)

    def test_random_forms(self):
        source = random.Random(7)
        answers = []
        for _ in range(250):
            left, right = table_of(random_terms(source)), table_of(random_terms(source))
            one, two = [Form(*told([(table[base, power], power, base) for base, power in table]))
                        for table in (left, right)]
            try:
                found = (one <= two, one < two)
            except TooFar:
                continue
            differences = [worth(right, t) - worth(left, t) for t in range(150)]
            # No two of these forms cross for the first time behind the place 150.
            self.check_orders(one, two, min(differences) >= 0, min(differences) > 0)
            answers.append(found)
        self.assertGreater(len(answers), 200)
        for wanted in ((True, True), (True, False), (False, False)):
            self.assertGreater(answers.count(wanted), 5)

    def test_numbers(self):
        half = Form((1, 0, Ratio(1, 2)))
        self.check_orders(half, 1, True, False)
        self.check_orders(half, Ratio(999, 1000), False, False)
        self.check_orders(0, half, True, True)
        self.check_orders(Ratio(0), -half, False, False)
        self.check_orders(1, TWO, True, False)
        self.check_orders(Ratio(1, 2), TWO, True, True)
        self.check_orders(T, 500, False, False)
        for one, two in itertools.product(NUMBERS, NUMBERS):
            self.check_orders(Form((one, 0, 1)), two, one <= two, one < two)
            self.check_orders(one, Form((two, 0, 1)), one <= two, one < two)
            self.check_orders(Form((one, 0, 1)), Form((two, 0, 1)), one <= two, one < two)

    def test_equal_and_empty_forms(self):
        for form in (Form(), T, TWO - T, -T):
            self.check_orders(form, form, True, False)
            self.check_orders(form, Form(*form.terms), True, False)
        self.check_orders(Form(), Form(), True, False)
        self.check_orders(Form(), 0, True, False)
        self.check_orders(Form(), 1, True, True)
        self.check_orders(Form(), T, True, False)
        self.check_orders(Form(), T + 1, True, True)

    def test_touching(self):
        square = (T - 3) ** 2
        self.check_orders(0, square, True, False)
        self.check_orders(0, square + Ratio(1, 10 ** 9), True, True)
        self.check_orders(0, square - Ratio(1, 10 ** 9), False, False)
        self.check_orders(-square, 0, True, False)
        # Below 0 at no integer, but between 2 and 3.
        self.check_orders(0, (T - 2) * (T - 3), True, False)
        self.check_orders(0, (T - 2) * (T - 4), False, False)

    def test_a_break_far_out_and_at_the_end(self):
        self.check_orders(T * 1000, TWO + 8000, False, False)
        self.check_orders(T, TWO * Ratio(1, 2 ** 30) + 20, False, False)
        self.check_orders(Form((1, 0, Ratio(99, 100))), 2 - T * Ratio(1, 500), False, False)

    def test_just_within_and_just_beyond_1000(self):
        # t - places settles at places, places - t only behind it, where it is less than 0.
        for call in (lambda: 0 <= T - 1000, lambda: T >= 1000, lambda: 1000 - T <= 0, lambda: T < 1000,
                     lambda: 1000 > T, lambda: T <= 999, lambda: T - 999 <= 0, lambda: 999 >= T, lambda: T > 999):
            self.check_same(call(), False)
        for call in (lambda: 0 <= T - 1001, lambda: T >= 1001, lambda: 1001 - T <= 0, lambda: T < 1001,
                     lambda: 1001 > T, lambda: T <= 1000, lambda: T - 1000 <= 0, lambda: 1000 >= T, lambda: T > 1000):
            self.check_error(TooFar, {}, call)

    def test_too_far_although_a_break_comes_early(self):
        self.check_error(TooFar, {}, lambda: 10 ** 6 <= T)
        self.check_error(TooFar, {}, lambda: T - 10 ** 6 > TWO * 0)

    def test_too_many_as_for_the_difference(self):
        full = Form((1, 11, 1))
        for sign, pair in itertools.product(ORDERS, ((full, TWO), (TWO, full))):
            self.check_raised(TooMany, {"found": 13}, sign, *pair)
        many = Form(*[(1, 0, base) for base in range(2, 14)])
        for sign, pair in itertools.product(ORDERS, ((many, 1), (Ratio(1, 2), many))):
            self.check_raised(TooMany, {"found": 13}, sign, *pair)
        self.check_orders(full, full + 1, True, True)


class EqualityTest(FormChecks):
    def test_equal_forms(self):
        forms = (Form(), Form((1, 0, 1)), T, TWO, T + TWO, -T, Form((1, 1, 2)), Form((1, 1, Ratio(1, 2))), T * 2)
        for at, one in enumerate(forms):
            for other_at, two in enumerate(forms):
                self.check_same(one == two, at == other_at)
                self.check_same(one != two, at != other_at)
            again = Form(*reversed(one.terms))
            self.check_same(one == again, True)
            self.check_same(one != again, False)
        self.check_same(T + T - T == T, True)
        self.check_same((T + 1) ** 2 == T ** 2 + T * 2 + 1, True)
        self.check_same(TWO << 3 == 8 * TWO, True)

    def test_other_values(self):
        for form in (Form(), Form((1, 0, 1)), T):
            for value in ODD_VALUES + NUMBERS + (form.terms, str(form), Sum(1)):
                self.check_same(form == value, False)
                self.check_same(value == form, False)
                self.check_same(form != value, True)

    def test_truth(self):
        for form, wanted in ((Form(), False), (T - T, False), (T * 0, False), (T, True), (Form((-1, 0, 1)), True)):
            self.check_same(bool(form), wanted)


class TextTest(FormChecks):
    def test_str_and_repr(self):
        for form, text, many in (
            (Form(), "0", 0), (Form((5, 0, 1)), "5", 1), (Form((Ratio(-1, 2), 0, 1)), "-1/2", 1), (T, "1 t^1", 1),
            (TWO, "1 2^t", 1), (T * TWO, "1 t^1 2^t", 1), (-Form((1, 11, 1)), "-1 t^11", 1),
            (Form((1, 0, Ratio(1, 2))), "1 1/2^t", 1), (3 + 2 * T - TWO, "3 + 2 t^1 + -1 2^t", 3),
            (Form((1, 2, 3), (1, 0, 3), (1, 1, Ratio(1, 3)), (1, 0, 1)), "1 t^1 1/3^t + 1 + 1 3^t + 1 t^2 3^t", 4),
            (Form((Ratio(7, 3), 10, Ratio(10, 9))), "7/3 t^10 10/9^t", 1),
        ):
            self.check_same(str(form), text)
            self.check_same(repr(form), f"Form({many})")


class DefinedTest(Checks):
    def test_each_listed_method_stands_in_the_class(self):
        for name in (
            "__init__", "terms", "bases", "__call__", "__add__", "__radd__", "__sub__", "__rsub__", "__mul__",
            "__rmul__",
            "__neg__", "__pow__", "__lshift__", "__le__", "__lt__", "__ge__", "__gt__", "__eq__", "__bool__", "__str__",
            "__repr__",
        ):
            self.assertIn(name, vars(Form))
        self.assertEqual(Form.__module__, "loopbounds.forms")
