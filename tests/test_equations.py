"""Points 122 and 123: equations with one unknown."""

import itertools
import math
import random
import unittest

from tests.helpers import WebCase
from tests.plain_polys import random_poly
from webnumbers.equations import solve
from webnumbers.errors import NoBound, TooLarge
from webnumbers.polys import Poly

X, Y, Z = [Poly.of_prime(k) for k in range(3)]
ZERO, ONE = Poly([]), Poly.of_number(1)
MONOMIALS = [(), ((0, 1),), ((1, 1),), ((0, 1), (1, 1))]
SMALL = [Poly(list(zip(row, MONOMIALS))) for row in itertools.product(range(2), repeat=4)]


def value_of(coefficients, unknown):
    """Return the value of c_0 + c_1 * X + .. for the unknown X."""
    value = ZERO
    for k, coefficient in enumerate(coefficients):
        if coefficient.terms:
            value = value + coefficient * unknown.power(k)
    return value


class SolveTest(WebCase):
    def check_solution(self, coefficients, unknown):
        target = value_of(coefficients, unknown)
        found = solve(coefficients, target)
        self.assertIsInstance(found, Poly)
        self.assertEqual(unknown.terms, found.terms)

    def check_none(self, coefficients, target):
        self.assertIsNone(solve(coefficients, target))

    def test_solutions(self):
        chooser = random.Random(3)
        tried = 0
        for seed in range(600):
            many = chooser.randint(2, 5)
            coefficients = [random_poly(seed * 7 + k, most=3, exponent=2) if chooser.random() < 0.6 else ZERO
                            for k in range(many)]
            unknown = random_poly(seed * 5 + 3, most=4, exponent=2)
            if not any(c.terms for c in coefficients[1:]):
                continue
            try:
                self.check_solution(coefficients, unknown)
            except TooLarge:
                continue
            tried += 1
        self.assertGreater(tried, 200)

    def test_every_small_target(self):
        chooser = random.Random(8)
        for _ in range(60):
            coefficients = [chooser.choice(SMALL) for _ in range(chooser.randint(2, 4))]
            if not any(c.terms for c in coefficients[1:]):
                continue
            values = {value_of(coefficients, unknown).terms: unknown.terms for unknown in SMALL}
            for target in [*SMALL, *[value_of(coefficients, unknown) + chooser.choice(SMALL) for unknown in SMALL]]:
                found = solve(coefficients, target)
                if target.terms in values:
                    self.assertEqual(values[target.terms], found.terms)
                elif found is not None:
                    self.assertEqual(target.terms, value_of(coefficients, found).terms)

    def test_numbers(self):
        for row in itertools.product(range(3), repeat=4):
            coefficients = [Poly.of_number(n) for n in row]
            if any(row[1:]):
                values = {sum(c * x ** k for k, c in enumerate(row)): x for x in range(40)}
                for target in range(40):
                    found = solve(coefficients, Poly.of_number(target))
                    self.assertEqual(values.get(target), None if found is None else found([]))

    def test_zero(self):
        self.assertEqual((), solve([X, ONE], X).terms)
        self.assertEqual((), solve([ZERO, X, Y], ZERO).terms)
        self.assertEqual((), solve([X + 1, ZERO, ZERO, ZERO, ONE], 1 + X).terms)

    def test_several_terms(self):
        self.check_solution([ZERO, X], X + Y + 1)
        self.check_solution([Y, X + 1], X * X + 2 * Y + 3)
        self.check_solution([ONE, X, ONE], X * Y + Z + 1)
        self.check_solution([Z, ZERO, X, Y], 2 * X + Y)
        self.check_solution([ZERO, ZERO, ZERO, ZERO, ONE], X + Y + 1)
        self.check_solution([X, Y, Z, ONE, X + Y], X + Z)
        self.check_solution([ZERO, Poly([(1, ((k, 1),)) for k in range(64)])], 5 * X)
        self.quickly(self.check_solution, [ZERO, 3 * X], Poly([(1, ((0, k),)) for k in range(1, 64)]) + 1)
        self.quickly(self.check_solution, [ZERO, X + 1], Poly([(1, ((0, k),)) for k in range(1, 63)]) + 1)

    def test_several_powers_reach_the_first_term(self):
        # The first terms of X * X and of Y * X may be equal: X is Y, or 2 * Y, or 3 * Y.
        for count in range(1, 4):
            self.check_solution([ZERO, Y, ONE], count * Y)
            self.check_solution([ZERO, Y, ONE], count * Y + 1)
            self.check_solution([ONE, Y * Y, 2 * Y, ONE], count * Y + 2)
        self.check_none([ZERO, Y, ONE], 3 * Y * Y)
        self.check_none([ZERO, Y, ONE], Y * Y)

    def test_coefficients_of_0_in_between(self):
        for places in itertools.combinations(range(1, 5), 2):
            coefficients = [X if k in places else ZERO for k in range(5)]
            self.check_solution(coefficients, X + 2)
            self.check_solution([ONE, *coefficients[1:]], Y)
            self.check_none(coefficients, X * X * X * Y)

    def test_great_counts(self):
        great = Poly.of_number(10 ** 119)
        self.assertEqual((10 ** 119, ()), solve([ZERO, ONE], great).lead)
        self.check_solution([ZERO, ONE, ONE, ONE, ONE], Poly.of_number(10 ** 29 + 7))
        self.check_none([ONE, ONE, ONE, ONE, ONE], Poly.of_number(10 ** 119))
        self.check_solution([ZERO, ZERO, Poly([(7, ((3, 5),))])], Poly([(10 ** 50, ((0, 10 ** 100),))]))


class NoSolutionTest(WebCase):
    def check_none(self, coefficients, target):
        self.assertIsNone(solve(coefficients, target))

    def test_a_target_less_than_the_first_coefficient(self):
        self.check_none([ONE, ONE], ZERO)
        self.check_none([X, ONE], Y)
        self.check_none([2 * X, ONE], X)
        self.check_none([X, ONE, ONE], ONE)

    def test_no_first_monomial(self):
        self.check_none([ZERO, X], Y)
        self.check_none([ZERO, ZERO, ONE], X)
        self.check_none([ZERO, ZERO, X], X * X)
        self.check_none([ZERO, X * X], X)
        # A root of one power that another power exceeds.
        self.check_none([ZERO, ONE, X], X)

    def test_no_first_count(self):
        self.check_none([ZERO, 2 * ONE], 3 * X)
        self.check_none([ZERO, ZERO, ONE], 2 * X * X)
        self.check_none([ZERO, Poly.of_number(2)], ONE)
        self.check_none([ZERO, ONE, ONE], Poly.of_number(7))

    def test_no_further_term(self):
        # The count, and then the monomial, is not divisible.
        self.check_none([ZERO, ZERO, ONE], X * X + X)
        self.check_none([ZERO, ZERO, ONE], X * X + 2 * Y)
        self.check_none([ZERO, 2 * X], 2 * X * X + X)
        self.check_none([ZERO, X], X * X + Y)

    def test_a_count_that_would_be_negative(self):
        self.check_none([ZERO, X + 1], X * X)
        self.check_none([ZERO, X + 1], X * X + 2 * X)
        self.check_none([ZERO, ZERO, ONE], X * X + 2 * X)
        self.check_none([ZERO, X + 2], X * Y + Y)
        self.check_none([ZERO, ZERO, ONE, ONE], X * X * X)

    def test_values_beyond_the_limits(self):
        many = Poly([(1, ((k, 1),)) for k in range(64)])
        # The first term of the unknown times the coefficient has too long counts.
        first = Poly([(10 ** 119, ((0, 2),)), (1, ())])
        self.check_none([ZERO, Poly([(1, ((0, 1),)), (10 ** 119, ())])], first)
        self.check_none([ZERO, Poly([(1, ((0, 1),)), (1, ((1, 1),))])], Poly([(1, ((0, 10 ** 119 * 9),)), (1, ())]))
        # The terms found so far have a square with too many terms.
        whole = Poly([(1, ((0, 400),))] + [(2, ((0, 400 - k * k),)) for k in range(1, 14)])
        self.check_none([ZERO, ZERO, ONE], whole)
        self.check_none([ZERO, many + X], many * 2 + X)
        self.assertEqual((2, ()), solve([ZERO, many], many * 2).lead)

    def test_nearly_values(self):
        coefficients = [X, Y + 1, ONE]
        target = value_of(coefficients, X + Z + 2)
        for place, (count, monomial) in enumerate(target.terms):
            rest = [*target.terms[:place], *target.terms[place + 1:]]
            for terms in (rest, [*rest, (count + 1, monomial)], [*rest, (count, (*monomial, (9, 1)))],
                          [*target.terms, (1, (*monomial, (9, 1)))]):
                self.check_none(coefficients, Poly(terms))


class LimitsTest(WebCase):
    def test_five_and_six_coefficients(self):
        self.assertEqual((1, ()), solve([ONE] * 5, Poly.of_number(5)).lead)
        for row in ([ONE] * 6, [ZERO] * 6, [ONE] + [ZERO] * 5, [ZERO] * 7, [X] * 20):
            self.check_error(TooLarge, {"limit": 4}, solve, row, ONE)

    def test_no_bound(self):
        for many in range(5):
            self.check_error(NoBound, {}, solve, [X + 1, *[ZERO] * many], 1 + X)
            self.check_error(NoBound, {}, solve, [ZERO, *[ZERO] * many], ZERO)
            self.assertIsNone(solve([X + 1, *[ZERO] * many], X))
            self.assertIsNone(solve([ZERO, *[ZERO] * many], ONE))

    def test_the_arguments_are_not_changed(self):
        coefficients = [ONE, X, Y]
        terms = [c.terms for c in coefficients]
        solve(coefficients, value_of(coefficients, X + 1))
        self.assertEqual([3, terms], [len(coefficients), [c.terms for c in coefficients]])

    def test_the_work_is_short(self):
        row = Poly([(math.comb(15, k), ((0, k),)) for k in range(1, 16)]) + 1
        target = value_of([row, row, row, ONE, ONE], (X + 1).power(8))
        self.assertEqual((X + 1).power(8).terms, self.quickly(solve, [row, row, row, ONE, ONE], target).terms)


if __name__ == "__main__":
    unittest.main()
