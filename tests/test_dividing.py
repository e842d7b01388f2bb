"""Point 109: roots of polynomials, and what divides all terms."""

import itertools
import math
import unittest

from tests.helpers import WebCase
from tests.plain_polys import random_poly
from webnumbers.dividing import root, scaled_split
from webnumbers.errors import NoBound, NoRoot, TooLarge
from webnumbers.monomials import common_monomial
from webnumbers.polys import Poly

X, Y, Z = [Poly.of_prime(k) for k in range(3)]
ZERO = Poly([])
SAMPLES = [random_poly(seed, most=4) for seed in range(60)]


class RootTest(WebCase):
    def check_no_root(self, poly, degree):
        self.check_error(NoRoot, {"degree": degree}, root, poly, degree)

    def test_roots_of_powers(self):
        for poly in SAMPLES + [X + Y + Z + 1, X + 2, 3 * X * Y, 5 * X + Y * Y + Z * Z * Z + 7]:
            for degree in range(1, 5):
                try:
                    whole = poly.power(degree)
                except TooLarge:
                    continue
                found = root(whole, degree)
                self.assertIsInstance(found, Poly)
                self.assertEqual(poly.terms, found.terms)

    def test_every_root(self):
        monomials = [(), ((0, 1),), ((1, 1),)]
        bases = [Poly(list(zip(row, monomials))) for row in itertools.product(range(3), repeat=3)]
        for degree in (2, 3):
            powers = {base.power(degree).terms: base.terms for base in bases}
            for row in itertools.product(range(3), repeat=4):
                poly = Poly(list(zip(row, [(), ((0, 1),), ((0, 2),), ((0, 3),)])))
                if poly.terms in powers:
                    self.assertEqual(powers[poly.terms], root(poly, degree).terms)
                else:
                    self.check_no_root(poly, degree)

    def test_degree_1(self):
        for poly in SAMPLES:
            self.assertEqual(poly.terms, root(poly, 1).terms)
        many = Poly([(10 ** 119, ((k, 1),)) for k in range(64)])
        self.assertEqual(many.terms, self.quickly(root, many, 1).terms)

    def test_degree_64(self):
        self.assertEqual((X * 3).terms, root(Poly([(3 ** 64, ((0, 64),))]), 64).terms)
        self.check_no_root(Poly([(3 ** 64 + 1, ((0, 64),))]), 64)
        self.check_no_root(Poly([(3 ** 64, ((0, 63),))]), 64)
        whole = Poly([(1, ())] + [(math.comb(63, k), ((0, k),)) for k in range(1, 64)])
        self.assertEqual((X + 1).terms, self.quickly(root, whole, 63).terms)
        # The power with the exponent 64 has 65 terms.
        first = Poly([(1, ((0, 64),)), (64, ((0, 63),))])
        self.check_no_root(first, 64)

    def test_degrees_beyond_64(self):
        for degree in (65, 66, 10 ** 400):
            for poly in (ZERO, Poly.of_number(1), X, Poly.of_number(2)):
                self.check_error(TooLarge, {"limit": 64}, root, poly, degree)

    def test_numbers(self):
        for degree in range(1, 65):
            self.assertEqual((), root(ZERO, degree).terms)
            self.assertEqual(((1, ()),), root(Poly.of_number(1), degree).terms)
            if degree > 1:
                self.check_no_root(Poly.of_number(2), degree)
        for number in range(1, 200):
            for degree in (2, 3, 4):
                found = [k for k in range(1, 15) if k ** degree == number]
                if found:
                    self.assertEqual(((found[0], ()),), root(Poly.of_number(number), degree).terms)
                else:
                    self.check_no_root(Poly.of_number(number), degree)

    def test_great_numbers(self):
        base = 10 ** 59 + 12345
        self.assertEqual(((base, ()),), root(Poly.of_number(base * base), 2).terms)
        self.check_no_root(Poly.of_number(base * base + 1), 2)
        self.check_no_root(Poly.of_number(base * base - 1), 2)
        great = 10 ** 119
        self.assertEqual(((1, ((5, great),)),), root(Poly([(1, ((5, 7 * great),))]), 7).terms)

    def test_nearly_powers(self):
        whole = (X + 2 * Y + 1).power(3)
        for place, (count, monomial) in enumerate(whole.terms):
            rest = [*whole.terms[:place], *whole.terms[place + 1:]]
            self.check_no_root(Poly(rest), 3)
            self.check_no_root(Poly([*rest, (count + 1, monomial)]), 3)
            if count > 1:
                self.check_no_root(Poly([*rest, (count - 1, monomial)]), 3)
            self.check_no_root(Poly([*rest, (count, (*monomial, (9, 1)))]), 3)
        for extra in (X ** 4, X * X * Z, Z, Z ** 3, Poly.of_number(1), Y ** 4, X * Y * Z):
            self.check_no_root(whole + extra, 3)

    def test_powers_beyond_the_limits(self):
        # The square of the terms found so far has too many terms, or too long counts, before the root is found.
        many = Poly([(1, ((0, 200),))] + [(2, ((0, 200 - k * k),)) for k in range(1, 14)])
        self.check_no_root(many, 2)
        self.check_no_root(Poly([(1, ((0, 4),)), (10 ** 119, ((0, 2),))]), 2)
        self.check_no_root(Poly([(1, ((0, 2 * 10 ** 119),)), (2, ((0, 10 ** 119), (1, 10 ** 119 * 9)))]), 2)

    def test_the_limit_of_exponents_does_not_apply(self):
        self.assertEqual((X + Y).terms, root(Poly([(math.comb(30, k), tuple(
            pair for pair in ((0, k), (1, 30 - k)) if pair[1])) for k in range(31)]), 30).terms)


class ScaledSplitTest(WebCase):
    def test_the_definition(self):
        for poly in SAMPLES + [Poly([(count * 6, ((0, 2), (1, 1), *m)) for count, m in ((2, ()), (3, ((2, 1),)))])]:
            if poly.terms:
                count, monomial, rest = scaled_split(poly)
                self.assertEqual(poly.terms, (Poly([(count, monomial)]) * rest).terms)
                self.assertEqual(math.gcd(*[c for c, _ in poly.terms]), count)
                shared = rest.terms[0][1]
                for _, other in rest.terms:
                    shared = common_monomial(shared, other)
                self.assertEqual((), shared)
                self.assertEqual(1, math.gcd(*[c for c, _ in rest.terms]))
                self.assertIs(tuple, scaled_split(poly).__class__)

    def check_split(self, poly, count, monomial, rest):
        found = scaled_split(poly)
        self.assertEqual((count, monomial, rest.terms), (found[0], found[1], found[2].terms))

    def test_samples(self):
        self.check_split(6 * X * X * Y + 4 * X * Y, 2, ((0, 1), (1, 1)), 3 * X + 2)
        self.check_split(6 * X + 4, 2, (), 3 * X + 2)
        self.check_split(X * X + X * Y, 1, ((0, 1),), X + Y)
        self.check_split(X + 2, 1, (), X + 2)
        self.check_split(12 * X * X, 12, ((0, 2),), Poly.of_number(1))
        self.check_split(Poly.of_number(9), 9, (), Poly.of_number(1))
        self.check_split(Poly.of_number(1), 1, (), Poly.of_number(1))
        self.check_split(X, 1, ((0, 1),), Poly.of_number(1))

    def test_zero(self):
        self.check_error(NoBound, {}, scaled_split, ZERO)


if __name__ == "__main__":
    unittest.main()
