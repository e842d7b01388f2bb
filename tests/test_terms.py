"""Points 103, 106 and 107: calculating with tuples of terms."""

import itertools
import unittest

from tests.helpers import WebCase
from tests.plain_polys import plain, plain_product, plain_sum, random_poly, terms_of_plain
from webnumbers.errors import NoBound, NotDivisible, TooLarge
from webnumbers.polys import Poly
from webnumbers.terms import add_terms, divide_terms, multiply_terms, subtract_terms

SAMPLES = [random_poly(seed).terms for seed in range(40)]
ONE = ((1, ()),)
MANY = tuple((1, ((k, 1),)) for k in range(64))
TWO = ((1, ((70, 1),)), (1, ((71, 1),)))


class TermsTest(WebCase):
    def test_sums_and_products(self):
        for p, q in itertools.product(SAMPLES, SAMPLES):
            self.assertEqual(terms_of_plain(plain_sum(plain(p), plain(q))), add_terms(p, q))
            self.assertEqual(terms_of_plain(plain_product(plain(p), plain(q))), multiply_terms(p, q))
            self.assertIs(tuple, add_terms(p, q).__class__)

    def test_operators_have_the_same_terms(self):
        for p, q in itertools.product(SAMPLES[:12], SAMPLES[:12]):
            self.assertEqual((Poly(p) + Poly(q)).terms, add_terms(p, q))
            self.assertEqual((Poly(p) * Poly(q)).terms, multiply_terms(p, q))

    def test_differences(self):
        for p, q in itertools.product(SAMPLES, SAMPLES):
            self.assertEqual(p, subtract_terms(add_terms(p, q), q))
            left = {key: plain(p).get(key, 0) - plain(q).get(key, 0) for key in {**plain(p), **plain(q)}}
            expected = None if any(count < 0 for count in left.values()) else terms_of_plain(
                {key: count for key, count in left.items() if count})
            self.assertEqual(expected, subtract_terms(p, q))

    def test_differences_that_would_be_negative(self):
        self.assertIsNone(subtract_terms((), ONE))
        self.assertIsNone(subtract_terms(ONE, ((2, ()),)))
        self.assertIsNone(subtract_terms(((5, ((0, 1),)),), ((1, ((1, 1),)),)))
        self.assertEqual((), subtract_terms(ONE, ONE))
        self.assertEqual((), subtract_terms((), ()))
        self.assertEqual(((1, ((0, 1),)),), subtract_terms(((1, ((0, 1),)), (1, ())), ONE))

    def test_quotients(self):
        for p, q in itertools.product(SAMPLES, SAMPLES):
            if q:
                self.assertEqual(p, divide_terms(multiply_terms(p, q), q))
        self.assertEqual((), divide_terms((), ONE))

    def test_errors_of_dividing(self):
        self.check_error(NoBound, {}, divide_terms, (), ())
        self.check_error(NotDivisible, {"monomial": ((0, 1),)}, divide_terms, MANY, ())
        self.check_error(NotDivisible, {"monomial": ()}, divide_terms, ONE, ((2, ()),))
        self.check_error(NotDivisible, {"monomial": ()}, divide_terms, ONE, ((1, ((0, 1),)),))
        square = ((1, ((0, 2),)),)
        self.check_error(NotDivisible, {"monomial": ((0, 2),)}, divide_terms, square, ((1, ((0, 1),)), (1, ())))

    def test_limits(self):
        self.check_error(TooLarge, {"limit": 64}, add_terms, MANY, ONE)
        self.check_error(TooLarge, {"limit": 64}, multiply_terms, MANY, TWO)
        self.assertEqual(64, len(add_terms(MANY[1:], ONE)))
        self.assertEqual(64, len(multiply_terms(MANY[:32], TWO)))
        great = ((10 ** 119, ()),)
        self.check_error(TooLarge, {"limit": 120}, multiply_terms, great, ((10, ()),))
        self.check_error(TooLarge, {"limit": 120}, add_terms, ((10 ** 120 - 1, ()),), ONE)
        self.assertEqual(((10 ** 120 - 1, ()),), add_terms(((10 ** 120 - 2, ()),), ONE))
        self.check_error(TooLarge, {"limit": 120}, multiply_terms, ((1, ((0, 10 ** 119 * 9),)),), ((1, ((0, 10 ** 119),)),))

    def test_too_many_terms_come_before_long_integers(self):
        many = tuple((10 ** 119, monomial) for _, monomial in MANY)
        self.check_error(TooLarge, {"limit": 64}, multiply_terms, many, many)
        self.check_error(TooLarge, {"limit": 64}, multiply_terms, many[:33], TWO)
        self.check_error(TooLarge, {"limit": 120}, multiply_terms, many, ((10, ()),))

    def test_the_work_is_short(self):
        many = tuple((1, ((k, 1),)) for k in range(64))
        self.quickly(self.check_error, TooLarge, {"limit": 64}, multiply_terms, many, many)
        row = tuple((1, ((0, k),)) for k in range(63, 0, -1)) + ONE
        self.quickly(divide_terms, row, ((1, ((0, 1),)), (1, ())))


if __name__ == "__main__":
    unittest.main()
