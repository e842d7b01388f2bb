"""Points 103 to 105, 107 and 108: polynomials."""

import itertools
import random
import unittest

from tests.helpers import WebCase
from tests.plain_polys import plain, plain_power, plain_product, plain_sum, random_poly, terms_of_plain
from webnumbers.errors import InvalidPoly, NoBound, NotDivisible, TooLarge
from webnumbers.polys import Poly

X, Y, Z = [Poly.of_prime(k) for k in range(3)]
ONE = Poly([(1, ())])
ZERO = Poly([])
LONG = 10 ** 120
SAMPLES = [random_poly(seed) for seed in range(60)]


def primes(many, count=1):
    """Return the sum of so many primes."""
    return Poly([(count, ((k, 1),)) for k in range(many)])


class MakingTest(WebCase):
    def test_example(self):
        self.assertEqual("2*p0^3*p1 + p2 + 5", str(Poly([(5, ()), (2, ((0, 3), (1, 1))), (1, ((2, 1),))])))

    def test_any_order(self):
        for seed in range(60):
            terms = list(random_poly(seed).terms)
            random.Random(seed).shuffle(terms)
            for value in (Poly(terms), Poly(tuple(terms))):
                self.assertEqual(terms_of_plain(plain(terms)), value.terms)
                self.assertIs(tuple, value.terms.__class__)

    def test_the_order_of_terms(self):
        terms = [(1, ((0, 2),)), (2, ((0, 1), (1, 1))), (3, ((0, 1), (2, 1))), (4, ((1, 2),)), (5, ((1, 1), (2, 1))),
                 (6, ((2, 2),)), (7, ((0, 1),)), (8, ((1, 1),)), (9, ((2, 1),)), (10, ())]
        self.assertEqual(tuple(terms), Poly(terms[::-1]).terms)
        self.assertEqual(((1, ((9, 3),)), (1, ((0, 2),))), Poly([(1, ((0, 2),)), (1, ((9, 3),))]).terms)

    def test_equal_monomials(self):
        self.assertEqual(((5, ((0, 1),)),), Poly([(2, ((0, 1),)), (3, ((0, 1),))]).terms)
        self.assertEqual(((2, ((1, 1),)), (4, ())), Poly([(1, ()), (2, ((1, 1),)), (3, ())]).terms)

    def test_counts_of_0(self):
        self.assertEqual((), Poly([(0, ())]).terms)
        self.assertEqual((), Poly([(0, ((0, 1),)), (0, ((0, 1),))]).terms)
        self.assertEqual(((1, ()),), Poly([(0, ((0, 1),)), (1, ()), (0, ())]).terms)
        self.assertEqual((), Poly([]).terms)
        self.assertEqual((), Poly(()).terms)

    def test_negative_counts(self):
        self.check_error(InvalidPoly, {"place": 0}, Poly, [(-1, ())])
        self.check_error(InvalidPoly, {"place": 2}, Poly, [(1, ()), (0, ()), (-1, ()), (-2, ())])
        # The sum of the counts would not be negative.
        self.check_error(InvalidPoly, {"place": 1}, Poly, ((5, ()), (-1, ())))

    def test_entries_that_are_no_monomials(self):
        for wrong in (None, 1, "p0", [], [(0, 1)], ((0, 0),), ((0, -1),), ((-1, 1),), ((1, 1), (0, 1)), ([0, 1],),
                      ((0, 1), (0, 1)), (0, 1), ((0, 1, 2),)):
            self.check_error(InvalidPoly, {"place": 0}, Poly, [(1, wrong)])
            self.check_error(InvalidPoly, {"place": 1}, Poly, ((1, ()), (0, wrong), (-1, ())))
            self.check_error(InvalidPoly, {"place": 1}, Poly, [(1, ()), (-1, ()), (1, wrong)])

    def test_numbers_and_primes(self):
        self.assertEqual(((7, ()),), Poly.of_number(7).terms)
        self.assertEqual((), Poly.of_number(0).terms)
        self.assertEqual(((1, ((4, 1),)),), Poly.of_prime(4).terms)
        self.check_error(InvalidPoly, {"place": 0}, Poly.of_number, -1)
        self.check_error(InvalidPoly, {"place": 0}, Poly.of_prime, -1)
        self.check_error(TooLarge, {"limit": 120}, Poly.of_number, LONG)
        self.check_error(TooLarge, {"limit": 120}, Poly.of_prime, LONG)
        self.assertEqual(LONG - 1, Poly.of_number(LONG - 1).lead[0])
        self.assertEqual(((LONG - 1, 1),), Poly.of_prime(LONG - 1).lead[1])

    def test_properties(self):
        self.assertEqual([0, 0, None], [ZERO.total, ZERO.height, ZERO.lead])
        self.assertEqual([7, 0, (7, ())], [Poly.of_number(7).total, Poly.of_number(7).height, Poly.of_number(7).lead])
        value = Poly([(5, ()), (2, ((0, 3), (1, 1))), (1, ((2, 1),))])
        self.assertEqual([8, 4, (2, ((0, 3), (1, 1)))], [value.total, value.height, value.lead])
        self.assertEqual(16, Poly.MAX_POWER)

    def test_the_argument_is_not_changed(self):
        terms = [(0, ()), (1, ((1, 1),)), (2, ((0, 1),)), (1, ((1, 1),))]
        kept = list(terms)
        value = Poly(terms)
        self.assertEqual(kept, terms)
        terms.clear()
        self.assertEqual(((2, ((0, 1),)), (2, ((1, 1),))), value.terms)


class LimitsTest(WebCase):
    def test_terms(self):
        self.assertEqual(64, len(primes(64).terms))
        self.check_error(TooLarge, {"limit": 64}, primes, 65)
        self.assertEqual(64, len(Poly([*primes(64).terms, (0, ((99, 1),)), (3, ((5, 1),))]).terms))

    def test_digits(self):
        great = LONG - 1
        value = Poly([(great, ((great, great),))])
        self.assertEqual(((great, ((great, great),)),), value.terms)
        for terms in ([(LONG, ())], [(1, ((LONG, 1),))], [(1, ((0, LONG),))], [(great, ()), (1, ())],
                      [(1, ((0, 1), (7, LONG)))], [(10 ** 5000, ())]):
            self.check_error(TooLarge, {"limit": 120}, Poly, terms)
        self.assertEqual((), Poly([(0, ((LONG, 1),))]).terms)

    def test_too_many_terms_come_before_long_integers(self):
        terms = [(LONG, ((k, 1),)) for k in range(65)]
        self.check_error(TooLarge, {"limit": 64}, Poly, terms)
        self.check_error(TooLarge, {"limit": 120}, Poly, terms[1:])

    def test_sums(self):
        self.assertEqual(64, len((primes(63) + 1).terms))
        self.check_error(TooLarge, {"limit": 64}, lambda: primes(64) + 1)
        self.check_error(TooLarge, {"limit": 64}, lambda: 1 + primes(64))
        self.check_error(TooLarge, {"limit": 120}, lambda: Poly.of_number(LONG - 1) + 1)
        self.check_error(TooLarge, {"limit": 64}, lambda: primes(64, LONG - 1) + (primes(63) + 1))
        self.check_error(TooLarge, {"limit": 120}, lambda: primes(64, LONG - 1) + primes(64))

    def test_products(self):
        self.assertEqual(64, len((primes(32) * (Poly.of_prime(40) + Poly.of_prime(41))).terms))
        self.check_error(TooLarge, {"limit": 64}, lambda: primes(33) * (Poly.of_prime(40) + Poly.of_prime(41)))
        self.check_error(TooLarge, {"limit": 120}, lambda: Poly.of_number(10 ** 60) * 10 ** 60)
        self.assertEqual(10 ** 119, (Poly.of_number(10 ** 60) * 10 ** 59).lead[0])
        self.check_error(TooLarge, {"limit": 120}, lambda: Poly([(1, ((0, LONG - 1),))]) * X)
        many = Poly([(10 ** 70, ((k, 1),)) for k in range(20)])
        self.check_error(TooLarge, {"limit": 64}, lambda: many * many)

    def test_powers(self):
        # 66 monomials of the degree 10: the long counts do not matter.
        self.check_error(TooLarge, {"limit": 64}, Poly([(10 ** 100, ((k, 1),)) for k in range(3)]).power, 10)
        self.check_error(TooLarge, {"limit": 120}, Poly([(10 ** 100, ((k, 1),)) for k in range(3)]).power, 9)
        self.check_error(TooLarge, {"limit": 120}, Poly([(10 ** 100, ((k, 1),)) for k in range(2)]).power, 16)
        self.check_error(TooLarge, {"limit": 120}, Poly.of_number(10 ** 119).power, 2)
        self.assertEqual(17, len((X + Y).power(16).terms))

    def test_great_powers_end_soon(self):
        for value in (primes(64), primes(63) + 1, primes(10), primes(5, LONG - 1)):
            self.quickly(self.check_error, TooLarge, {"limit": 64}, value.power, 16)


class OperatorsTest(WebCase):
    def test_sums_and_products(self):
        for p, q in itertools.product(SAMPLES[:30], SAMPLES[20:50]):
            self.assertEqual(terms_of_plain(plain_sum(plain(p.terms), plain(q.terms))), (p + q).terms)
            self.assertEqual(terms_of_plain(plain_product(plain(p.terms), plain(q.terms))), (p * q).terms)
            self.assertIsInstance(p + q, Poly)

    def test_integers(self):
        for p in SAMPLES:
            for number in (0, 1, 2, 10 ** 20):
                constant = Poly.of_number(number)
                self.assertEqual((p + constant).terms, (p + number).terms)
                self.assertEqual((p + constant).terms, (number + p).terms)
                self.assertEqual((p * constant).terms, (p * number).terms)
                self.assertEqual((p * constant).terms, (number * p).terms)
        self.assertEqual(((2, ()),), (1 + ONE).terms)
        self.assertEqual((), (0 * X).terms)

    def test_errors_of_integers_come_first(self):
        for call in (lambda n: X + n, lambda n: n + X, lambda n: X * n, lambda n: n * X, lambda n: ZERO * n,
                     lambda n: n * ZERO, lambda n: n + primes(64)):
            self.check_error(InvalidPoly, {"place": 0}, call, -1)
            self.check_error(TooLarge, {"limit": 120}, call, LONG)

    def test_powers(self):
        for p in SAMPLES[:25]:
            for exponent in range(5):
                expected = terms_of_plain(plain_power(plain(p.terms), exponent))
                if len(expected) <= 64:
                    self.assertEqual(expected, (p ** exponent).terms)
                    self.assertEqual(expected, p.power(exponent).terms)

    def test_the_exponent_0(self):
        for p in (ZERO, ONE, X, X + Y, primes(64, LONG - 1)):
            self.assertEqual(ONE.terms, (p ** 0).terms)
            self.assertEqual(ONE.terms, p.power(0).terms)

    def test_exponents_up_to_16(self):
        self.assertEqual(2 ** 16, Poly.of_number(2).power(16).lead[0])
        for p in (Poly.of_number(2), X + 1, 2 * X, primes(64), Poly([(2, ((0, 1), (1, 1)))])):
            for exponent in (17, 18, 10 ** 6, 10 ** 200):
                self.check_error(TooLarge, {"limit": 16}, p.power, exponent)
                self.check_error(TooLarge, {"limit": 16}, lambda: p ** exponent)

    def test_exponents_of_any_size(self):
        great = 10 ** 119
        self.assertEqual((), self.quickly(ZERO.power, 10 ** 400).terms)
        self.assertEqual((), (ZERO ** 1).terms)
        self.assertEqual(ONE.terms, self.quickly(ONE.power, 10 ** 400).terms)
        self.assertEqual(((1, ((0, great),)),), self.quickly(X.power, great).terms)
        self.assertEqual(((1, ((0, 4 * great), (2, 2 * great))),), self.quickly((X * X * Z).power, 2 * great).terms)
        self.assertEqual(((1, ((1, 17),)),), (Y ** 17).terms)
        self.check_error(TooLarge, {"limit": 120}, X.power, LONG)
        self.check_error(TooLarge, {"limit": 120}, (X * X).power, LONG // 2)

    def test_operands_do_not_change(self):
        p, q = X + 2 * Y, X + 1
        before = (p.terms, q.terms)
        for value in (p + q, p * q, p ** 3, q.power(2), p + 1, 3 * q, (p * q) // q):
            self.assertIsInstance(value, Poly)
        self.assertEqual(before, (p.terms, q.terms))


class DividingTest(WebCase):
    def check_not_divisible(self, p, q, monomial):
        self.check_error(NotDivisible, {"monomial": monomial}, lambda: p // q)

    def test_products(self):
        for p, q in itertools.product(SAMPLES[:30], SAMPLES[30:]):
            if q.terms:
                self.assertEqual(p.terms, ((p * q) // q).terms)

    def test_every_quotient(self):
        # All small polynomials: exactly the products can be divided, and only by their factors.
        monomials = [(), ((0, 1),), ((0, 2),)]
        small = [Poly(list(zip(row, monomials))) for row in itertools.product(range(3), repeat=3)]
        for p, q in itertools.product(small, small):
            quotients = [r.terms for r in small if (q * r).terms == p.terms and q.terms]
            if quotients:
                self.assertEqual(quotients, [(p // q).terms])
            else:
                with self.assertRaises((NotDivisible, NoBound)):
                    p // q

    def test_zero(self):
        self.assertEqual((), (ZERO // X).terms)
        self.assertEqual((), (ZERO // Poly.of_number(3)).terms)
        self.check_error(NoBound, {}, lambda: ZERO // ZERO)
        self.check_not_divisible(ONE, ZERO, ())
        self.check_not_divisible(X + Y * Y, ZERO, ((1, 2),))

    def test_a_count_that_is_not_divisible(self):
        self.check_not_divisible(3 * X, Poly.of_number(2), ((0, 1),))
        self.check_not_divisible(4 * X * X + 3 * X, 2 * X, ((0, 1),))
        self.check_not_divisible(X, 2 * X, ((0, 1),))

    def test_a_monomial_that_is_not_divisible(self):
        self.check_not_divisible(X, Y, ((0, 1),))
        self.check_not_divisible(X * X + Y, X, ((1, 1),))
        self.check_not_divisible(ONE, X, ())
        self.check_not_divisible(X, X * X, ((0, 1),))

    def test_a_count_that_would_become_negative(self):
        self.check_not_divisible(X * X, X + 1, ((0, 2),))
        self.check_not_divisible(X * X + 2 * X, X + 1, ((0, 1),))
        self.check_not_divisible(X * X + X, X + 2, ((0, 2),))
        # The first step succeeds, and what it leaves is named.
        self.check_not_divisible(X * X + 2 * X * Y + Y, X + Y, ((0, 1), (1, 1)))

    def test_intermediate_integers_beyond_the_limits(self):
        # The quotient of the first terms times the other terms of the divisor is longer than 120 digits.
        p = Poly([(10 ** 119, ((0, 2),)), (1, ())])
        q = Poly([(1, ((0, 1),)), (10 ** 119, ())])
        self.check_not_divisible(p, q, ((0, 2),))
        great = 10 ** 119
        p = Poly([(1, ((0, 9 * great), (1, 3))), (1, ())])
        q = Poly([(1, ((1, 3),)), (1, ((1, 2), (2, 1)))])
        self.check_not_divisible(p * 1, q, p.lead[1])

    def test_long_quotients(self):
        great = primes(32)
        factor = Poly.of_prime(40) + Poly.of_prime(41)
        self.assertEqual(great.terms, self.quickly(lambda: (great * factor) // factor).terms)
        self.assertEqual(factor.terms, ((great * factor) // great).terms)
        steps = Poly([(1, ((0, k),)) for k in range(1, 64)] + [(1, ())])
        self.assertEqual(32, len((steps // (X + 1)).terms))
        self.assertEqual(ONE.terms, (steps // steps).terms)
        self.assertEqual(steps.terms, (steps // ONE).terms)
        self.assertEqual((10 ** 119 * X).terms, ((10 ** 119 * X * X + 10 ** 119 * X) // (X + 1)).terms)


class ValuesTest(WebCase):
    def test_values(self):
        value = Poly([(5, ()), (2, ((0, 3), (1, 1))), (1, ((2, 1),))])
        self.assertEqual(2 * 27 * 4 + 7 + 5, value([3, 4, 7]))
        self.assertEqual(2 * 27 * 4 + 7 + 5, value((3, 4, 7, 99)))
        self.assertEqual(5, value([0, 9, 0]))
        for p, q in itertools.product(SAMPLES[:20], SAMPLES[20:40]):
            for values in ([0, 0, 0], [1, 2, 3], (10 ** 50, 7, 0)):
                self.assertEqual(p(values) + q(values), (p + q)(values))
                self.assertEqual(p(values) * q(values), (p * q)(values))

    def test_no_values(self):
        self.assertEqual(0, ZERO([]))
        self.assertEqual(7, Poly.of_number(7)(()))
        self.check_error(InvalidPoly, {"place": 0}, X, [])

    def test_too_few_values(self):
        value = Poly([(1, ((0, 9),)), (1, ((1, 2),)), (1, ((2, 1),)), (1, ())])
        self.check_error(InvalidPoly, {"place": 0}, value, [])
        self.check_error(InvalidPoly, {"place": 1}, value, [1])
        self.check_error(InvalidPoly, {"place": 2}, value, (1, 1))
        self.assertEqual(4, value([1, 1, 1]))
        self.check_error(InvalidPoly, {"place": 0}, Poly.of_prime(10 ** 100), [1, 2])
        self.check_error(InvalidPoly, {"place": 0}, Poly([(1, ((0, 1), (5, 1)))]), [1, 2, 3, 4, 5])

    def test_exponents(self):
        self.assertEqual(3 ** 64, Poly([(1, ((0, 64),))])([3]))
        self.assertEqual(0, Poly([(1, ((0, 64),))])([0]))
        self.check_error(TooLarge, {"limit": 64}, Poly([(1, ((0, 65),))]), [0])
        self.check_error(TooLarge, {"limit": 64}, Poly([(1, ((0, 65),))]), [1])
        self.check_error(TooLarge, {"limit": 64}, Poly([(1, ((0, 1), (1, 10 ** 100)))]), [1, 1])
        # Each exponent counts by itself.
        self.assertEqual(2 ** 64 * 3 ** 64, Poly([(1, ((0, 64), (1, 64)))])([2, 3]))
        self.check_error(InvalidPoly, {"place": 1}, Poly([(1, ((0, 99),)), (1, ((1, 1),))]), [1])

    def test_values_are_not_changed(self):
        values = [1, 2, 3]
        (X + Y)(values)
        self.assertEqual([1, 2, 3], values)


class TextsTest(unittest.TestCase):
    def test_texts(self):
        for text, value in [
            ("0", ZERO), ("1", ONE), ("2", 2 * ONE), ("p0", X), ("2*p0", 2 * X), ("p0^2", X * X), ("p1 + 1", Y + 1),
            ("p0*p1", X * Y), ("3*p0*p1^2*p2 + p0 + p2 + 12", 3 * X * Y * Y * Z + X + Z + 12),
            ("p12^34 + 11*p0^10", Poly([(11, ((0, 10),)), (1, ((12, 34),))])),
            ("1" + "0" * 119, Poly.of_number(10 ** 119)), ("10*p0 + p10", 10 * X + Poly.of_prime(10)),
        ]:
            self.assertEqual(text, str(value))

    def test_great_integers(self):
        great = LONG - 1
        nines = "9" * 120
        self.assertEqual(f"{nines}*p{nines}^{nines}", str(Poly([(great, ((great, great),))])))


if __name__ == "__main__":
    unittest.main()
