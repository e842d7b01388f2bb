"""Points 124 to 126: splits of polynomials and of webs."""

import itertools
import unittest

from tests.helpers import WebCase
from tests.plain_polys import random_poly
from webnumbers.books import PrimeBook
from webnumbers.errors import HasLoops, NoBound, NoOddRing, TooLarge
from webnumbers.polys import Poly
from webnumbers.products import product, product_of, sum_webs
from webnumbers.shapes import full, full_with_loops, path, ring
from webnumbers.splits import full_splits, splits, web_splits
from webnumbers.webs import EDGE, EMPTY, LOOP, ONE

X, Y, Z = [Poly.of_prime(k) for k in range(3)]
ZERO, UNIT = Poly([]), Poly.of_number(1)
HALF = (2, ((0, 0), (0, 1)))


def told(pairs):
    """Return the terms in the list of lists or tuples of polynomials."""
    return [tuple(poly.terms for poly in row) for row in pairs]


def polys_of(monomials, most, total):
    """Return the polynomials but 0 with the monomials, counts up to `most` and at most the total."""
    rows = itertools.product(range(most + 1), repeat=len(monomials))
    return [Poly(list(zip(row, monomials))) for row in rows if 1 <= sum(row) <= total]


# All polynomials of one prime with the total 8 and the height 4 at most, and some of two primes.
ONE_PRIME = polys_of([(), ((0, 1),), ((0, 2),), ((0, 3),), ((0, 4),)], 3, 8)
TWO_PRIMES = polys_of([(), ((0, 1),), ((1, 1),), ((0, 2),), ((0, 1), (1, 1)), ((1, 2),)], 2, 6)


def plain_splits(polys, height):
    """Return the splits of all polynomials among those given, by multiplying all pairs of them."""
    found = {poly.terms: [] for poly in polys}
    for q, r in itertools.product(polys, polys):
        if 1 < q.total + q.height and 1 < r.total + r.height and q.terms <= r.terms and q.height + r.height <= height:
            whole = (q * r).terms
            if whole in found:
                found[whole].append((q.terms, r.terms))
    return {terms: sorted(pairs) for terms, pairs in found.items()}


def plain_full_splits(poly):
    """Return the full splits of the polynomial, by splitting lists until no entry has a split."""
    waiting = [[poly]] if poly.terms != UNIT.terms else [[]]
    found = set()
    while waiting:
        row = waiting.pop()
        for place, entry in enumerate(row):
            pairs = splits(entry)
            if pairs:
                waiting.extend([*row[:place], q, r, *row[place + 1:]] for q, r in pairs)
                break
        else:
            found.add(tuple(sorted(entry.terms for entry in row)))
    return sorted(found)


class SplitsTest(WebCase):
    def test_one_prime(self):
        expected = plain_splits(ONE_PRIME, 4)
        for poly in ONE_PRIME:
            # The counts up to 3 of the parts are not enough for these.
            if max(count for count, _ in poly.terms) <= 3 and poly.total <= 8:
                found = [pair for pair in told(splits(poly)) if all(c <= 3 for part in pair for c, _ in part)]
                self.assertEqual(expected[poly.terms], found)

    def test_two_primes(self):
        expected = plain_splits(TWO_PRIMES, 2)
        for poly in TWO_PRIMES:
            self.assertEqual(expected[poly.terms], told(splits(poly)))

    def test_kinds_of_values(self):
        found = splits((X + 1) * (X + 2) * Y)
        self.assertIs(list, found.__class__)
        for pair in found:
            self.assertEqual((tuple, 2), (pair.__class__, len(pair)))
            self.assertTrue(all(isinstance(part, Poly) for part in pair))
            self.assertEqual(((X + 1) * (X + 2) * Y).terms, (pair[0] * pair[1]).terms)
            self.assertLessEqual(pair[0].terms, pair[1].terms)
        self.assertEqual(3, len(found))

    def test_no_splits(self):
        for poly in (UNIT, X, Poly.of_number(2), Poly.of_number(7), X + 1, X + Y, 2 * X + 3, X * X + X + 1, X * X + 1,
                     X * X * X * X + X * X + 1, X ** 3 + 1):
            self.assertEqual([], splits(poly))

    def test_numbers(self):
        for number in range(1, 9):
            expected = [(a, number // a) for a in range(2, 9) if number % a == 0 and a <= number // a]
            self.assertEqual(expected, [(q.total, r.total) for q, r in splits(Poly.of_number(number))])

    def test_monomials(self):
        found = told(splits(X * X * Y))
        expected = [(X.terms, (X * Y).terms), (Y.terms, (X * X).terms)]
        self.assertEqual(sorted(tuple(sorted(pair)) for pair in expected), found)
        self.assertEqual(1, len(splits(X * X)))
        self.assertEqual(1, len(splits(2 * X)))
        self.assertEqual(3, len(splits(X ** 6)))
        six = Poly([(1, tuple((k, 1) for k in range(6)))])
        self.assertEqual(31, len(self.quickly(splits, six)))

    def test_products(self):
        for p, q in itertools.product([random_poly(seed, most=2, count=2, exponent=1) for seed in range(24)], repeat=2):
            whole = p * q
            if whole.terms and whole.total <= 8 and whole.height <= 6 and UNIT.terms not in (p.terms, q.terms):
                self.assertIn(tuple(sorted([p.terms, q.terms])), told(splits(whole)))

    def test_errors(self):
        for function in (splits, full_splits):
            self.check_error(NoBound, {}, function, ZERO)
            for poly in (Poly.of_number(9), 9 * X, (X + 1) ** 4, Poly([(1, ((k, 1),)) for k in range(9)]), 9 * X ** 7,
                         Poly.of_number(10 ** 119)):
                self.check_error(TooLarge, {"limit": 8}, function, poly)
            for poly in (X ** 7, 8 * X ** 7, X ** 4 * Y ** 3, X ** 7 + 1, X + Y ** 7, X ** (10 ** 100)):
                self.check_error(TooLarge, {"limit": 6}, function, poly)

    def test_the_edges_of_the_limits(self):
        self.assertEqual(1, len(splits((X + 1) ** 2 * (Y + 1))[:1]))
        for poly in (8 * X ** 6, (X + 1) ** 3 * X ** 3, X ** 3 * Y ** 3, Poly.of_number(8), X ** 6 + Y ** 6,
                     Poly([(1, ((k, 6),)) for k in range(8)])):
            splits(poly)
            full_splits(poly)


class FullSplitsTest(WebCase):
    def test_example(self):
        poly = UNIT + X + X ** 2 + X ** 3 + X ** 4 + X ** 5
        expected = [tuple(part.terms for part in row)
                    for row in ([1 + X, 1 + X ** 2 + X ** 4], [1 + X + X ** 2, 1 + X ** 3])]
        self.assertEqual(sorted(tuple(sorted(row)) for row in expected), told(full_splits(poly)))

    def test_small(self):
        self.assertEqual([[]], full_splits(UNIT))
        for poly in (X, Poly.of_number(2), X + 1, X * X + Y):
            self.assertEqual([(poly.terms,)], told(full_splits(poly)))
        self.assertEqual([(((2, ()),),) * 3], told(full_splits(Poly.of_number(8))))
        self.assertEqual([(X.terms, X.terms, ((2, ()),))], told(full_splits(2 * X * X)))
        self.assertEqual([((X + 1).terms,) * 3], told(full_splits((X + 1) ** 3)))

    def test_plain_answers(self):
        for poly in ONE_PRIME[::5] + TWO_PRIMES[::2]:
            found = full_splits(poly)
            self.assertEqual(plain_full_splits(poly), told(found))
            for row in found:
                self.assertIs(list, row.__class__)
                whole = UNIT
                for entry in row:
                    self.assertEqual([], splits(entry))
                    whole = whole * entry
                self.assertEqual(poly.terms, whole.terms)

    def test_several(self):
        base = UNIT + X + X ** 2 + X ** 3 + X ** 4 + X ** 5
        found = told(full_splits(base * Y))
        self.assertEqual(2, len(found))
        self.assertEqual(plain_full_splits(base * Y), found)
        for poly in ((UNIT + X ** 3) * (UNIT + X + X ** 2), 1 + X + X ** 2 + X ** 3):
            self.assertEqual(plain_full_splits(poly), told(full_splits(poly)))

    def test_great_polynomials(self):
        six = Poly([(1, tuple((k, 1) for k in range(6)))])
        five = Poly([(1, tuple((k, 1) for k in range(5)))])
        three = Poly([(1, tuple((k, 1) for k in range(3)))])
        factors = [Poly.of_prime(k) + 1 for k in (3, 4, 5)]
        for poly, many in [(six, 6), (five * (X + Y), 6), (8 * six, 9), (three * factors[0] * factors[1] * factors[2], 6),
                           (X ** 3 * (X + 1) ** 3, 6), (4 * five * (Poly.of_prime(7) + 1), 8)]:
            found = self.quickly(full_splits, poly)
            self.assertEqual([many], [len(row) for row in found])


class WebSplitsTest(WebCase):
    def test_box(self):
        book = PrimeBook("box")
        web = product("box", EDGE, ring(3))
        found = web_splits(book, web)
        self.assertEqual([(EDGE, ring(3))], [tuple(sorted(pair)) for pair in found])
        self.assertIs(tuple, found[0].__class__)
        book = PrimeBook("box")
        web = product("box", sum_webs(EDGE, ONE), sum_webs(ring(3), ONE, ONE))
        expected = [(book.build(q), book.build(r)) for q, r in splits(book.read(web))]
        self.assertEqual(expected, web_splits(PrimeBook("box"), web))
        self.assertEqual(1, len(expected))

    def test_other_kinds(self):
        self.assertEqual([(full(2), full(3))], web_splits(PrimeBook("strong"), full(6)))
        self.assertEqual([(full_with_loops(2), full_with_loops(2))], web_splits(PrimeBook("direct"), full_with_loops(4)))
        book = PrimeBook("direct")
        whole = product_of("direct", HALF, HALF, ring(3))
        self.assertEqual(told(splits(book.read(whole))),
                         [(book.read(a).terms, book.read(b).terms) for a, b in web_splits(book, whole)])

    def test_no_splits(self):
        for web in (ONE, EDGE, ring(5), (2, ()), path(9)):
            self.assertEqual([], web_splits(PrimeBook("box"), web))

    def test_errors_of_reading(self):
        book = PrimeBook("box")
        self.check_error(HasLoops, {"node": 0}, web_splits, book, LOOP)
        self.check_error(TooLarge, {"limit": 9}, web_splits, book, path(10))
        self.check_error(NoOddRing, {"node": 1}, web_splits, PrimeBook("direct"), sum_webs(LOOP, EDGE))
        self.assertEqual((), book.primes)

    def test_errors_of_splits(self):
        self.check_error(NoBound, {}, web_splits, PrimeBook("strong"), EMPTY)
        book = PrimeBook("box")
        self.check_error(TooLarge, {"limit": 8}, web_splits, book, sum_webs(ring(5), (8, ())))
        # What has been read remains in the book.
        self.assertEqual((ring(5),), book.primes)
        self.assertEqual([], web_splits(book, (7, ())))
        book = PrimeBook("direct")
        self.check_error(TooLarge, {"limit": 8}, web_splits, book, sum_webs(*[HALF] * 9))
        self.assertEqual((HALF,), book.primes)


if __name__ == "__main__":
    unittest.main()
