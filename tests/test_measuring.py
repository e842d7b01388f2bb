"""Point 113: measures of great webs, and webs that are divided by way of their polynomials."""

import itertools
import unittest

from tests.helpers import WebCase, moved, plain_components, random_row
from tests.plain_polys import random_poly
from tests.test_books import HALF, KINDS, PARTS, UNITS
from webnumbers.books import PrimeBook
from webnumbers.errors import HasLoops, InvalidPoly, NoBound, NoOddRing, NoRoot, NotConnected, NotDivisible, TooLarge
from webnumbers.measures import measure
from webnumbers.measuring import common_factor, measure_poly, web_quotient, web_root
from webnumbers.polys import Poly
from webnumbers.products import power_of, product, product_of, sum_webs
from webnumbers.renamings import find_renaming
from webnumbers.shapes import full, full_with_loops, path, ring
from webnumbers.webs import EDGE, EMPTY, LOOP, ONE

GREAT = 10 ** 119


def book_of(kind):
    """Return a book of the kind with the first three parts as its primes."""
    book = PrimeBook(kind)
    book.read(sum_webs(*PARTS[kind][:3]))
    return book


class MeasureTest(WebCase):
    def test_built_webs(self):
        tried = 0
        for kind in KINDS:
            book = book_of(kind)
            for seed in range(150):
                poly = random_poly(seed, most=3, exponent=2, count=3)
                try:
                    web = book.build(poly)
                except TooLarge:
                    continue
                tried += 1
                nodes, ties, _ = measure(web)
                whole = (nodes, ties, len(plain_components(web)))
                self.assertIs(tuple, measure_poly(book, poly, 7).__class__)
                for modulus in (1, 2, 5, 7, 64, 1000, 10 ** 30):
                    self.assertEqual(tuple(n % modulus for n in whole), measure_poly(book, poly, modulus))
        self.assertGreater(tried, 100)

    def test_great_webs(self):
        modulus = 1000003
        for exponent in (0, 1, 2, 63, 64, 1000, 123456789, GREAT):
            two, three, four = [pow(base, exponent, modulus) for base in (2, 3, 4)]
            poly = Poly([(1, ((0, exponent),) if exponent else ())])
            box, strong, direct = PrimeBook("box"), PrimeBook("strong"), PrimeBook("direct")
            box.read(EDGE)
            strong.read(EDGE)
            direct.read(HALF)
            self.assertEqual((two, exponent * two % modulus, 1), self.quickly(measure_poly, box, poly, modulus))
            self.assertEqual((two, (four - two) % modulus, 1), self.quickly(measure_poly, strong, poly, modulus))
            self.assertEqual((two, three, 1), self.quickly(measure_poly, direct, poly, modulus))

    def test_great_counts(self):
        for kind in KINDS:
            book = book_of(kind)
            nodes, ties, _ = measure(product(kind, *PARTS[kind][:2]))
            alone = measure(UNITS[kind])
            poly = Poly([(GREAT, ((0, 1), (1, 1))), (GREAT - 1, ())])
            for modulus in (1, 17, 10 ** 6, 10 ** 200):
                expected = (GREAT * nodes + GREAT - 1, GREAT * ties + (GREAT - 1) * alone[1], 2 * GREAT - 1)
                self.assertEqual(tuple(n % modulus for n in expected), measure_poly(book, poly, modulus))

    def test_small(self):
        for kind in KINDS:
            book = PrimeBook(kind)
            self.assertEqual((0, 0, 0), measure_poly(book, Poly([]), 10))
            self.assertEqual((0, 0, 0), measure_poly(book, Poly.of_number(5), 1))
            self.assertEqual((5, 5 if kind == "direct" else 0, 5), measure_poly(book, Poly.of_number(5), 10))

    def test_primes_that_are_not_in_the_book(self):
        for kind in KINDS:
            book = book_of(kind)
            self.check_error(InvalidPoly, {"place": 0}, measure_poly, book, Poly.of_prime(3), 10)
            self.check_error(InvalidPoly, {"place": 1}, measure_poly, book,
                             Poly([(1, ((0, 99),)), (1, ((2, 1), (7, 2))), (1, ((5, 1),))]), 1)
            self.assertEqual(3, len(book.primes))


class DividingTest(WebCase):
    def same(self, a, b):
        """Check that the webs have equally many nodes and the same polynomial, whatever the book."""
        self.assertIsNotNone(find_renaming(a, b))

    def test_quotients(self):
        for kind in KINDS:
            for seed, (a, b) in enumerate(itertools.product([EMPTY, UNITS[kind], *PARTS[kind]], PARTS[kind])):
                whole = product(kind, a, b)
                whole = moved(whole, random_row(seed, whole[0]))
                book = PrimeBook(kind)
                self.same(a, web_quotient(book, whole, b))
                if a[0]:
                    self.same(b, web_quotient(book, whole, a))

    def test_quotients_of_sums(self):
        for kind in KINDS:
            p, q, r = PARTS[kind][:3]
            book = PrimeBook(kind)
            a, b = sum_webs(p, q), sum_webs(UNITS[kind], UNITS[kind], r)
            self.same(a, web_quotient(book, product(kind, a, b), b))
            self.same(b, web_quotient(book, product(kind, a, b), a))

    def test_quotients_are_built_by_the_book(self):
        book = PrimeBook("box")
        a, b = ring(3), EDGE
        found = web_quotient(book, sum_webs(product("box", a, b), b, b), b)
        self.assertEqual(book.build(book.read(a) + 2), found)

    def test_errors_of_quotients(self):
        book = PrimeBook("box")
        book.read(EDGE)
        self.check_error(NoBound, {}, web_quotient, book, EMPTY, EMPTY)
        self.check_error(NotDivisible, {"monomial": ((0, 1),)}, web_quotient, book, EDGE, EMPTY)
        self.check_error(NotDivisible, {"monomial": ()}, web_quotient, book, ONE, EDGE)
        # The errors of reading come first, those of the first web before those of the second one.
        self.check_error(HasLoops, {"node": 0}, web_quotient, book, LOOP, (3, ((2, 2),)))
        self.check_error(HasLoops, {"node": 2}, web_quotient, book, ONE, (3, ((2, 2),)))
        self.check_error(TooLarge, {"limit": 9}, web_quotient, book, path(10), (3, ((2, 2),)))
        self.check_error(TooLarge, {"limit": 9}, web_quotient, book, EMPTY, path(10))
        self.check_error(NoOddRing, {"node": 0}, web_quotient, PrimeBook("direct"), EDGE, EMPTY)

    def test_primes_stay_in_the_book(self):
        book = PrimeBook("box")
        self.check_error(NotDivisible, {"monomial": ((0, 1),)}, web_quotient, book, ring(5), ring(3))
        self.assertEqual((ring(5), ring(3)), book.primes)
        self.check_error(HasLoops, {"node": 0}, web_quotient, book, ring(7), LOOP)
        self.assertEqual((ring(5), ring(3), ring(7)), book.primes)
        self.check_error(NoRoot, {"degree": 2}, web_root, book, EDGE, 2)
        self.assertEqual((ring(5), ring(3), ring(7), EDGE), book.primes)
        self.check_error(HasLoops, {"node": 0}, common_factor, book, path(3), LOOP)
        self.assertEqual(path(3), book.primes[-1])

    def test_roots(self):
        for kind in KINDS:
            for seed, part in enumerate(PARTS[kind]):
                for degree in (1, 2, 3):
                    if part[0] ** degree <= 64:
                        web = power_of(kind, part, degree)
                        book = PrimeBook(kind)
                        self.same(part, web_root(book, moved(web, random_row(seed, web[0])), degree))
            both = sum_webs(PARTS[kind][0], UNITS[kind])
            self.same(both, web_root(PrimeBook(kind), power_of(kind, both, 3), 3))

    def test_roots_of_units(self):
        for kind in KINDS:
            book = PrimeBook(kind)
            for degree in (1, 2, 64):
                self.assertEqual(EMPTY, web_root(book, EMPTY, degree))
                self.assertEqual(UNITS[kind], web_root(book, UNITS[kind], degree))

    def test_errors_of_roots(self):
        book = PrimeBook("strong")
        self.check_error(NoRoot, {"degree": 2}, web_root, book, sum_webs(ONE, ONE), 2)
        self.check_error(NoRoot, {"degree": 3}, web_root, book, full(4), 3)
        self.check_error(TooLarge, {"limit": 64}, web_root, book, ONE, 65)
        self.check_error(HasLoops, {"node": 0}, web_root, book, LOOP, 65)
        self.check_error(TooLarge, {"limit": 9}, web_root, book, path(10), 65)

    def test_common_factors(self):
        for kind in KINDS:
            p, q, r = PARTS[kind][:3]
            for parts, others, expected in [((p, q), (q, r), (q,)), ((p, p, q), (p, p), (p, p)), ((p, q), (r,), ()),
                                            ((p, p), (p, q, p), (p, p)), ((), (p, q), ()), ((r,), (r,), (r,))]:
                a, b = product_of(kind, *parts), product_of(kind, *others)
                found = common_factor(PrimeBook(kind), a, b)
                book = PrimeBook(kind)
                self.assertEqual(book.read(product_of(kind, *expected)).terms, book.read(found).terms)
        self.assertEqual(full_with_loops(6), common_factor(PrimeBook("direct"), full_with_loops(12), full_with_loops(18)))

    def test_the_order_of_the_errors_of_common_factors(self):
        for kind in KINDS:
            book = PrimeBook(kind)
            two = sum_webs(UNITS[kind], UNITS[kind])
            three = sum_webs(two, UNITS[kind])
            self.check_error(NotConnected, {"pieces": 0}, common_factor, book, EMPTY, two)
            self.check_error(NotConnected, {"pieces": 2}, common_factor, book, two, three)
            self.check_error(NotConnected, {"pieces": 3}, common_factor, book, PARTS[kind][0], three)
            self.check_error(NotConnected, {"pieces": 0}, common_factor, book, PARTS[kind][0], EMPTY)
            self.assertEqual((), book.primes)
        self.check_error(NotConnected, {"pieces": 2}, common_factor, PrimeBook("box"), LOOP, (2, ()))
        self.check_error(HasLoops, {"node": 0}, common_factor, PrimeBook("box"), LOOP, ONE)
        self.check_error(HasLoops, {"node": 1}, common_factor, PrimeBook("strong"), EDGE, (2, ((0, 1), (1, 1))))
        self.check_error(NoOddRing, {"node": 0}, common_factor, PrimeBook("direct"), LOOP, EDGE)
        self.check_error(TooLarge, {"limit": 9}, common_factor, PrimeBook("direct"), ring(11), EDGE)


if __name__ == "__main__":
    unittest.main()
