"""Points 110 to 112: books of primes."""

import itertools
import unittest

from tests.helpers import WebCase, are_same, moved, random_joined_web, random_row, random_web
from webnumbers.books import PrimeBook
from webnumbers.boxes import box_factors
from webnumbers.directs import direct_factors
from webnumbers.errors import HasLoops, InvalidKind, InvalidPoly, NoOddRing, TooLarge
from webnumbers.pieces import pieces, sides
from webnumbers.polys import Poly
from webnumbers.products import power_of, product, product_of, sum_webs
from webnumbers.renamings import find_renaming
from webnumbers.shapes import full, full_with_loops, path, ring, star
from webnumbers.strongs import strong_factors
from webnumbers.twins import blown_up
from webnumbers.webs import EDGE, EMPTY, LOOP, ONE

KINDS = ("box", "strong", "direct")
FACTORS = {"box": box_factors, "strong": strong_factors, "direct": direct_factors}
HALF = (2, ((0, 0), (0, 1)))
TAILED = (4, ((0, 1), (0, 2), (0, 3), (1, 2)))
PARTS = {
    "box": [EDGE, path(3), ring(3), ring(5), star(4), TAILED],
    "strong": [EDGE, path(3), ring(3), ring(4), star(4), TAILED],
    "direct": [HALF, ring(3), ring(5), full(4), full_with_loops(2), full_with_loops(3), blown_up(HALF, (1, 2))],
}
UNITS = {"box": ONE, "strong": ONE, "direct": LOOP}


def terms_of(book, web):
    return book.read(web).terms


def webs_of(kind):
    """Return webs of several components, made from products of parts, also renamed."""
    parts = PARTS[kind]
    webs = [EMPTY, UNITS[kind], sum_webs(UNITS[kind], UNITS[kind], UNITS[kind]), *parts]
    for seed, (a, b, c) in enumerate(itertools.product(parts, parts, [UNITS[kind], *parts])):
        web = sum_webs(product(kind, a, b), c)
        if web[0] <= 24 and seed % 3 == 0:
            webs.append(web)
            webs.append(moved(web, random_row(seed, web[0])))
    return webs


class MakingTest(WebCase):
    def test_kinds(self):
        for kind in KINDS:
            self.assertEqual(kind, PrimeBook(kind).kind)
        for kind in ("levels", "sum", "", "Box", "box ", "strong direct"):
            self.check_error(InvalidKind, {"kind": kind}, PrimeBook, kind)

    def test_a_new_book_is_empty(self):
        for kind in KINDS:
            book = PrimeBook(kind)
            self.assertEqual((), book.primes)
            self.assertEqual([], list(book))
            self.assertIsNone(book.place_of(EDGE))
            self.assertEqual((), book.primes)

    def test_books_are_independent(self):
        first, second = PrimeBook("box"), PrimeBook("box")
        first.read(ring(5))
        second.read(EDGE)
        self.assertEqual([(ring(5),), (EDGE,)], [first.primes, second.primes])

    def test_iteration(self):
        book = PrimeBook("box")
        book.read(sum_webs(ring(5), EDGE, ring(3)))
        self.assertEqual([ring(5), EDGE, ring(3)], list(book))
        self.assertEqual([5, 2, 3], [web[0] for web in book])
        self.assertEqual((ring(5), EDGE, ring(3)), book.primes)
        self.assertIs(tuple, book.primes.__class__)


class PlacesTest(WebCase):
    def test_places(self):
        book = PrimeBook("box")
        book.read(sum_webs(ring(5), EDGE, TAILED, ring(9)))
        for place, web in enumerate([ring(5), EDGE, TAILED, ring(9)]):
            for seed in range(5):
                self.assertEqual(place, book.place_of(moved(web, random_row(seed, web[0]))))

    def test_unknown_webs(self):
        book = PrimeBook("direct")
        book.read(ring(9))
        for web in (EMPTY, ONE, LOOP, ring(3), path(9), (9, ()), ring(7)):
            self.assertIsNone(book.place_of(web))
        self.assertEqual((ring(9),), book.primes)

    def test_ten_nodes(self):
        for book in (PrimeBook("box"), PrimeBook("direct")):
            for web in (path(10), (10, ()), full_with_loops(64)):
                self.check_error(TooLarge, {"limit": 9}, book.place_of, web)
            self.assertIsNone(book.place_of(path(9)))


class ReadingTest(WebCase):
    def test_example(self):
        self.assertEqual(((1, ((0, 2),)),), terms_of(PrimeBook("box"), (4, ((0, 1), (0, 2), (1, 3), (2, 3)))))

    def test_empty_and_units(self):
        for kind in KINDS:
            book = PrimeBook(kind)
            self.assertIsInstance(book.read(EMPTY), Poly)
            self.assertEqual((), terms_of(book, EMPTY))
            self.assertEqual(((1, ()),), terms_of(book, UNITS[kind]))
            self.assertEqual(((64, ()),), terms_of(book, sum_webs(*[UNITS[kind]] * 64)))
            self.assertEqual((), book.primes)

    def test_one_component(self):
        book = PrimeBook("strong")
        self.assertEqual(((1, ((0, 1), (1, 1))),), terms_of(book, full(6)))
        self.assertEqual((full(2), full(3)), book.primes)
        self.assertEqual(((1, ((0, 3), (1, 1))),), terms_of(book, full(24)))
        book = PrimeBook("direct")
        self.assertEqual(((1, ((0, 2), (1, 1))),), terms_of(book, full_with_loops(12)))
        self.assertEqual((full_with_loops(2), full_with_loops(3)), book.primes)

    def test_several_components(self):
        book = PrimeBook("box")
        web = sum_webs(product("box", ring(3), EDGE), ring(3), EDGE, ONE, ring(3))
        poly = book.read(web)
        self.assertEqual(2, len(book.primes))
        place = {book.primes[k][0]: k for k in range(2)}
        p, q = Poly.of_prime(place[3]), Poly.of_prime(place[2])
        self.assertEqual((p * q + 2 * p + q + 1).terms, poly.terms)

    def test_the_order_of_primes(self):
        for kind in KINDS:
            for web in webs_of(kind):
                book = PrimeBook(kind)
                book.read(web)
                expected = []
                for piece in pieces(web):
                    for factor in FACTORS[kind](piece):
                        if not any(are_same([factor], [prime]) for prime in expected):
                            expected.append(factor)
                # The primes are the factors as they are, not renamed.
                self.assertEqual(tuple(expected), book.primes)

    def test_known_primes_keep_their_numbers(self):
        for kind in KINDS:
            book = PrimeBook(kind)
            known = ()
            for web in webs_of(kind)[::2]:
                book.read(web)
                self.assertEqual(known, book.primes[:len(known)])
                known = book.primes
            for first, second in itertools.combinations(known, 2):
                self.assertFalse(are_same([first], [second]))

    def test_equal_primes_in_different_numberings(self):
        for kind in KINDS:
            book = PrimeBook(kind)
            for seed, part in enumerate(PARTS[kind]):
                web = sum_webs(*[moved(part, random_row(seed + k, part[0])) for k in range(4)])
                poly = book.read(web)
                self.assertEqual(1, len(poly.terms))
                self.assertEqual(4, poly.total)
                self.assertEqual(poly.terms, terms_of(book, moved(web, random_row(seed, web[0]))))

    def test_sums_and_products(self):
        for kind in KINDS:
            book = PrimeBook(kind)
            webs = [web for web in webs_of(kind) if web[0] <= 8]
            for a, b in itertools.product(webs[::2], webs):
                self.assertEqual((book.read(a) + book.read(b)).terms, terms_of(book, sum_webs(a, b)))
                self.assertEqual((book.read(a) * book.read(b)).terms, terms_of(book, product(kind, a, b)))

    def test_webs_of_the_same_sort(self):
        for kind in KINDS:
            book = PrimeBook(kind)
            webs = [random_web(seed, 4 + seed % 3, loops=kind == "direct", share=0.6) for seed in range(40)]
            webs = [web for web in webs if kind != "direct" or all(sides(piece) is None for piece in pieces(web))]
            for a, b in itertools.product(webs, webs):
                if a[0] == b[0]:
                    same = find_renaming(a, b) is not None
                    self.assertEqual(same, terms_of(book, a) == terms_of(book, b))

    def test_greatest_webs(self):
        for kind, web in [("box", power_of("box", EDGE, 6)), ("strong", full(64)), ("direct", full_with_loops(64)),
                          ("box", sum_webs(*[ring(9)] * 7)), ("direct", sum_webs(*[ring(9)] * 7)),
                          ("strong", sum_webs(*[random_joined_web(seed, 9) for seed in range(7)]))]:
            book = PrimeBook(kind)
            poly = self.quickly(book.read, web)
            self.assertEqual(len(pieces(web)), poly.total)


class ReadingErrorsTest(WebCase):
    def check_refused(self, book, error, told, web):
        before = book.primes
        self.check_error(error, told, book.read, web)
        self.assertEqual(before, book.primes)

    def test_loops(self):
        for kind in ("box", "strong"):
            book = PrimeBook(kind)
            book.read(EDGE)
            for web, node in [(LOOP, 0), (sum_webs(ring(3), LOOP), 3), ((64, ((60, 60), (63, 63))), 60),
                              (sum_webs(path(10), (3, ((0, 1), (1, 1), (2, 2)))), 11)]:
                self.check_refused(book, HasLoops, {"node": node}, web)

    def test_no_odd_ring(self):
        book = PrimeBook("direct")
        book.read(LOOP)
        for web, node in [(ONE, 0), (EDGE, 0), (sum_webs(ring(3), ring(4)), 3), (sum_webs(LOOP, ring(5), EDGE, ONE), 6),
                          ((5, ((0, 2), (1, 1), (3, 4))), 0), ((5, ((0, 0), (1, 3), (2, 2), (2, 4))), 1),
                          (sum_webs(ring(11), path(2)), 11)]:
            self.check_refused(book, NoOddRing, {"node": node}, web)

    def test_factors_with_ten_nodes(self):
        for kind, web in [("box", path(10)), ("strong", path(10)), ("direct", ring(11)), ("box", ring(64)),
                          ("strong", star(64)), ("direct", full_with_loops(11)), ("direct", full(64))]:
            for known in (UNITS[kind], PARTS[kind][1]):
                book = PrimeBook(kind)
                book.read(known)
                self.check_refused(book, TooLarge, {"limit": 9}, web)
                # No prime of another component is read, either.
                self.check_refused(book, TooLarge, {"limit": 9}, sum_webs(*PARTS[kind][:2], web)
                                   if web[0] < 40 else web)

    def test_a_great_factor_of_a_product(self):
        self.check_refused(PrimeBook("box"), TooLarge, {"limit": 9}, product("box", EDGE, path(10)))
        self.check_refused(PrimeBook("strong"), TooLarge, {"limit": 9}, product("strong", path(10), full(3)))
        self.check_refused(PrimeBook("direct"), TooLarge, {"limit": 9}, product("direct", HALF, ring(11)))

    def test_nine_nodes_are_not_too_many(self):
        for kind, web in [("box", path(9)), ("strong", ring(9)), ("direct", full(9))]:
            self.assertEqual(((1, ((0, 1),)),), terms_of(PrimeBook(kind), web))


class BuildingTest(WebCase):
    def test_there_and_back(self):
        for kind in KINDS:
            book = PrimeBook(kind)
            for web in webs_of(kind):
                poly = book.read(web)
                built = book.build(poly)
                self.check_web(built)
                self.assertEqual(poly.terms, terms_of(book, built))
                self.assertTrue(built[0] == web[0] and len(built[1]) == len(web[1]))
                if web[0] <= 9:
                    self.assertIsNotNone(find_renaming(web, built))

    def test_the_numbers_of_the_nodes(self):
        for kind in KINDS:
            book = PrimeBook(kind)
            p, q = PARTS[kind][1], PARTS[kind][0]
            book.read(sum_webs(p, q))
            self.assertEqual((p, q), book.primes)
            square = power_of(kind, p, 2)
            expected = sum_webs(product_of(kind, p, p, q), square, square, p, UNITS[kind], UNITS[kind], UNITS[kind])
            poly = Poly([(3, ()), (1, ((0, 1),)), (2, ((0, 2),)), (1, ((0, 2), (1, 1)))])
            self.assertEqual(expected, book.build(poly))
            self.assertEqual(product_of(kind, p, q, q), book.build(Poly([(1, ((0, 1), (1, 2)))])))

    def test_small(self):
        for kind in KINDS:
            book = PrimeBook(kind)
            self.assertEqual(EMPTY, book.build(Poly([])))
            self.assertEqual(UNITS[kind], book.build(Poly.of_number(1)))
            self.assertEqual(sum_webs(*[UNITS[kind]] * 64), book.build(Poly.of_number(64)))

    def test_64_nodes(self):
        book = PrimeBook("box")
        book.read(sum_webs(EDGE, ring(3)))
        for terms in ([(1, ((0, 6),))], [(32, ((0, 1),))], [(21, ((1, 1),)), (1, ())], [(1, ((0, 1), (1, 3))), (10, ())]):
            self.assertEqual(64, book.build(Poly(terms))[0])
            self.check_error(TooLarge, {"limit": 64}, book.build, Poly([*terms, (1, ())]))
        great = 10 ** 119
        for terms in ([(1, ((0, 7),))], [(great, ())], [(1, ((0, great),))], [(1, ((0, great), (1, great)))],
                      [(great, ((1, great),)), (1, ())], [(1, ((0, 65),))], [(65, ())]):
            self.quickly(self.check_error, TooLarge, {"limit": 64}, book.build, Poly(terms))

    def test_invalid_terms_come_before_large_webs(self):
        book = PrimeBook("direct")
        self.check_error(InvalidPoly, {"place": 0}, book.build, Poly.of_prime(0))
        book.read(HALF)
        self.check_error(InvalidPoly, {"place": 1}, book.build, Poly([(99, ((0, 99),)), (1, ((1, 1),)), (1, ())]))
        self.check_error(InvalidPoly, {"place": 0}, book.build, Poly([(1, ((0, 1), (7, 1))), (1, ((1, 1),))]))
        self.check_error(InvalidPoly, {"place": 2}, book.build,
                         Poly([(1, ((0, 3),)), (1, ((0, 2),)), (1, ((10 ** 119, 1),))]))
        self.assertEqual((HALF,), book.primes)


if __name__ == "__main__":
    unittest.main()
