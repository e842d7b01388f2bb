"""Points 91 to 94: strong products and their prime factors."""

import itertools
import unittest

from tests.helpers import (
    WebCase, are_same, every_web, joined, joined_webs, moved, plain_product, random_joined_web, random_row, random_web,
    small_webs, ties, web_of_ties,
)
from webnumbers.directs import direct_coordinates, direct_factors
from webnumbers.errors import HasLoops, NotConnected
from webnumbers.pieces import is_connected
from webnumbers.products import power_of, product, product_of, sum_webs
from webnumbers.renamings import find_renaming
from webnumbers.shapes import full, path, ring, star
from webnumbers.strongs import is_strong_prime, strong_coordinates, strong_factors, with_loops, without_loops
from webnumbers.webs import EDGE, EMPTY, LOOP, ONE

PRIMES = [EDGE, path(3), ring(4), ring(5), full(3), star(4), (4, ((0, 1), (0, 2), (0, 3), (1, 2)))]
FUNCTIONS = (strong_factors, strong_coordinates, is_strong_prime)


def products_of_primes():
    """Return strong products of two and of three primes, also renamed, with the primes."""
    webs = []
    for seed, (a, b) in enumerate(itertools.product(PRIMES, PRIMES)):
        web = plain_product("strong", a, b)
        webs.append((web, [a, b]))
        webs.append((moved(web, random_row(seed, web[0])), [a, b]))
    for seed, parts in enumerate([(EDGE, path(3), full(3)), (path(3), EDGE, EDGE), (path(3), path(3), path(3)),
                                  (full(3), ring(4), EDGE)]):
        web = product_of("strong", *parts)
        webs.append((web, list(parts)))
        webs.append((moved(web, random_row(seed, web[0])), list(parts)))
    return webs


PRODUCTS = products_of_primes()
SAMPLES = joined_webs(4) + [random_joined_web(seed, 5 + seed % 5) for seed in range(80)]


class LoopsTest(WebCase):
    def test_all_nodes(self):
        for web in small_webs(3) + [random_web(seed, 8) for seed in range(30)]:
            expected = web_of_ties(web[0], [*web[1], *[(node, node) for node in range(web[0])]])
            self.assertEqual(expected, with_loops(web))
            self.assertEqual((web[0], tuple(pair for pair in web[1] if pair[0] != pair[1])), without_loops(web))
            self.check_web(with_loops(web))
            self.check_web(without_loops(web))

    def test_small(self):
        self.assertEqual([EMPTY, EMPTY], [with_loops(EMPTY), without_loops(EMPTY)])
        self.assertEqual([LOOP, LOOP], [with_loops(ONE), with_loops(LOOP)])
        self.assertEqual([ONE, ONE], [without_loops(ONE), without_loops(LOOP)])
        self.assertEqual((2, ((0, 0), (0, 1), (1, 1))), with_loops((2, ((0, 0), (0, 1)))))
        self.assertEqual(full(64), without_loops(with_loops(full(64))))

    def test_strong_products_are_direct_products_with_loops(self):
        for a, b in itertools.product(small_webs(3, loops=False), repeat=2):
            together = product("direct", with_loops(a), with_loops(b))
            self.assertEqual(together, with_loops(product("strong", a, b)))


class StrongFactorsTest(WebCase):
    def check_product(self, web):
        """Check that the coordinates show that the web is the strong product of the factors."""
        factors = strong_factors(web)
        coordinates = strong_coordinates(web)
        every = list(itertools.product(*[range(factor[0]) for factor in factors]))
        self.assertEqual(every, sorted(coordinates))
        parts = [ties(factor) for factor in factors]
        pairs = ties(web)
        for u, v in itertools.permutations(range(web[0]), 2):
            entries = list(zip(coordinates[u], coordinates[v]))
            together = all(x == y or (x, y) in part for (x, y), part in zip(entries, parts))
            self.assertEqual(together, (u, v) in pairs)

    def test_example(self):
        self.assertEqual([(2, ((0, 1),)), (3, ((0, 1), (0, 2), (1, 2)))], strong_factors(full(6)))

    def test_by_direct_factors(self):
        for web in SAMPLES + [web for web, _ in PRODUCTS]:
            factors = direct_factors(with_loops(web))
            self.assertEqual([without_loops(factor) for factor in factors], strong_factors(web))
            self.assertEqual(direct_coordinates(with_loops(web)), strong_coordinates(web))

    def test_the_web_is_the_product_of_its_factors(self):
        for web in SAMPLES + [web for web, _ in PRODUCTS]:
            self.check_product(web)

    def test_the_product_is_of_the_same_sort(self):
        for web in [web for web in SAMPLES + [web for web, _ in PRODUCTS] if web[0] <= 9]:
            self.assertIsNotNone(find_renaming(web, product_of("strong", *strong_factors(web))))

    def test_factors_of_products(self):
        for web, parts in PRODUCTS:
            factors = strong_factors(web)
            self.assertTrue(are_same(parts, factors))
            self.assertIs(False, is_strong_prime(web))
            for factor in factors:
                self.check_web(factor)
                self.assertTrue(joined(factor))
                self.assertIs(True, is_strong_prime(factor))
                self.assertEqual(1, len(strong_factors(factor)))

    def test_factors_of_renamed_webs(self):
        for seed, web in enumerate(SAMPLES):
            other = moved(web, random_row(seed, web[0]))
            self.assertTrue(are_same(strong_factors(web), strong_factors(other)))

    def test_one(self):
        self.assertEqual([], strong_factors(ONE))
        self.assertEqual([()], strong_coordinates(ONE))
        self.assertIs(False, is_strong_prime(ONE))

    def test_full_webs(self):
        for size in range(1, 65):
            numbers = [factor[0] for factor in strong_factors(full(size))]
            self.assertEqual([p for p in range(2, size + 1) for k in range(1, 7)
                              if size % p ** k == 0 and all(p % q for q in range(2, p))], numbers)
            self.assertEqual([full(number) for number in numbers], strong_factors(full(size)))
            self.assertIs(len(numbers) == 1, is_strong_prime(full(size)))

    def test_primes(self):
        for web in PRIMES + [path(64), ring(64), star(64)]:
            self.assertIs(True, is_strong_prime(web))

    def test_which_webs_are_prime(self):
        twos = every_web(2, loops=False)
        threes = every_web(3, loops=False)
        composed = [plain_product("strong", a, b) for a, b in itertools.product(twos, twos + threes)]
        for web in [web for web in SAMPLES if web[0] in (4, 6)]:
            same = [other for other in composed if len(other[1]) == len(web[1]) and other[0] == web[0]]
            found = any(find_renaming(web, other) is not None for other in same)
            self.assertIs(not found, is_strong_prime(web))

    def test_greatest_webs(self):
        for web in (power_of("strong", path(4), 3), product("strong", path(8), ring(8)), power_of("strong", EDGE, 6)):
            self.quickly(self.check_product, web)

    def test_a_changed_list_does_not_change_the_next_answer(self):
        strong_factors(EDGE).clear()
        strong_coordinates(EDGE).clear()
        self.assertEqual([EDGE], strong_factors(EDGE))
        self.assertEqual([(0,), (1,)], strong_coordinates(EDGE))


class ErrorsTest(WebCase):
    def test_loops_come_first(self):
        for web, node in [(LOOP, 0), ((3, ((1, 1), (2, 2))), 1), (sum_webs(path(3), LOOP), 3),
                          ((64, ((63, 63),)), 63), (with_loops(path(4)), 0)]:
            for function in FUNCTIONS:
                self.check_error(HasLoops, {"node": node}, function, web)

    def test_not_connected(self):
        for web, many in [(EMPTY, 0), ((2, ()), 2), (sum_webs(EDGE, ONE, EDGE), 3), ((64, ()), 64)]:
            self.assertFalse(is_connected(web))
            for function in FUNCTIONS:
                self.check_error(NotConnected, {"pieces": many}, function, web)


if __name__ == "__main__":
    unittest.main()
