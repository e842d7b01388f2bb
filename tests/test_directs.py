"""Points 87 to 90: the prime factors of direct products."""

import itertools
import math
import unittest

from tests.helpers import (
    WebCase, are_same, every_web, joined, moved, plain_product, plain_sort, random_row, random_web, small_webs, ties,
    web_of_ties,
)
from webnumbers.boxes import box_coordinates
from webnumbers.directs import direct_coordinates, direct_factors, full_part, is_direct_prime
from webnumbers.errors import NoOddRing, NotConnected
from webnumbers.groups import direct_groups
from webnumbers.pieces import sides
from webnumbers.products import power_of, product, product_of, sum_webs
from webnumbers.renamings import find_renaming
from webnumbers.shapes import full, full_with_loops, path, ring, star
from webnumbers.skeletons import skeleton
from webnumbers.twins import blown_up, thin, twin_classes
from webnumbers.webs import EDGE, EMPTY, LOOP, ONE

HALF = (2, ((0, 0), (0, 1)))
TAILED = (4, ((0, 1), (0, 2), (0, 3), (1, 2)))
# The two classes of this web belong to one group.
TWO_CLASSES = (4, ((0, 0), (0, 1), (1, 2), (2, 3), (3, 3)))
SAMPLES = [web for web in small_webs(3) + [random_web(seed, 4 + seed % 4) for seed in range(150)]
           if joined(web) and sides(web) is None]
PARTS = [HALF, ring(3), ring(5), full(4), TAILED, TWO_CLASSES, full_with_loops(2), full_with_loops(3),
         full_with_loops(4), blown_up(HALF, (1, 2)), blown_up(HALF, (2, 2)), blown_up(ring(3), (1, 2, 2)),
         blown_up(TWO_CLASSES, (1, 1, 2, 3)), (3, ((0, 0), (0, 1), (1, 2)))]
FUNCTIONS = (full_part, direct_factors, direct_coordinates, is_direct_prime)


def products_of_parts():
    """Return products of two and of three parts, also renamed, with the parts."""
    webs = []
    for seed, (a, b) in enumerate(itertools.product(PARTS, PARTS)):
        if a[0] * b[0] <= 20:
            web = plain_product("direct", a, b)
            webs.append((web, [a, b]))
            webs.append((moved(web, random_row(seed, web[0])), [a, b]))
    for seed, parts in enumerate([(HALF, HALF, ring(3)), (HALF, ring(3), full_with_loops(2)), (ring(3),) * 3,
                                  (HALF, blown_up(HALF, (1, 3)), full_with_loops(3))]):
        web = product_of("direct", *parts)
        webs.append((web, list(parts)))
        webs.append((moved(web, random_row(seed, web[0])), list(parts)))
    return webs


PRODUCTS = products_of_parts()


def plain_facts(web):
    """Return the thin web, its sizes, their common divisor and for each group the places and the counts."""
    thinned, sizes = thin(web)
    coordinates = box_coordinates(skeleton(thinned))
    shared = math.gcd(*sizes)
    many = len(coordinates[0])
    facts = []
    for group in direct_groups(web):
        mixes = [coordinates.index(tuple(coordinates[v if k in group else 0][k] for k in range(many)))
                 for v in range(thinned[0])]
        layer = [v for v in range(thinned[0]) if mixes[v] == v]
        places = [layer.index(mix) for mix in mixes]
        counts = [math.gcd(*[sizes[v] for v in range(thinned[0]) if places[v] == place]) // shared
                  for place in range(len(layer))]
        facts.append((places, counts))
    return thinned, sizes, shared, facts


def plain_primes(number):
    """Return the prime divisors of the number, each as often as it divides it."""
    primes = [p for p in range(2, 65) if all(p % q for q in range(2, p))]
    return [p for p in primes for k in range(1, 7) if number % p ** k == 0]


def plain_factors(web):
    """Return the factors as point 88 defines them."""
    thinned, _, shared, facts = plain_facts(web)
    factors = [full_with_loops(p) for p in plain_primes(shared)]
    for places, counts in facts:
        small = web_of_ties(len(counts), [(places[u], places[v]) for u, v in ties(thinned)])
        factors.append(blown_up(small, counts))
    return factors


def plain_coordinates(web):
    """Return the coordinates as point 89 defines them, from all rows of digits in lexicographic order."""
    _, _, shared, facts = plain_facts(web)
    primes = plain_primes(shared)
    found = {}
    for place, nodes in enumerate(twin_classes(web)):
        bounds = primes + [counts[places[place]] for places, counts in facts]
        lower = [0] * len(primes) + [sum(counts[:places[place]]) for places, counts in facts]
        rows = list(itertools.product(*[range(bound) for bound in bounds]))
        for node, row in zip(nodes, rows, strict=True):
            found[node] = tuple(digit + start for digit, start in zip(row, lower))
    return [found[node] for node in range(web[0])]


class DirectFactorsTest(WebCase):
    def check_product(self, web):
        """Check point 90: the coordinates show that the web is the product of the factors."""
        factors = direct_factors(web)
        coordinates = direct_coordinates(web)
        every = list(itertools.product(*[range(factor[0]) for factor in factors]))
        self.assertEqual(every, sorted(coordinates))
        pairs = ties(web)
        parts = [ties(factor) for factor in factors]
        for u in range(web[0]):
            for v in range(web[0]):
                together = all(pair in part for pair, part in zip(zip(coordinates[u], coordinates[v]), parts))
                self.assertEqual(together, (u, v) in pairs)

    def test_example(self):
        web = (4, ((0, 0), (0, 1), (0, 2), (0, 3), (1, 2)))
        self.assertEqual([HALF, HALF], direct_factors(web))

    def test_the_definition(self):
        for web in SAMPLES + PARTS + [web for web, _ in PRODUCTS]:
            self.assertEqual(plain_factors(web), direct_factors(web))
            self.assertEqual(plain_coordinates(web), direct_coordinates(web))

    def test_the_web_is_the_product_of_its_factors(self):
        for web in SAMPLES + PARTS + [web for web, _ in PRODUCTS]:
            self.check_product(web)

    def test_kinds_of_values(self):
        for web in (LOOP, HALF, full_with_loops(6), PRODUCTS[5][0]):
            factors = direct_factors(web)
            self.assertIs(list, factors.__class__)
            for factor in factors:
                self.check_web(factor)
            coordinates = direct_coordinates(web)
            self.assertIs(list, coordinates.__class__)
            self.assertEqual({tuple}, {entry.__class__ for entry in coordinates})

    def test_factors_of_products(self):
        for web, parts in PRODUCTS:
            factors = direct_factors(web)
            self.assertTrue(are_same([f for part in parts for f in direct_factors(part)], factors))
            for factor in factors:
                self.assertTrue(is_direct_prime(factor))
                self.assertEqual([factor], [f for f in direct_factors(factor) if f[0] == factor[0]])

    def test_factors_of_renamed_webs(self):
        for seed, web in enumerate(SAMPLES + PARTS):
            other = moved(web, random_row(seed, web[0]))
            self.assertTrue(are_same(direct_factors(web), direct_factors(other)))

    def test_factors_are_connected_and_have_odd_rings(self):
        for web, _ in PRODUCTS:
            for factor in direct_factors(web):
                self.assertTrue(joined(factor) and sides(factor) is None)

    def test_full_webs_with_loops(self):
        for size in range(1, 65):
            web = full_with_loops(size)
            self.assertEqual(size, full_part(web))
            self.assertEqual([full_with_loops(p) for p in plain_primes(size)], direct_factors(web))
            self.assertEqual(size in (2, 3, 5, 7, 11, 13, 17, 19, 23, 29, 31, 37, 41, 43, 47, 53, 59, 61),
                             is_direct_prime(web))
        self.assertEqual([(k // 6, k // 3 % 2, k % 3) for k in range(12)], direct_coordinates(full_with_loops(12)))

    def test_loop(self):
        self.assertEqual(1, full_part(LOOP))
        self.assertEqual([], direct_factors(LOOP))
        self.assertEqual([()], direct_coordinates(LOOP))
        self.assertIs(False, is_direct_prime(LOOP))

    def test_full_part(self):
        self.assertEqual(1, full_part(ring(5)))
        self.assertEqual(2, full_part(blown_up(ring(5), (2, 4, 6, 2, 2))))
        self.assertEqual(6, full_part(blown_up(HALF, (6, 12))))
        self.assertEqual(1, full_part(blown_up(HALF, (4, 9))))
        self.assertEqual([full_with_loops(2), full_with_loops(3), blown_up(HALF, (1, 2))],
                         direct_factors(blown_up(HALF, (6, 12))))

    def test_twins_within_two_factors(self):
        square = power_of("direct", HALF, 2)
        self.assertEqual([blown_up(HALF, (1, 2)), blown_up(HALF, (1, 3))],
                         direct_factors(blown_up(square, (1, 2, 3, 6))))
        self.assertEqual([blown_up(square, (1, 2, 3, 5))], direct_factors(blown_up(square, (1, 2, 3, 5))))
        self.assertEqual([full_with_loops(2), HALF, blown_up(HALF, (2, 1))],
                         direct_factors(blown_up(square, (4, 4, 2, 2))))

    def test_which_webs_are_prime(self):
        self.assertTrue(all(is_direct_prime(web) for web in (HALF, ring(3), ring(63), full(64), TWO_CLASSES)))
        self.assertFalse(any(is_direct_prime(web) for web, _ in PRODUCTS))
        twos = every_web(2)
        composed = {plain_sort(plain_product("direct", a, b)) for a, b in itertools.product(twos, twos)}
        for web in every_web(4)[::7]:
            if joined(web) and sides(web) is None:
                self.assertIs(plain_sort(web) not in composed, is_direct_prime(web))

    def test_primes_with_six_nodes(self):
        pairs = itertools.product(every_web(2), every_web(3))
        composed = [web for web in {plain_product("direct", a, b) for a, b in pairs} if joined(web)]
        for seed in range(60):
            web = random_web(seed, 6, share=0.5)
            if joined(web) and sides(web) is None:
                found = any(find_renaming(web, other) is not None for other in composed if len(other[1]) == len(web[1]))
                self.assertIs(not found, is_direct_prime(web))

    def test_greatest_webs(self):
        for web in (power_of("direct", HALF, 6), full(64), full_with_loops(64), product("direct", full(8), full(8)),
                    blown_up(HALF, (31, 33)), product("direct", power_of("direct", HALF, 3), full_with_loops(8))):
            factors = self.quickly(direct_factors, web)
            self.assertEqual(64, math.prod(factor[0] for factor in factors))
            self.assertEqual(64, len(set(self.quickly(direct_coordinates, web))))

    def test_a_changed_list_does_not_change_the_next_answer(self):
        direct_factors(HALF).append(LOOP)
        direct_coordinates(HALF).clear()
        self.assertEqual([HALF], direct_factors(HALF))
        self.assertEqual([(0,), (1,)], direct_coordinates(HALF))


class ErrorsTest(WebCase):
    def test_not_connected_comes_first(self):
        for web, many in [(EMPTY, 0), ((2, ()), 2), (sum_webs(ring(3), ONE), 2), (sum_webs(EDGE, LOOP), 2),
                          (sum_webs(EDGE, EDGE, EDGE), 3), ((64, ()), 64), (sum_webs(LOOP, LOOP), 2)]:
            for function in FUNCTIONS:
                self.check_error(NotConnected, {"pieces": many}, function, web)

    def test_no_odd_ring(self):
        for web in (ONE, EDGE, path(5), ring(4), star(64), ring(64)):
            for function in FUNCTIONS:
                self.check_error(NoOddRing, {"node": 0}, function, web)


if __name__ == "__main__":
    unittest.main()
