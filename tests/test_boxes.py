"""Points 67 and 72 to 77: the prime factors of box products."""

import itertools
import unittest

from tests.helpers import (
    WebCase, joined_webs, moved, plain_product, random_joined_web, random_row, renaming_rows, ties,
)
from tests.test_relations import SAMPLES, UNFIT
from webnumbers.boxes import box_coordinates, box_factors, box_layer, box_layers, is_box_prime
from webnumbers.classes import edge_classes
from webnumbers.products import power_of, product
from webnumbers.renamings import find_renaming
from webnumbers.shapes import full, path, ring, star
from webnumbers.webs import EDGE, ONE, induced

PRIMES = [EDGE, path(3), ring(3), star(4), ring(5), full(4), (4, ((0, 1), (0, 2), (0, 3), (1, 2)))]
PAIRS = [(a, b) for a, b in itertools.product(PRIMES, repeat=2) if a[0] * b[0] <= 25]
TRIPLES = [(EDGE, EDGE, EDGE), (EDGE, path(3), EDGE), (path(3), ring(3), EDGE), (ring(3), ring(3), path(3))]


def renamed_products():
    """Return pairs of a renamed box product and the list of its factors."""
    webs = []
    for seed, parts in enumerate([[a] for a in PRIMES] + PAIRS + TRIPLES):
        web = ONE
        for part in parts:
            web = plain_product("box", web, part)
        webs.append((web, list(parts)))
        webs.append((moved(web, random_row(seed, web[0])), list(parts)))
    return webs


PRODUCTS = renamed_products()


def plain_layer(web, classes, start):
    """Return the layer by walking along edges of the classes."""
    edges = [pair for pair, number in zip(web[1], edge_classes(web)) if number in classes]
    reached = {start}
    for _ in range(web[0]):
        reached |= {node for pair in edges for node in pair if set(pair) & reached}
    return sorted(reached)


def matched(webs, others):
    """Tell whether the lists contain webs of the same sorts, each equally often."""
    left = list(others)
    for web in webs:
        place = next((k for k, other in enumerate(left) if find_renaming(web, other) is not None), None)
        if place is None:
            return False
        del left[place]
    return left == []


def plain_is_prime(web):
    """Tell whether a connected web with at most 9 nodes is no box product of two webs with at least two nodes."""
    for first in range(2, web[0]):
        if web[0] % first == 0:
            for a in [other for other in FACTORS if other[0] == first]:
                for b in [other for other in FACTORS if other[0] == web[0] // first]:
                    if find_renaming(web, plain_product("box", a, b)) is not None:
                        return False
    return web[0] > 1


FACTORS = []
for factor in joined_webs(4):
    if not any(factor[0] == other[0] and renaming_rows(factor, other) for other in FACTORS):
        FACTORS.append(factor)


class BoxLayerTest(WebCase):
    def test_against_walks(self):
        for web in SAMPLES[::3] + [web for web, _ in PRODUCTS[::9]]:
            numbers = range(max(edge_classes(web), default=-1) + 1)
            for many in range(len(numbers) + 1):
                for classes in itertools.combinations(numbers, many):
                    for start in range(0, web[0], 2):
                        self.assertEqual(plain_layer(web, classes, start), box_layer(web, *classes, start=start))
                    self.assertEqual(plain_layer(web, classes, 0), box_layer(web, *classes))

    def test_no_classes(self):
        for web in (ONE, EDGE, ring(4), full(5)):
            for start in range(web[0]):
                self.assertEqual([start], box_layer(web, start=start))
            self.assertEqual([0], box_layer(web))

    def test_numbers_that_are_no_class(self):
        self.assertEqual([0], box_layer(ONE, 0))
        self.assertEqual([2], box_layer(ring(4), 2, -1, 10 ** 30, start=2))
        self.assertEqual([1, 2], box_layer(ring(4), 5, 1, -1, start=1))
        self.assertEqual([0, 1], box_layer(ring(4), 0, 0, 7))

    def test_several_classes(self):
        web = power_of("box", EDGE, 3)
        self.assertEqual([[0, 4], [0, 2], [0, 1]], [box_layer(web, k) for k in (2, 1, 0)])
        self.assertEqual([0, 1, 2, 3], box_layer(web, 0, 1))
        self.assertEqual([0, 1, 4, 5], box_layer(web, 2, 0))
        self.assertEqual([1, 3, 5, 7], box_layer(web, 1, 2, start=7))
        self.assertEqual(list(range(8)), box_layer(web, 2, 1, 0, start=3))

    def test_start_is_passed_by_keyword(self):
        self.assertEqual([0, 1, 2, 3], box_layer(ring(4), 0, 1))
        self.assertEqual([0, 3], box_layer(ring(4), 1, start=3))

    def test_errors(self):
        for error, told, web in UNFIT:
            self.check_error(error, told, box_layer, web)
            self.check_error(error, told, box_layer, web, 0)
            self.check_error(error, told, box_layer, web, 0, 5, start=1)


class BoxFactorsTest(WebCase):
    def test_layers(self):
        for web in SAMPLES + [web for web, _ in PRODUCTS]:
            many = max(edge_classes(web), default=-1) + 1
            layers = [plain_layer(web, [number], 0) for number in range(many)]
            self.assertEqual(layers, box_layers(web))
            self.assertEqual([induced(web, layer) for layer in layers], box_factors(web))

    def test_coordinates_against_the_layers(self):
        for web in SAMPLES + [web for web, _ in PRODUCTS[::3]]:
            many = max(edge_classes(web), default=-1) + 1
            found = box_coordinates(web)
            self.assertEqual(web[0], len(found))
            for node, entries in enumerate(found):
                self.assertIs(tuple, entries.__class__)
                self.assertEqual(many, len(entries))
                for number, entry in enumerate(entries):
                    layer = plain_layer(web, [number], 0)
                    others = plain_layer(web, [k for k in range(many) if k != number], node)
                    self.assertEqual([layer[entry]], [k for k in layer if k in others])

    def test_each_combination_is_exactly_one_node(self):
        for web in SAMPLES + [web for web, _ in PRODUCTS]:
            sizes = [factor[0] for factor in box_factors(web)]
            combinations = list(itertools.product(*[range(size) for size in sizes]))
            self.assertEqual(combinations, sorted(box_coordinates(web)))

    def test_adjacent_exactly_if_one_entry_differs_by_an_edge(self):
        for web in SAMPLES + [web for web, _ in PRODUCTS]:
            factors, found, pairs = box_factors(web), box_coordinates(web), ties(web)
            edges = [ties(factor) for factor in factors]
            for u, v in itertools.product(range(web[0]), repeat=2):
                unlike = [k for k in range(len(factors)) if found[u][k] != found[v][k]]
                near = len(unlike) == 1 and (found[u][unlike[0]], found[v][unlike[0]]) in edges[unlike[0]]
                self.assertEqual((u, v) in pairs, near)

    def test_factors_of_products(self):
        for web, parts in PRODUCTS:
            self.assertTrue(matched(box_factors(web), parts))
            self.assertIs(len(parts) == 1, is_box_prime(web))

    def test_factors_of_products_of_any_webs(self):
        webs = [random_joined_web(seed, 3 + seed % 4) for seed in range(8)] + [ring(4), ring(6), power_of("box", EDGE, 3)]
        for seed, (a, b) in enumerate(itertools.product(webs, repeat=2)):
            web = plain_product("box", a, b)
            expected = box_factors(a) + box_factors(b)
            self.assertTrue(matched(box_factors(web), expected))
            self.assertTrue(matched(box_factors(moved(web, random_row(seed, web[0]))), expected))

    def test_all_factors_are_prime(self):
        for web in SAMPLES + [web for web, _ in PRODUCTS]:
            for factor in box_factors(web):
                self.assertIs(True, is_box_prime(factor))
                self.assertEqual([factor], box_factors(factor))

    def test_primes_against_all_products(self):
        nines = [product("box", path(3), ring(3)), ring(9), random_joined_web(1, 9)]
        for web in SAMPLES + nines + [web for web, _ in PRODUCTS]:
            if web[0] <= 9:
                self.assertIs(plain_is_prime(web), is_box_prime(web))

    def test_one(self):
        self.assertEqual([[], [], [()]], [box_layers(ONE), box_factors(ONE), box_coordinates(ONE)])
        self.assertIs(False, is_box_prime(ONE))
        self.assertIs(True, is_box_prime(EDGE))

    def test_example(self):
        self.assertEqual([(0, 0), (1, 0), (1, 1), (0, 1)], box_coordinates((4, ((0, 1), (0, 3), (1, 2), (2, 3)))))

    def test_greatest_webs(self):
        self.assertEqual([EDGE] * 6, self.quickly(box_factors, power_of("box", EDGE, 6)))
        self.assertEqual([full(64)], self.quickly(box_factors, full(64)))
        self.assertEqual([(node,) for node in range(64)], self.quickly(box_coordinates, full(64)))
        self.assertEqual(64, len(set(self.quickly(box_coordinates, product("box", full(8), full(8))))))

    def test_errors(self):
        for error, told, web in UNFIT:
            for function in (box_layers, box_coordinates, box_factors, is_box_prime):
                self.check_error(error, told, function, web)


if __name__ == "__main__":
    unittest.main()
