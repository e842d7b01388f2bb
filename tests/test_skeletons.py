"""Points 81 and 82: dispensable pairs and skeletons."""

import itertools
import unittest

from tests.helpers import WebCase, joined, plain_product, random_web, small_webs, web_of_ties
from tests.test_twins import neighbours
from webnumbers.pieces import is_connected, sides
from webnumbers.products import product, sum_webs
from webnumbers.shapes import full, full_with_loops, path, ring, star
from webnumbers.skeletons import dispenser, skeleton
from webnumbers.twins import thin
from webnumbers.webs import EDGE, EMPTY, LOOP, ONE

SAMPLES = small_webs(3) + [random_web(seed, 4 + seed % 4, seed % 3 > 0, 0.3 + 0.1 * (seed % 5)) for seed in range(200)]
SHAPES = [path(6), ring(5), ring(6), ring(7), star(5), full(5), full_with_loops(4), sum_webs(ring(3), path(4), ONE)]


def plain_dispensers(web, first, second):
    """Return all nodes that make the pair dispensable; < between sets is the proper part."""
    sets = neighbours(web)
    x, y = sets[first], sets[second]
    return [
        node
        for node, z in enumerate(sets)
        if (x & y < x & z or x < z < y) and (x & y < y & z or y < z < x)
    ]


def plain_skeleton(web):
    sets = neighbours(web)
    pairs = itertools.combinations(range(web[0]), 2)
    return web_of_ties(web[0], [(u, v) for u, v in pairs if sets[u] & sets[v] and not plain_dispensers(web, u, v)])


class DispenserTest(WebCase):
    def check_dispensers(self, web):
        for first, second in itertools.permutations(range(web[0]), 2):
            nodes = plain_dispensers(web, first, second)
            self.assertEqual(nodes[0] if nodes else None, dispenser(web, first, second))

    def test_against_the_proper_parts(self):
        for web in SAMPLES + SHAPES:
            self.check_dispensers(web)

    def test_some_pairs_have_several_dispensers(self):
        many = [len(plain_dispensers(web, u, v)) for web in SAMPLES for u, v in itertools.permutations(range(web[0]), 2)]
        self.assertGreater(len([k for k in many if k > 1]), 20)

    def test_small(self):
        self.assertIsNone(dispenser((2, ()), 0, 1))
        self.assertIsNone(dispenser(EDGE, 0, 1))
        self.assertIsNone(dispenser(full_with_loops(2), 0, 1))
        # The node 1 has the only neighbour of node 0 and the only one of node 2.
        web = (5, ((0, 3), (1, 3), (1, 4), (2, 4)))
        self.assertEqual([1, 1], [dispenser(web, 0, 2), dispenser(web, 2, 0)])
        self.assertEqual([None, None], [dispenser(web, 0, 1), dispenser(web, 1, 2)])

    def test_either_condition_with_parts_of_both(self):
        # X is a proper part of Z, and Z of Y.
        web = (7, ((0, 3), (1, 3), (1, 4), (2, 3), (2, 4), (2, 5)))
        self.assertEqual(plain_dispensers(web, 0, 2)[0], dispenser(web, 0, 2))
        self.assertEqual([1], plain_dispensers(web, 0, 2))


class SkeletonTest(WebCase):
    def test_against_the_definition(self):
        for web in SAMPLES + SHAPES:
            result = skeleton(web)
            self.check_web(result)
            self.assertEqual(plain_skeleton(web), result)

    def test_small(self):
        self.assertEqual(EMPTY, skeleton(EMPTY))
        self.assertEqual(ONE, skeleton(ONE))
        self.assertEqual(ONE, skeleton(LOOP))
        self.assertEqual((2, ()), skeleton(EDGE))
        self.assertEqual(EDGE, skeleton((2, ((0, 0), (0, 1)))))
        self.assertEqual((3, ((0, 2),)), skeleton(path(3)))
        self.assertEqual(full(5), skeleton(full(5)))
        self.assertEqual((5, ((0, 2), (0, 3), (1, 3), (1, 4), (2, 4))), skeleton(ring(5)))

    def test_skeletons_of_direct_products(self):
        webs = [thin(web)[0] for web in SAMPLES[:75] + SAMPLES[75::20]]
        webs = sorted({web for web in webs if all(neighbours(web))})
        self.assertGreater(len(webs), 20)
        for a, b in itertools.product(webs, webs):
            if a[0] * b[0] <= 24:
                self.assertEqual(
                    plain_product("box", skeleton(a), skeleton(b)), skeleton(product("direct", a, b)))

    def test_the_skeleton_of_a_thin_web_with_an_odd_ring_is_connected(self):
        for web in SAMPLES + SHAPES:
            if joined(web) and sides(web) is None:
                self.assertTrue(is_connected(skeleton(thin(web)[0])))

    def test_greatest_webs(self):
        self.assertEqual(full(64), self.quickly(skeleton, full(64)))
        self.assertEqual(full(64), self.quickly(skeleton, full_with_loops(64)))
        web = random_web(5, 64)
        self.assertEqual(plain_skeleton(web), self.quickly(skeleton, web))


if __name__ == "__main__":
    unittest.main()
