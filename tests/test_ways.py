"""Points 29 to 32: walk lengths, distances and components of products."""

import itertools
import unittest

from tests.helpers import WebCase, plain_components, plain_distance, plain_product, random_web, small_webs, ties
from webnumbers.errors import HasLoops, InvalidKind
from webnumbers.pieces import distances
from webnumbers.products import KINDS
from webnumbers.shapes import full, full_with_loops, path, ring, star
from webnumbers.ways import count_pieces, product_distance, walk_lengths
from webnumbers.webs import EDGE, EMPTY, LOOP, ONE

WRONG_KINDS = ["", "sum", "Box", "direct ", "level"]


def plain_walk_lengths(web, start, end):
    """Return the least lengths among all lengths up to twice the number of nodes."""
    pairs = ties(web)
    found = [None, None]
    reached = {start}
    for length in range(2 * web[0] + 2):
        if end in reached and found[length % 2] is None:
            found[length % 2] = length
        reached = {v for u, v in pairs if u in reached}
    return tuple(found)


def sample_webs(kind):
    loops = kind == "direct"
    samples = small_webs(2, loops) + [ring(5), path(4), star(4), full(3), (3, ((0, 2),)), (5, ((0, 1), (2, 3)))]
    if loops:
        samples += [(4, ((0, 1), (1, 1), (2, 3))), (3, ((1, 1),)), full_with_loops(2)]
    return samples + [random_web(k, 5, loops, 0.3) for k in range(4)]


class WalkLengthsTest(WebCase):
    def test_against_all_lengths(self):
        for web in small_webs(3) + sample_webs("direct") + [ring(9)]:
            for start, end in itertools.product(range(web[0]), repeat=2):
                self.assertEqual(plain_walk_lengths(web, start, end), walk_lengths(web, start, end))

    def test_small(self):
        self.assertEqual((0, None), walk_lengths(ONE, 0, 0))
        self.assertEqual((0, 1), walk_lengths(LOOP, 0, 0))
        self.assertEqual((0, None), walk_lengths(EDGE, 1, 1))
        self.assertEqual((None, 1), walk_lengths(EDGE, 0, 1))
        self.assertEqual((None, None), walk_lengths((2, ((0, 0),)), 0, 1))
        self.assertEqual((0, 5), walk_lengths(ring(5), 2, 2))
        self.assertEqual((62, 1), walk_lengths(ring(63), 0, 62))
        self.assertEqual((None, 63), walk_lengths(path(64), 63, 0))


class ProductDistanceTest(WebCase):
    def test_example(self):
        triangle = (3, ((0, 1), (0, 2), (1, 2)))
        self.assertEqual(3, product_distance("direct", triangle, EDGE, (0, 0), (0, 1)))

    def test_against_the_product(self):
        for kind in KINDS:
            for a, b in itertools.product(sample_webs(kind), repeat=2):
                self.check_all_distances(kind, a, b)

    def check_all_distances(self, kind, a, b):
        web = plain_product(kind, a, b)
        nodes = list(itertools.product(range(a[0]), range(b[0])))
        for place, start in enumerate(nodes):
            expected = distances(web, place)
            self.assertEqual(expected, [product_distance(kind, a, b, start, end) for end in nodes])

    def test_the_helper_distances_are_plain(self):
        web = plain_product("levels", path(3), (3, ((0, 2),)))
        self.assertEqual([plain_distance(web, 4, k) for k in range(9)], distances(web, 4))

    def test_no_walk(self):
        two = (2, ())
        for kind in ("box", "strong"):
            self.assertIsNone(product_distance(kind, two, EDGE, (0, 0), (1, 0)))
            self.assertIsNone(product_distance(kind, EDGE, two, (0, 0), (0, 1)))
            self.assertIsNone(product_distance(kind, two, two, (0, 0), (1, 1)))
        self.assertIsNone(product_distance("direct", EDGE, EDGE, (0, 0), (0, 1)))
        self.assertIsNone(product_distance("direct", ONE, full(3), (0, 0), (0, 1)))
        self.assertIsNone(product_distance("direct", full(3), ONE, (0, 0), (1, 0)))
        self.assertIsNone(product_distance("levels", two, EDGE, (0, 0), (1, 0)))
        self.assertIsNone(product_distance("levels", ONE, two, (0, 0), (0, 1)))

    def test_equal_nodes(self):
        for kind in KINDS:
            self.assertEqual(0, product_distance(kind, ONE, ONE, (0, 0), (0, 0)))
            self.assertEqual(0, product_distance(kind, path(3), ring(4), (2, 3), (2, 3)))
        self.assertEqual(0, product_distance("direct", LOOP, LOOP, (0, 0), (0, 0)))

    def test_levels_within_one_part(self):
        self.assertEqual(1, product_distance("levels", EDGE, path(4), (0, 0), (0, 1)))
        self.assertEqual(2, product_distance("levels", EDGE, path(4), (0, 0), (0, 3)))
        self.assertEqual(2, product_distance("levels", EDGE, (2, ()), (0, 0), (0, 1)))
        self.assertEqual(3, product_distance("levels", ONE, path(4), (0, 0), (0, 3)))
        self.assertEqual(2, product_distance("levels", path(3), path(4), (0, 3), (2, 3)))

    def test_great_products(self):
        self.assertEqual(126, product_distance("box", path(64), path(64), (0, 0), (63, 63)))
        self.assertEqual(63, product_distance("strong", path(64), path(64), (0, 5), (63, 5)))
        self.assertEqual(62, product_distance("direct", ring(63), path(64), (0, 0), (0, 62)))
        self.assertEqual(63, product_distance("direct", ring(63), path(64), (0, 0), (0, 63)))
        self.assertEqual(63, product_distance("levels", path(64), path(64), (0, 5), (63, 7)))

    def test_order_of_errors(self):
        first, second = (64, ((4, 4),)), (64, ((9, 9),))
        for kind in WRONG_KINDS:
            self.check_error(InvalidKind, {"kind": kind}, product_distance, kind, first, second, (0, 0), (0, 0))
        for kind in ("box", "strong", "levels"):
            self.check_error(HasLoops, {"node": 4}, product_distance, kind, first, second, (0, 0), (0, 0))
            self.check_error(HasLoops, {"node": 9}, product_distance, kind, second, first, (0, 0), (0, 0))
            self.check_error(HasLoops, {"node": 4}, product_distance, kind, EDGE, first, (0, 0), (0, 0))
        self.assertIsNone(product_distance("direct", first, second, (0, 0), (0, 1)))


class CountPiecesTest(WebCase):
    def test_against_the_product(self):
        for kind in KINDS:
            webs = sample_webs(kind) + [(4, ()), (6, ((0, 1), (2, 3), (3, 4)))]
            for a, b in itertools.product(webs, webs):
                expected = len(plain_components(plain_product(kind, a, b)))
                self.assertEqual(expected, count_pieces(kind, a, b))

    def test_empty_factors(self):
        for kind in KINDS:
            for web in (EMPTY, ONE, EDGE, (64, ())):
                self.assertEqual(0, count_pieces(kind, EMPTY, web))
                self.assertEqual(0, count_pieces(kind, web, EMPTY))

    def test_direct(self):
        self.assertEqual(2, count_pieces("direct", EDGE, EDGE))
        self.assertEqual(1, count_pieces("direct", EDGE, full(3)))
        self.assertEqual(1, count_pieces("direct", LOOP, EDGE))
        self.assertEqual(2, count_pieces("direct", ONE, EDGE))
        self.assertEqual(1, count_pieces("direct", LOOP, ONE))
        self.assertEqual(3, count_pieces("direct", full(3), ONE))

    def test_levels(self):
        self.assertEqual(1, count_pieces("levels", EDGE, (5, ())))
        self.assertEqual(5, count_pieces("levels", ONE, (5, ())))
        self.assertEqual(11, count_pieces("levels", (4, ((0, 1),)), (5, ())))

    def test_great_products(self):
        self.assertEqual(4096, count_pieces("box", (64, ()), (64, ())))
        self.assertEqual(4096, count_pieces("direct", (64, ()), (64, ())))
        self.assertEqual(4096, count_pieces("levels", (64, ()), (64, ())))
        self.assertEqual(2, count_pieces("direct", path(64), ring(64)))
        self.assertEqual(1, count_pieces("direct", ring(63), ring(64)))
        self.assertEqual(1, count_pieces("strong", full(64), ring(64)))

    def test_order_of_errors(self):
        first, second = (64, ((4, 4),)), (64, ((9, 9),))
        for kind in WRONG_KINDS:
            self.check_error(InvalidKind, {"kind": kind}, count_pieces, kind, first, second)
        for kind in ("box", "strong", "levels"):
            self.check_error(HasLoops, {"node": 4}, count_pieces, kind, first, second)
            self.check_error(HasLoops, {"node": 9}, count_pieces, kind, second, first)
            self.check_error(HasLoops, {"node": 9}, count_pieces, kind, EMPTY, second)
            self.check_error(HasLoops, {"node": 9}, count_pieces, kind, second, EMPTY)
        self.assertEqual(4096, count_pieces("direct", first, second))


if __name__ == "__main__":
    unittest.main()
