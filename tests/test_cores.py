"""Points 53 and 54: cores and folding."""

import itertools
import unittest

from tests.helpers import WebCase, plain_homs, random_web, small_webs, web_of_ties
from webnumbers.cores import core, core_nodes, fold_row
from webnumbers.errors import TooLarge
from webnumbers.shapes import full, full_with_loops, path, ring, star
from webnumbers.webs import EDGE, EMPTY, LOOP, ONE


def part_of(web, nodes):
    """Return the web on the nodes."""
    return web_of_ties(len(nodes), [(nodes.index(u), nodes.index(v)) for u, v in web[1] if u in nodes and v in nodes])


def plain_core_nodes(web):
    """Return the first of the smallest sets with a hom to the web on it."""
    for many in range(web[0] + 1):
        for nodes in itertools.combinations(range(web[0]), many):
            if plain_homs(web, part_of(web, nodes)):
                return nodes


def plain_fold_row(web):
    nodes = plain_core_nodes(web)
    return next(row for row in plain_homs(web, web) if set(row) <= set(nodes))


class CoreTest(WebCase):
    def check_core(self, web):
        nodes = plain_core_nodes(web)
        self.assertEqual(nodes, core_nodes(web))
        self.assertEqual(part_of(web, nodes), core(web))
        self.assertEqual(plain_fold_row(web), fold_row(web))

    def test_example(self):
        web = (4, ((0, 1), (0, 3), (1, 2), (2, 3)))
        self.assertEqual([(0, 1), (0, 1, 0, 1)], [core_nodes(web), fold_row(web)])

    def test_against_all_sets(self):
        for web in small_webs(3):
            self.check_core(web)
        for seed in range(40):
            self.check_core(random_web(seed, 4, seed % 3 == 0, 0.5))
        for seed in range(16):
            self.check_core(random_web(seed, 5, seed % 4 == 0, 0.5))

    def test_shapes(self):
        for web in [ring(4), ring(5), path(4), path(5), full(4), full(5), star(5), full_with_loops(3)]:
            self.check_core(web)

    def test_rings_and_full_webs(self):
        self.assertEqual([(0, 1, 2), (0, 1), (0, 1, 2, 3, 4)], [core_nodes(ring(size)) for size in (3, 4, 5)])
        self.assertEqual([tuple(range(size)) for size in range(6)], [core_nodes(full(size)) for size in range(6)])
        self.assertEqual([(0, 1)] * 4, [core_nodes(path(size)) for size in (2, 3, 4, 5)])
        self.assertEqual([EDGE] * 4, [core(star(size)) for size in (2, 3, 4, 5)])

    def test_the_first_of_several_sets(self):
        self.assertEqual((1, 2), core_nodes((4, ((1, 2), (2, 3)))))
        self.assertEqual((0, 3), core_nodes((4, ((0, 3), (1, 2)))))
        self.assertEqual((0, 2, 3), core_nodes((5, ((0, 2), (0, 3), (1, 2), (1, 3), (2, 3)))))
        self.assertEqual((0, 0, 2, 3), fold_row((4, ((0, 2), (0, 3), (1, 2), (1, 3), (2, 3)))))

    def test_loops(self):
        web = (4, ((0, 1), (2, 2), (3, 3)))
        self.assertEqual([(2,), LOOP, (2, 2, 2, 2)], [core_nodes(web), core(web), fold_row(web)])

    def test_no_edges(self):
        self.assertEqual([(), EMPTY, ()], [core_nodes(EMPTY), core(EMPTY), fold_row(EMPTY)])
        self.assertEqual([(0,), ONE, (0, 0, 0)], [core_nodes((3, ())), core((3, ())), fold_row((3, ()))])
        self.assertEqual([(0,), LOOP, (0,)], [core_nodes(LOOP), core(LOOP), fold_row(LOOP)])

    def test_exactly_the_limit(self):
        for web in [(5, ()), full_with_loops(5)]:
            self.assertEqual((0,), core_nodes(web))
            self.assertEqual((0,) * 5, fold_row(web))

    def test_too_large(self):
        for function in (core_nodes, core, fold_row):
            for web in [(6, ()), full(6), (64, ())]:
                self.check_error(TooLarge, {"limit": 5}, function, web)


if __name__ == "__main__":
    unittest.main()
