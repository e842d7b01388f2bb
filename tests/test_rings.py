"""Points 55 and 56: odd rings, and what can be cancelled."""

import itertools
import unittest

from tests.helpers import WebCase, moved, random_row, random_web, small_webs, ties
from webnumbers.products import sum_webs
from webnumbers.rings import can_cancel, odd_ring
from webnumbers.shapes import full, full_with_loops, path, ring, star
from webnumbers.webs import EDGE, EMPTY, LOOP, ONE, make_web


def plain_odd_ring(web):
    """Return the least tuple of the odd rings of the least length, by going through all tuples."""
    pairs = ties(web)
    for length in range(1, web[0] + 1, 2):
        for nodes in itertools.product(range(web[0]), repeat=length):
            if all(pair in pairs for pair in zip(nodes, nodes[1:] + nodes[:1])):
                return nodes
    return None


def is_ring(web, nodes):
    """Tell whether the nodes and the first one again are a walk."""
    return all(pair in ties(web) for pair in zip(nodes, nodes[1:] + nodes[:1]))


# Two rings of five nodes with one common edge.
TWO_RINGS = make_web(8, [(0, 1), (1, 2), (2, 3), (3, 4), (4, 0), (4, 5), (5, 6), (6, 7), (7, 0)])


class OddRingTest(WebCase):
    def check_ring(self, web):
        expected = plain_odd_ring(web)
        self.assertEqual(expected, odd_ring(web))
        self.assertIs(expected is not None, can_cancel(web))

    def test_example(self):
        self.assertEqual((1, 2, 3), odd_ring((4, ((0, 1), (1, 2), (1, 3), (2, 3)))))

    def test_against_all_tuples(self):
        for web in small_webs(3):
            self.check_ring(web)
        for seed in range(150):
            self.check_ring(random_web(seed, 4 + seed % 2, seed % 5 == 0))

    def test_rings_of_five_and_seven_nodes(self):
        for seed in range(30):
            web = moved(sum_webs(ring(5), path(1 + seed % 2)), random_row(seed, 6 + seed % 2))
            self.check_ring(web)
        for seed in range(4):
            self.check_ring(moved(ring(7), random_row(seed, 7)))

    def test_several_shortest_rings(self):
        self.assertEqual((0, 1, 2, 3, 4), odd_ring(TWO_RINGS))
        self.check_ring(make_web(6, [(0, 1), (1, 2), (2, 3), (3, 4), (4, 0), (0, 5), (5, 2)]))
        for seed in range(10):
            web = moved(TWO_RINGS, random_row(seed, 8))
            # The least ring begins at the least node and goes to the lesser neighbour that returns in time.
            expected = min(nodes for nodes in itertools.permutations(range(8), 5) if is_ring(web, nodes))
            self.assertEqual(expected, odd_ring(web))

    def test_loops(self):
        self.assertEqual((0,), odd_ring(LOOP))
        self.assertEqual((2,), odd_ring((5, ((0, 1), (0, 4), (1, 4), (2, 2), (3, 3)))))
        self.assertEqual((0,), odd_ring(full_with_loops(64)))

    def test_several_components(self):
        self.assertEqual((3, 4, 5), odd_ring(sum_webs(path(3), ring(3), ring(3))))
        self.assertEqual((5, 6, 7), odd_ring(sum_webs(ring(5), ring(3))))
        self.assertEqual((4, 5, 6, 7, 8), odd_ring(sum_webs(ring(4), ring(5), ring(7))))

    def test_webs_with_sides(self):
        for web in [EMPTY, ONE, EDGE, (64, ()), path(64), star(64), ring(64), ring(4), sum_webs(ring(4), ring(6))]:
            self.assertIsNone(odd_ring(web))
            self.assertIs(False, can_cancel(web))

    def test_greatest_webs(self):
        self.assertEqual(tuple(range(63)), self.quickly(odd_ring, ring(63)))
        self.assertEqual(tuple(range(1, 64)), self.quickly(odd_ring, sum_webs(ONE, ring(63))))
        self.assertEqual((0, 1, 2), self.quickly(odd_ring, full(64)))
        self.assertEqual(tuple(range(1, 64)), self.quickly(odd_ring, make_web(64, [
            *[(node, node + 1) for node in range(63)], (1, 63)])))

    def test_the_answer_is_the_bool(self):
        self.assertIs(True, can_cancel(LOOP))
        self.assertIs(True, can_cancel(ring(3)))
        self.assertIs(True, can_cancel(sum_webs(path(3), ring(5))))
        self.assertIs(False, can_cancel(EMPTY))


if __name__ == "__main__":
    unittest.main()
