"""Points 10 and 11: components, distances and sides."""

import unittest

from tests.helpers import WebCase, plain_components, plain_distance, random_web, small_webs
from webnumbers.errors import NotConnected
from webnumbers.pieces import check_connected, components, distances, is_connected, pieces, sides
from webnumbers.shapes import full, path, ring, star
from webnumbers.webs import EDGE, EMPTY, LOOP, ONE

SAMPLES = small_webs(3) + [random_web(k, size, share=0.15) for k in range(8) for size in (5, 8, 11)]


class ComponentsTest(WebCase):
    def test_example(self):
        self.assertEqual([[0, 3], [1], [2]], components((4, ((0, 3), (1, 1)))))

    def test_against_joined_sets(self):
        for web in SAMPLES:
            self.assertEqual(plain_components(web), components(web))

    def test_no_nodes_and_lonely_nodes(self):
        self.assertEqual([], components(EMPTY))
        self.assertEqual([[0]], components(ONE))
        self.assertEqual([[0]], components(LOOP))
        self.assertEqual([[k] for k in range(64)], components((64, ())))

    def test_interleaved(self):
        web = (6, ((0, 4), (1, 5), (2, 4), (3, 5)))
        self.assertEqual([[0, 2, 4], [1, 3, 5]], components(web))

    def test_pieces(self):
        web = (6, ((0, 4), (1, 5), (2, 4), (3, 3), (3, 5)))
        self.assertEqual([(3, ((0, 2), (1, 2))), (3, ((0, 2), (1, 1), (1, 2)))], pieces(web))
        self.assertEqual([], pieces(EMPTY))
        self.assertEqual([LOOP, ONE], pieces((2, ((0, 0),))))

    def test_a_changed_list_does_not_change_the_next_answer(self):
        components(EDGE)[0].append(5)
        components(EDGE).append([7])
        pieces(EDGE).append(ONE)
        self.assertEqual([[0, 1]], components(EDGE))
        self.assertEqual([EDGE], pieces(EDGE))

    def test_is_connected(self):
        self.assertIs(False, is_connected(EMPTY))
        self.assertIs(True, is_connected(ONE))
        self.assertIs(True, is_connected(LOOP))
        self.assertIs(True, is_connected(path(64)))
        self.assertIs(False, is_connected((2, ())))
        self.assertIs(False, is_connected((3, ((0, 2),))))

    def test_check_connected(self):
        self.assertIsNone(check_connected(EDGE))
        self.check_error(NotConnected, {"pieces": 0}, check_connected, EMPTY)
        self.check_error(NotConnected, {"pieces": 2}, check_connected, (2, ()))
        self.check_error(NotConnected, {"pieces": 3}, check_connected, (5, ((0, 4), (1, 3))))


class DistancesTest(WebCase):
    def test_against_plain_distances(self):
        for web in SAMPLES:
            for start in range(web[0]):
                expected = [plain_distance(web, start, end) for end in range(web[0])]
                self.assertEqual(expected, distances(web, start))

    def test_not_reached(self):
        self.assertEqual([0, None, 1, None], distances((4, ((0, 2), (1, 1), (1, 3))), 0))
        self.assertEqual([None, 0, None, 1], distances((4, ((0, 2), (1, 1), (1, 3))), 1))
        self.assertEqual([0], distances(LOOP, 0))

    def test_long_ways(self):
        self.assertEqual(list(range(64)), distances(path(64), 0))
        self.assertEqual([3, 2, 1, 0, 1, 2, 3], distances(ring(7), 3))
        self.assertEqual([1, 2, 0, 2], distances(star(4), 2))


class SidesTest(WebCase):
    def test_rings(self):
        for size in range(1, 65):
            expected = None if size % 2 else [node % 2 for node in range(size)]
            self.assertEqual(expected, sides(ring(size)))

    def test_loops(self):
        self.assertIsNone(sides(LOOP))
        self.assertIsNone(sides((3, ((0, 1), (2, 2)))))

    def test_no_odd_ring(self):
        self.assertEqual([], sides(EMPTY))
        self.assertEqual([0], sides(ONE))
        self.assertEqual([0, 0, 0], sides((3, ())))
        self.assertEqual([0, 0, 0, 1, 1], sides((5, ((0, 3), (1, 3), (2, 4)))))

    def test_an_odd_ring_in_a_later_component(self):
        self.assertIsNone(sides((6, ((0, 1), (3, 4), (3, 5), (4, 5)))))
        self.assertIsNone(sides(full(3)))

    def test_against_all_ways_to_give_sides(self):
        for web in SAMPLES:
            ways = [bits for bits in range(2 ** web[0]) if self.are_sides(web, bits)]
            if ways:
                self.assertEqual([ways[0] >> node & 1 for node in range(web[0])], sides(web))
            else:
                self.assertIsNone(sides(web))

    def are_sides(self, web, bits):
        """Tell whether the bits of the nodes are sides, 0 for the least node of each component."""
        if any(bits >> nodes[0] & 1 for nodes in plain_components(web)):
            return False
        return all((bits >> u ^ bits >> v) & 1 for u, v in web[1])


if __name__ == "__main__":
    unittest.main()
