"""Point 17: the shapes."""

import unittest

from tests.helpers import WebCase
from webnumbers.errors import TooLarge
from webnumbers.shapes import full, full_with_loops, path, ring, star
from webnumbers.webs import EDGE, EMPTY, LOOP, ONE


class ShapesTest(WebCase):
    def test_example(self):
        self.assertEqual((4, ((0, 1), (0, 3), (1, 2), (2, 3))), ring(4))

    def test_small_sizes(self):
        for shape in (path, full, full_with_loops):
            self.assertEqual(EMPTY, shape(0))
        for shape in (path, star, full):
            self.assertEqual(ONE, shape(1))
            self.assertEqual(EDGE, shape(2))
        self.assertEqual(LOOP, ring(1))
        self.assertEqual(EDGE, ring(2))
        self.assertEqual(LOOP, full_with_loops(1))
        self.assertEqual((2, ((0, 0), (0, 1), (1, 1))), full_with_loops(2))

    def test_three_nodes(self):
        self.assertEqual((3, ((0, 1), (1, 2))), path(3))
        self.assertEqual((3, ((0, 1), (0, 2), (1, 2))), ring(3))
        self.assertEqual((3, ((0, 1), (0, 2))), star(3))
        self.assertEqual((3, ((0, 1), (0, 2), (1, 2))), full(3))
        self.assertEqual((3, ((0, 0), (0, 1), (0, 2), (1, 1), (1, 2), (2, 2))), full_with_loops(3))

    def test_greatest_size(self):
        self.assertEqual((64, tuple((k, k + 1) for k in range(63))), path(64))
        self.assertEqual((64, tuple(sorted([(k, k + 1) for k in range(63)] + [(0, 63)]))), ring(64))
        self.assertEqual((64, tuple((0, k) for k in range(1, 64))), star(64))
        self.assertEqual((64, tuple((u, v) for u in range(64) for v in range(u + 1, 64))), full(64))
        self.assertEqual((64, tuple((u, v) for u in range(64) for v in range(u, 64))), full_with_loops(64))

    def test_limit(self):
        for shape in (path, ring, star, full, full_with_loops):
            self.check_web(shape(64))
            for size in (65, 10 ** 30):
                self.check_error(TooLarge, {"limit": 64}, shape, size)


if __name__ == "__main__":
    unittest.main()
