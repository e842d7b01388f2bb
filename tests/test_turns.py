"""Points 35 and 36: rows that turn products around, and complements."""

import itertools
import unittest

from tests.helpers import WebCase, random_web, small_webs
from webnumbers.errors import HasLoops
from webnumbers.products import product, sum_webs
from webnumbers.renamings import is_renaming
from webnumbers.shapes import full, path, ring
from webnumbers.turns import complement, spread_row, swap_row
from webnumbers.webs import EDGE, EMPTY, LOOP, ONE


def sample_webs(kind):
    loops = kind == "direct"
    return [EMPTY, ONE, EDGE, (2, ()), path(3)] + [random_web(k, 4, loops) for k in range(2)]


class RowsTest(WebCase):
    def test_entries(self):
        self.assertEqual((0, 2, 4, 1, 3, 5), swap_row(2, 3))
        self.assertEqual((0, 1, 4, 5, 6, 2, 3, 7, 8, 9), spread_row(2, 2, 3))
        self.assertEqual((0, 2, 1, 3), spread_row(2, 1, 1))

    def test_sizes_of_0(self):
        self.assertEqual((), swap_row(0, 0))
        self.assertEqual((), swap_row(0, 5))
        self.assertEqual((), swap_row(5, 0))
        self.assertEqual((), spread_row(0, 2, 3))
        self.assertEqual((), spread_row(3, 0, 0))
        self.assertEqual((0, 1, 2, 3), spread_row(2, 2, 0))
        self.assertEqual((0, 1, 2, 3), spread_row(2, 0, 2))

    def test_no_limit(self):
        row = swap_row(100, 90)
        self.assertEqual(list(range(9000)), sorted(row))
        self.assertEqual(7 * 100 + 99, row[99 * 90 + 7])
        row = spread_row(50, 40, 30)
        self.assertEqual(list(range(3500)), sorted(row))
        self.assertEqual(49 * 40 + 39, row[49 * 70 + 39])
        self.assertEqual(50 * 40 + 49 * 30 + 29, row[49 * 70 + 69])

    def test_swapped_products(self):
        for kind in ("box", "strong", "direct"):
            for a, b in itertools.product(sample_webs(kind), repeat=2):
                row = swap_row(a[0], b[0])
                self.assertTrue(is_renaming(product(kind, a, b), product(kind, b, a), row))

    def test_spread_products(self):
        for kind in ("box", "strong", "direct"):
            for a, b, c in itertools.product(sample_webs(kind), repeat=3):
                row = spread_row(a[0], b[0], c[0])
                left = product(kind, a, sum_webs(b, c))
                right = sum_webs(product(kind, a, b), product(kind, a, c))
                self.assertTrue(is_renaming(left, right, row))


class ComplementTest(WebCase):
    def test_small(self):
        self.assertEqual(EMPTY, complement(EMPTY))
        self.assertEqual(ONE, complement(ONE))
        self.assertEqual((2, ()), complement(EDGE))
        self.assertEqual((4, ((0, 2), (1, 3))), complement(ring(4)))
        self.assertEqual(full(64), complement((64, ())))
        self.assertEqual((64, ()), complement(full(64)))

    def test_there_and_back(self):
        for web in small_webs(4, loops=False) + [random_web(1, 64, False)]:
            other = complement(web)
            self.check_web(other)
            self.assertEqual(web, complement(other))
            self.assertEqual(set(), set(web[1]) & set(other[1]))
            self.assertEqual(web[0] * (web[0] - 1) // 2, len(web[1]) + len(other[1]))

    def test_loops(self):
        self.check_error(HasLoops, {"node": 0}, complement, LOOP)
        self.check_error(HasLoops, {"node": 2}, complement, (4, ((0, 1), (2, 2), (3, 3))))


if __name__ == "__main__":
    unittest.main()
