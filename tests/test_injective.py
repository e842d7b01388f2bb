"""Point 41: one-to-one homs and homs, each counted by the other ones."""

import itertools
import unittest

from tests.helpers import WebCase, every_web, plain_homs, random_web, small_webs
from webnumbers.errors import TooLarge
from webnumbers.homs import count_homs, count_one_to_one
from webnumbers.injective import homs_by_one_to_one, one_to_one_by_homs
from webnumbers.shapes import full, full_with_loops, path, ring
from webnumbers.webs import EDGE, EMPTY, LOOP, ONE

SAMPLES = small_webs(2) + every_web(3)[::9] + [path(4), ring(4), random_web(1, 4), random_web(2, 4)]
BOTH = (one_to_one_by_homs, homs_by_one_to_one)


class BothCountsTest(WebCase):
    def check_counts(self, x, a):
        self.assertEqual(count_one_to_one(x, a), one_to_one_by_homs(x, a))
        self.assertEqual(count_homs(x, a), homs_by_one_to_one(x, a))

    def test_against_all_maps(self):
        for x, a in itertools.product(SAMPLES, repeat=2):
            rows = plain_homs(x, a)
            different = [row for row in rows if len(set(row)) == len(row)]
            self.assertEqual(len(different), one_to_one_by_homs(x, a))
            self.assertEqual(len(rows), homs_by_one_to_one(x, a))

    def test_empty_webs(self):
        for a in (EMPTY, ONE, LOOP, EDGE, full(64)):
            self.assertEqual([1, 1], [function(EMPTY, a) for function in BOTH])
        for x in (ONE, LOOP, EDGE, path(6)):
            self.assertEqual([0, 0], [function(x, EMPTY) for function in BOTH])

    def test_loops(self):
        self.assertEqual([2, 2], [function(LOOP, (3, ((0, 0), (2, 2)))) for function in BOTH])
        self.assertEqual([0, 1], [function(EDGE, LOOP) for function in BOTH])
        self.assertEqual([2, 4], [function(EDGE, full_with_loops(2)) for function in BOTH])
        self.assertEqual([0, 0], [function(LOOP, full(5)) for function in BOTH])

    def test_five_and_six_nodes(self):
        self.assertEqual([120, 120], [function(full(5), full(5)) for function in BOTH])
        self.assertEqual([10, 10], [function(ring(5), ring(5)) for function in BOTH])
        self.check_counts(path(5), random_web(3, 5))
        self.assertEqual([0, 4 * 3 ** 5], [function(path(6), full(4)) for function in BOTH])
        self.check_counts(ring(6), random_web(4, 4))

    def test_exactly_the_limits(self):
        self.assertEqual([0, 4096], [function((6, ()), (4, ())) for function in BOTH])
        self.assertEqual([16 * 15 * 14, 4096], [function((3, ()), (16, ())) for function in BOTH])
        self.assertEqual([64 * 63, 4096], [function((2, ()), (64, ())) for function in BOTH])

    def test_too_many_nodes_come_first(self):
        for function in BOTH:
            for size in (7, 64):
                for a in (EMPTY, ONE, LOOP, full(2), full(64)):
                    self.check_error(TooLarge, {"limit": 6}, function, (size, ()), a)
                    self.check_error(TooLarge, {"limit": 6}, function, full(size), a)

    def test_too_many_maps(self):
        for function in BOTH:
            for x, a in [((6, ()), (5, ())), (full(6), full(5)), ((3, ()), (17, ())), ((6, ()), full(64))]:
                self.check_error(TooLarge, {"limit": 4096}, function, x, a)


if __name__ == "__main__":
    unittest.main()
