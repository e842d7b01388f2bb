"""Point 52: least homs and ranks."""

import itertools
import unittest

from tests.helpers import WebCase, every_web, plain_homs, random_web, small_webs
from webnumbers.errors import TooLarge
from webnumbers.ranks import first_hom, leads, same_rank
from webnumbers.shapes import full, full_with_loops, path, ring
from webnumbers.webs import EDGE, EMPTY, LOOP, ONE

SAMPLES = small_webs(2) + every_web(3)[::5] + [ring(4), random_web(1, 4), random_web(2, 4)]
TOO_MANY = [((13, ()), (2, ())), (full(13), EDGE), ((3, ()), (17, ())), (path(8), full(3)), (full(64), full(64))]


class FirstHomTest(WebCase):
    def test_against_all_maps(self):
        for x, a in itertools.product(SAMPLES, repeat=2):
            rows = plain_homs(x, a)
            self.assertEqual(rows[0] if rows else None, first_hom(x, a))
            self.assertIs(bool(rows), leads(x, a))

    def test_small(self):
        self.assertEqual((), first_hom(EMPTY, EMPTY))
        self.assertEqual((), first_hom(EMPTY, full(64)))
        self.assertIsNone(first_hom(ONE, EMPTY))
        self.assertEqual((1, 1), first_hom(EDGE, (2, ((1, 1),))))
        self.assertEqual((1, 2, 1), first_hom(path(3), (3, ((1, 2),))))
        self.assertIsNone(first_hom(ring(5), EDGE))
        self.assertEqual((0, 1, 0, 1, 2), first_hom(ring(5), full(3)))

    def test_exactly_4096_maps(self):
        self.assertEqual((0, 1) * 6, first_hom(ring(12), EDGE))
        self.assertIsNone(first_hom(full(12), EDGE))
        self.assertEqual((0, 1), first_hom(EDGE, full(64)))
        self.assertIs(True, leads((6, ()), (4, ())))
        self.assertIs(False, leads(full(6), full(4)))

    def test_more_maps(self):
        for x, a in TOO_MANY:
            self.check_error(TooLarge, {"limit": 4096}, first_hom, x, a)
            self.check_error(TooLarge, {"limit": 4096}, leads, x, a)


class SameRankTest(WebCase):
    def test_against_all_maps(self):
        for a, b in itertools.product(SAMPLES, repeat=2):
            self.assertIs(bool(plain_homs(a, b) and plain_homs(b, a)), same_rank(a, b))

    def test_small(self):
        self.assertIs(True, same_rank(EMPTY, EMPTY))
        self.assertIs(False, same_rank(EMPTY, ONE))
        self.assertIs(False, same_rank(ONE, EMPTY))
        self.assertIs(True, same_rank(ONE, (3, ())))
        self.assertIs(True, same_rank(EDGE, ring(4)))
        self.assertIs(False, same_rank(ring(5), ring(3)))
        self.assertIs(False, same_rank(ring(3), ring(5)))
        self.assertIs(True, same_rank(LOOP, full_with_loops(5)))

    def test_exactly_4096_maps_in_one_direction(self):
        self.assertIs(True, same_rank(ring(12), EDGE))
        self.assertIs(True, same_rank(EDGE, ring(12)))
        self.assertIs(False, same_rank((2, ()), full(12)))

    def test_too_many_maps_in_one_direction_only(self):
        for x, a in TOO_MANY:
            self.check_error(TooLarge, {"limit": 4096}, same_rank, x, a)
            self.check_error(TooLarge, {"limit": 4096}, same_rank, a, x)

    def test_too_many_maps_although_the_other_direction_tells(self):
        loops = (2, ((0, 0), (1, 1)))
        self.assertIs(False, leads(loops, path(13)))
        self.assertIs(False, leads(full(3), (8, ())))
        for a, b in [(loops, path(13)), (full(3), (8, ()))]:
            self.check_error(TooLarge, {"limit": 4096}, same_rank, a, b)
            self.check_error(TooLarge, {"limit": 4096}, same_rank, b, a)


if __name__ == "__main__":
    unittest.main()
