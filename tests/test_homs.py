"""Points 37 and 38: homs."""

import itertools
import unittest

from tests.helpers import WebCase, every_web, plain_homs, random_web, small_webs
from webnumbers.errors import TooLarge
from webnumbers.homs import MAX_MAPS, count_homs, count_one_to_one, homs, is_hom
from webnumbers.shapes import full, full_with_loops, path, ring
from webnumbers.webs import EDGE, EMPTY, LOOP, ONE

SAMPLES = small_webs(2) + every_web(3)[::5] + [ring(4), random_web(1, 4), random_web(2, 4)]


class IsHomTest(WebCase):
    def test_against_all_maps(self):
        for x, a in itertools.product(SAMPLES, repeat=2):
            rows = plain_homs(x, a)
            for row in itertools.product(range(a[0]), repeat=x[0]):
                self.assertIs(row in rows, is_hom(x, a, row))
                self.assertIs(row in rows, is_hom(x, a, list(row)))

    def test_rows_of_wrong_length(self):
        for row in [(), (0,), (0, 1, 0)]:
            self.assertIs(False, is_hom(EDGE, EDGE, row))
        self.assertIs(True, is_hom(EMPTY, EDGE, ()))
        self.assertIs(True, is_hom(EMPTY, EMPTY, []))
        self.assertIs(False, is_hom(EMPTY, EMPTY, [0]))

    def test_entries_that_are_no_nodes(self):
        for row in [(0, 2), (0, -1), (-1, 0), (-2, -1), (5, 5), (10 ** 30, 0)]:
            self.assertIs(False, is_hom(EDGE, EDGE, row))
            self.assertIs(False, is_hom((2, ()), EDGE, row))
        self.assertIs(False, is_hom(ONE, EMPTY, (0,)))
        self.assertIs(False, is_hom((2, ()), (2, ()), [0, -1]))

    def test_loops(self):
        self.assertIs(True, is_hom(EDGE, LOOP, (0, 0)))
        self.assertIs(False, is_hom(EDGE, ONE, (0, 0)))
        self.assertIs(False, is_hom(LOOP, EDGE, (0,)))
        self.assertIs(True, is_hom(LOOP, (2, ((0, 1), (1, 1))), (1,)))
        self.assertIs(False, is_hom(LOOP, (2, ((0, 1), (1, 1))), (0,)))

    def test_greatest_webs(self):
        self.assertIs(True, is_hom(ring(64), EDGE, [node % 2 for node in range(64)]))
        self.assertIs(False, is_hom(ring(63), EDGE, [node % 2 for node in range(63)]))
        self.assertIs(True, is_hom(full(64), full(64), list(range(63, -1, -1))))


class HomsTest(WebCase):
    def test_example(self):
        self.assertEqual([(0, 1), (1, 0), (2, 2)], list(homs((2, ((0, 1),)), (3, ((0, 1), (2, 2))))))

    def test_against_all_maps(self):
        for x, a in itertools.product(SAMPLES, repeat=2):
            rows = plain_homs(x, a)
            self.assertEqual(rows, list(homs(x, a)))
            self.assertEqual(len(rows), count_homs(x, a))
            different = [row for row in rows if len(set(row)) == len(row)]
            self.assertEqual(len(different), count_one_to_one(x, a))

    def test_empty_webs(self):
        for a in (EMPTY, ONE, LOOP, (64, ())):
            self.assertEqual([()], list(homs(EMPTY, a)))
            self.assertEqual(1, count_homs(EMPTY, a))
            self.assertEqual(1, count_one_to_one(EMPTY, a))
        for x in (ONE, LOOP, EDGE, (64, ())):
            self.assertEqual([], list(homs(x, EMPTY)))
            self.assertEqual(0, count_homs(x, EMPTY))
            self.assertEqual(0, count_one_to_one(x, EMPTY))

    def test_exactly_the_limit(self):
        self.assertEqual(4096, MAX_MAPS)
        self.assertEqual(4096, count_homs((12, ()), (2, ())))
        self.assertEqual(4096, count_homs((6, ()), (4, ())))
        self.assertEqual(4096, count_homs((2, ()), (64, ())))
        self.assertEqual(64 * 63, count_one_to_one((2, ()), (64, ())))
        self.assertEqual(2, count_homs(path(12), EDGE))
        self.assertEqual(4096, count_homs(full(4), full_with_loops(8)))
        self.assertEqual(8 * 7 * 6 * 5, count_one_to_one(full(4), full(8)))
        self.assertEqual(list(itertools.product(range(2), repeat=12)), list(homs((12, ()), (2, ()))))

    def test_more_than_the_limit(self):
        for x, a in [((13, ()), (2, ())), (full(13), EDGE), ((3, ()), (17, ())), ((8, ()), (3, ())),
                     (full(64), (2, ())), ((64, ()), full(64))]:
            self.check_late_error(TooLarge, {"limit": 4096}, homs, x, a)
            self.check_error(TooLarge, {"limit": 4096}, count_homs, x, a)
            self.check_error(TooLarge, {"limit": 4096}, count_one_to_one, x, a)

    def test_webs_of_64_nodes(self):
        self.assertEqual([(0,) * 64], list(homs(full_with_loops(64), LOOP)))
        self.assertEqual([], list(homs(path(64), ONE)))
        self.assertEqual(64, count_homs(ONE, full(64)))
        self.assertEqual(64 * 63, count_homs(EDGE, full(64)))
        self.assertEqual(0, count_one_to_one((64, ()), ONE))
        self.assertEqual(1, count_homs((64, ()), ONE))


if __name__ == "__main__":
    unittest.main()
