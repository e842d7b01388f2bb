"""Points 22 to 24: all renamings, sorts and symmetries."""

import itertools
import math
import unittest

from tests.helpers import WebCase, every_web, least_code_rows, moved, random_row, random_web, renaming_rows, small_webs
from webnumbers.errors import TooLarge
from webnumbers.shapes import full, full_with_loops, path, ring, star
from webnumbers.sorts import MAX_SORTED, all_renamings, count_symmetries, sort_of, sort_row
from webnumbers.webs import EMPTY, LOOP, ONE


class AllRenamingsTest(WebCase):
    def test_lexicographic_order(self):
        for size in range(7):
            self.assertEqual(list(itertools.permutations(range(size))), list(all_renamings(size)))

    def test_small(self):
        self.assertEqual([()], list(all_renamings(0)))
        self.assertEqual([(0,)], list(all_renamings(1)))
        expected = [(0, 1, 2), (0, 2, 1), (1, 0, 2), (1, 2, 0), (2, 0, 1), (2, 1, 0)]
        self.assertEqual(expected, [row for row in all_renamings(3)])

    def test_limit(self):
        self.assertEqual(720, len(list(all_renamings(6))))
        for size in (7, 10 ** 30):
            self.check_late_error(TooLarge, {"limit": 6}, all_renamings, size)


class SortsTest(WebCase):
    def test_examples(self):
        web = (3, ((0, 1), (1, 2)))
        self.assertEqual((3, ((0, 1), (0, 2))), sort_of(web))
        self.assertEqual((1, 0, 2), sort_row(web))

    def check_sort(self, web):
        row = least_code_rows(web)[0]
        self.assertEqual(row, sort_row(web))
        self.assertEqual(moved(web, row), sort_of(web))

    def test_against_all_renamings(self):
        for web in small_webs(3) + every_web(4)[::31] + every_web(4, loops=False)[::3]:
            self.check_sort(web)
        for seed in range(12):
            self.check_sort(random_web(seed, 5, seed % 2 == 0))

    def test_equal_sorts_of_renamed_webs(self):
        for seed in range(20):
            web = random_web(seed, 5)
            self.assertEqual(sort_of(web), sort_of(moved(web, random_row(seed, 5))))
            self.check_web(sort_of(web))

    def test_unlike_sorts(self):
        webs = every_web(3)
        for a, b in itertools.product(webs[::3], webs):
            self.assertEqual(bool(renaming_rows(a, b)), sort_of(a) == sort_of(b))

    def test_limit(self):
        self.assertEqual(5, MAX_SORTED)
        self.assertEqual(full(5), sort_of(full(5)))
        self.assertEqual((), sort_row(EMPTY))
        self.assertEqual(EMPTY, sort_of(EMPTY))
        for size in (6, 64):
            self.check_error(TooLarge, {"limit": 5}, sort_of, (size, ()))
            self.check_error(TooLarge, {"limit": 5}, sort_row, (size, ()))


class SymmetriesTest(WebCase):
    def test_full_webs_and_webs_without_edges(self):
        for size in range(7):
            for web in (full(size), full_with_loops(size), (size, ())):
                self.assertEqual(math.factorial(size), count_symmetries(web))

    def test_paths_rings_and_stars(self):
        self.assertEqual([1, 1, 2, 2, 2, 2, 2], [count_symmetries(path(size)) for size in range(7)])
        self.assertEqual([1, 2, 6, 8, 10, 12], [count_symmetries(ring(size)) for size in range(1, 7)])
        self.assertEqual([1, 2, 2, 6, 24, 120], [count_symmetries(star(size)) for size in range(1, 7)])

    def test_against_the_renamed_webs(self):
        for web in small_webs(3) + [random_web(k, 5) for k in range(6)]:
            self.assertEqual(len(renaming_rows(web, web)), count_symmetries(web))
            different = {moved(web, row) for row in itertools.permutations(range(web[0]))}
            self.assertEqual(math.factorial(web[0]), len(different) * count_symmetries(web))

    def test_limit(self):
        self.assertEqual([1, 1, 1], [count_symmetries(web) for web in (EMPTY, ONE, LOOP)])
        for size in (7, 64):
            self.check_error(TooLarge, {"limit": 6}, count_symmetries, (size, ()))


if __name__ == "__main__":
    unittest.main()
