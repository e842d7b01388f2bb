"""Points 42 to 44: what counts of homs tell."""

import itertools
import unittest

from tests.helpers import WebCase, every_web, moved, plain_homs, random_web, renaming_rows, small_webs
from webnumbers.catalogue import catalogue
from webnumbers.errors import TooLarge
from webnumbers.homs import count_homs
from webnumbers.shapes import full, full_with_loops, path, ring, star
from webnumbers.telling import hom_profile, telling_web
from webnumbers.webs import EDGE, EMPTY, LOOP, ONE

TWO_LOOPS = (2, ((0, 0), (1, 1)))
PLAIN_COUNTS = {}


def plain_count(x, a):
    """Return the number of homs, found once for each pair of webs."""
    if (x, a) not in PLAIN_COUNTS:
        PLAIN_COUNTS[x, a] = len(plain_homs(x, a))
    return PLAIN_COUNTS[x, a]


def plain_telling_web(a, b):
    """Return what the first web of the catalogue with unlike numbers of homs tells, or None."""
    loops = any(u == v for u, v in a[1] + b[1])
    for x in catalogue(max(a[0], b[0]), loops=loops):
        counts = (plain_count(x, a), plain_count(x, b))
        if counts[0] != counts[1]:
            return (x, *counts)
    return None


class HomProfileTest(WebCase):
    def test_against_all_maps(self):
        for a in small_webs(2) + [path(3), random_web(1, 3), random_web(2, 4), full_with_loops(3)]:
            for limit in range(4):
                looped = [plain_count(x, a) for x in catalogue(limit, loops=True)]
                self.assertEqual(looped, hom_profile(a, limit, loops=True))
            for limit in range(5):
                simple = [plain_count(x, a) for x in catalogue(limit)]
                self.assertEqual(simple, hom_profile(a, limit))
                self.assertEqual(simple, hom_profile(a, limit, loops=False))

    def test_small(self):
        self.assertEqual([1, 3, 9, 4], hom_profile(path(3), 2))
        self.assertEqual([1, 3, 0], hom_profile(path(3), 1, loops=True))
        self.assertEqual([1] + [0] * 18, hom_profile(EMPTY, 4))
        self.assertEqual([1] * 29, hom_profile(LOOP, 3, loops=True))
        self.assertEqual([1], hom_profile(full(64), 0))

    def test_exactly_the_limit(self):
        self.assertEqual([1, 64, 4096, 0], hom_profile((64, ()), 2))
        self.assertEqual([1, 64, 64, 4096], hom_profile(full_with_loops(64), 2, loops=True)[:4])
        self.assertEqual([1, 16, 256, 0, 4096, 0, 0, 0], hom_profile((16, ()), 3))
        self.assertEqual(4096, max(hom_profile(full(8), 4)))

    def test_too_many_maps(self):
        for size, limit in [(9, 4), (64, 4), (17, 3), (64, 3)]:
            self.check_error(TooLarge, {"limit": 4096}, hom_profile, (size, ()), limit)
        for size in (17, 64):
            self.check_error(TooLarge, {"limit": 4096}, hom_profile, full(size), 3, loops=True)

    def test_errors_of_the_catalogue_come_first(self):
        for a in (EMPTY, ONE, full(9), full(64)):
            for limit in (5, 6, 10 ** 30):
                self.check_error(TooLarge, {"limit": 4}, hom_profile, a, limit)
                self.check_error(TooLarge, {"limit": 4}, hom_profile, a, limit, loops=False)
            for limit in (4, 5, 10 ** 30):
                self.check_error(TooLarge, {"limit": 3}, hom_profile, a, limit, loops=True)

    def test_loops_are_passed_by_keyword(self):
        with self.assertRaises(TypeError):
            hom_profile(EDGE, 2, True)

    def test_a_changed_list_does_not_change_the_next_answer(self):
        hom_profile(EDGE, 1).append(9)
        self.assertEqual([1, 2], hom_profile(EDGE, 1))


class TellingWebTest(WebCase):
    def test_example(self):
        self.assertEqual(((3, ((0, 1), (0, 2))), 12, 10), telling_web(star(4), path(4)))

    def test_renamed_webs(self):
        for web in small_webs(3):
            for row in itertools.permutations(range(web[0])):
                self.assertIsNone(telling_web(web, moved(web, row)))
        for web in every_web(4, loops=False)[::11]:
            self.assertIsNone(telling_web(web, moved(web, (2, 0, 3, 1))))

    def test_the_first_web_that_tells(self):
        webs = small_webs(2) + every_web(3)[::3]
        for a, b in itertools.product(webs, webs):
            self.assertEqual(plain_telling_web(a, b), telling_web(a, b))

    def test_the_first_web_that_tells_four_nodes(self):
        for a, b in itertools.product(catalogue(4), every_web(4, loops=False)[::7]):
            told = telling_web(a, b)
            self.assertEqual(plain_telling_web(a, b), told)
            self.assertEqual(told is None, renaming_rows(a, b) != [])

    def test_the_numbers_belong_to_the_webs_in_order(self):
        x, first, second = telling_web(path(4), star(4))
        self.assertEqual([10, 12], [first, second])
        self.assertEqual([first, second], [count_homs(x, path(4)), count_homs(x, star(4))])

    def test_the_catalogue_has_loops_if_one_of_the_webs_has(self):
        self.assertEqual((LOOP, 0, 2), telling_web(EDGE, TWO_LOOPS))
        self.assertEqual((LOOP, 2, 0), telling_web(TWO_LOOPS, EDGE))
        self.assertEqual((ONE, 0, 1), telling_web(EMPTY, LOOP))
        self.assertEqual((EDGE, 0, 2), telling_web((2, ()), EDGE))

    def test_too_large_with_loops(self):
        looped = (4, ((3, 3),))
        for a, b in [(looped, looped), (full_with_loops(4), EMPTY), (EMPTY, full_with_loops(4)),
                     (LOOP, path(4)), (path(4), LOOP), (LOOP, path(5)), (path(64), LOOP), (looped, path(5)),
                     (full_with_loops(64), full_with_loops(64)), (full_with_loops(3), (4, ()))]:
            self.check_error(TooLarge, {"limit": 3}, telling_web, a, b)

    def test_too_large_without_loops(self):
        for a, b in [(path(5), path(5)), (EMPTY, (5, ())), (ring(5), ONE), (full(64), full(64)), (path(4), path(5))]:
            self.check_error(TooLarge, {"limit": 4}, telling_web, a, b)

    def test_exactly_the_limits(self):
        self.assertIsNone(telling_web(full_with_loops(3), full_with_loops(3)))
        self.assertIsNone(telling_web(full(4), full(4)))
        self.assertEqual((ONE, 4, 0), telling_web(full(4), EMPTY))
        self.assertEqual((ONE, 3, 1), telling_web((3, ((1, 1),)), ONE))


if __name__ == "__main__":
    unittest.main()
