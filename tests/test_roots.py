"""Points 65 and 66: roots and quotients of direct products."""

import unittest

from tests.helpers import WebCase, every_web, moved, plain_product, plain_sort, random_row, random_web, small_webs
from webnumbers.catalogue import catalogue
from webnumbers.errors import NoBound, NoRoot, TooLarge
from webnumbers.renamings import find_renaming
from webnumbers.roots import direct_quotients, direct_root
from webnumbers.shapes import full, full_with_loops, path, ring, star
from webnumbers.webs import EDGE, EMPTY, LOOP, ONE

SORTS = catalogue(3, loops=True)
GREAT = (4, 5, 10, 64, 65, 10 ** 30)


def plain_power(web, degree):
    result = LOOP
    for _ in range(degree):
        result = plain_product("direct", result, web)
    return result


class DirectRootTest(WebCase):
    def test_roots_of_powers(self):
        for degree in (1, 2, 3):
            for base in SORTS:
                if base[0] ** degree <= 9:
                    whole = plain_power(base, degree)
                    for seed in range(3):
                        self.assertEqual(base, direct_root(moved(whole, random_row(seed, whole[0])), degree))

    def test_all_webs_of_four_nodes(self):
        squares = {plain_sort(plain_power(base, 2)): base for base in SORTS if base[0] == 2}
        self.assertEqual(6, len(squares))
        for web in every_web(4)[::3]:
            base = squares.get(plain_sort(web))
            if base is None:
                self.check_error(NoRoot, {"degree": 2}, direct_root, web, 2)
            else:
                self.assertEqual(base, direct_root(web, 2))

    def test_first_degree(self):
        for web in small_webs(3):
            self.assertEqual(plain_sort(web), direct_root(web, 1))
        for size in range(4, 10):
            for web in ((size, ()), ring(size), full(size)):
                self.check_error(TooLarge, {"limit": 3}, direct_root, web, 1)

    def test_great_degrees(self):
        for degree in GREAT:
            for web in (EMPTY, ONE, LOOP):
                self.assertEqual(web, direct_root(web, degree))
            for size in range(2, 10):
                for web in (full(size), full_with_loops(size), (size, ())):
                    self.check_error(NoRoot, {"degree": degree}, direct_root, web, degree)
        for degree in (1, 2, 3):
            for web in (EMPTY, ONE, LOOP):
                self.assertEqual(web, direct_root(web, degree))

    def test_sizes_without_a_root(self):
        for degree, sizes in [(2, (2, 3, 5, 6, 7, 8)), (3, (2, 3, 4, 5, 6, 7, 9))]:
            for size in sizes:
                for web in ((size, ()), path(size), full_with_loops(size)):
                    self.check_error(NoRoot, {"degree": degree}, direct_root, web, degree)

    def test_webs_without_a_root(self):
        for web, degree in [(path(4), 2), (ring(9), 2), (full(4), 2), (path(8), 3), (full(8), 3), (full(9), 2)]:
            self.check_error(NoRoot, {"degree": degree}, direct_root, web, degree)

    def test_too_large_comes_first(self):
        for size in (10, 16, 25, 27, 64):
            for degree in (1, 2, 3, *GREAT):
                self.check_error(TooLarge, {"limit": 9}, direct_root, (size, ()), degree)

    def test_nine_nodes(self):
        self.assertEqual(full_with_loops(3), direct_root(full_with_loops(9), 2))
        self.assertEqual((3, ()), direct_root((9, ()), 2))
        self.assertEqual((2, ()), direct_root((8, ()), 3))
        self.assertEqual(full_with_loops(2), direct_root(full_with_loops(8), 3))


class DirectQuotientsTest(WebCase):
    def test_example(self):
        found = direct_quotients((4, ((0, 3), (1, 2))), (2, ((0, 1),)))
        self.assertEqual([(2, ((0, 1),)), (2, ((0, 0), (1, 1)))], found)

    def test_quotients_of_products(self):
        for factor in SORTS[1:] + [path(4), ring(4), (5, ()), (4, ((0, 1), (2, 2)))]:
            products = [(q, plain_product("direct", q, factor)) for q in SORTS if q[0] * factor[0] <= 9]
            for seed, (base, whole) in enumerate(products):
                expected = [q for q, other in products if find_renaming(whole, other) is not None]
                self.assertIn(base, expected)
                self.assertEqual(expected, direct_quotients(moved(whole, random_row(seed, whole[0])), factor))

    def test_webs_that_are_no_products(self):
        self.assertEqual([], direct_quotients(star(4), EDGE))
        self.assertEqual([], direct_quotients(full(4), EDGE))
        self.assertEqual([], direct_quotients(ring(6), path(3)))
        self.assertEqual([], direct_quotients(full(9), full(3)))
        self.assertEqual([], direct_quotients(random_web(1, 6), EDGE))
        self.assertEqual([], direct_quotients(full(3), ONE))

    def test_several_quotients(self):
        two = [web for web in SORTS if web[0] == 2]
        three = [web for web in SORTS if web[0] == 3]
        self.assertEqual([6, 20], [len(two), len(three)])
        self.assertEqual(two, direct_quotients((4, ()), (2, ())))
        self.assertEqual(three, direct_quotients((3, ()), ONE))
        self.assertEqual(three, direct_quotients((9, ()), (3, ())))
        self.assertEqual([ONE, LOOP], direct_quotients((9, ()), (9, ())))
        self.assertEqual([EDGE, (2, ((0, 0), (1, 1)))], direct_quotients((4, ((0, 1), (2, 3))), EDGE))

    def test_quotients_by_loop(self):
        for web in small_webs(3):
            self.assertEqual([plain_sort(web)], direct_quotients(web, LOOP))
        for size in range(4, 10):
            self.check_error(TooLarge, {"limit": 3}, direct_quotients, (size, ()), LOOP)

    def test_empty_factor(self):
        self.check_error(NoBound, {}, direct_quotients, EMPTY, EMPTY)
        for web in (ONE, LOOP, path(9), path(10), full(64)):
            self.assertEqual([], direct_quotients(web, EMPTY))

    def test_quotients_of_empty(self):
        for factor in (ONE, LOOP, EDGE, path(9), path(10), full(64)):
            self.assertEqual([EMPTY], direct_quotients(EMPTY, factor))

    def test_too_large_comes_before_the_division(self):
        for size in (10, 11, 64):
            for factor in (ONE, LOOP, EDGE, path(3), (size, ()), (64, ())):
                self.check_error(TooLarge, {"limit": 9}, direct_quotients, (size, ()), factor)

    def test_sizes_that_do_not_divide(self):
        for size, other in [(9, 2), (9, 4), (7, 2), (5, 2), (8, 3), (1, 2), (9, 10), (9, 64), (2, 3)]:
            self.assertEqual([], direct_quotients((size, ()), (other, ())))
            self.assertEqual([], direct_quotients(full_with_loops(size), full_with_loops(other)))

    def test_too_large_quotients(self):
        for size, other in [(4, 1), (9, 1), (8, 2)]:
            self.check_error(TooLarge, {"limit": 3}, direct_quotients, full(size), full(other))
        self.assertEqual([full_with_loops(3)], direct_quotients(full_with_loops(9), full_with_loops(3)))
        self.assertEqual([full_with_loops(2)], direct_quotients(full_with_loops(8), full_with_loops(4)))

    def test_a_changed_list_does_not_change_the_next_answer(self):
        direct_quotients(LOOP, LOOP).append(ONE)
        self.assertEqual([LOOP], direct_quotients(LOOP, LOOP))


if __name__ == "__main__":
    unittest.main()
