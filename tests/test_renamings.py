"""Point 12: renamings between webs."""

import itertools
import unittest

from tests.helpers import WebCase, every_web, moved, random_row, random_web, renaming_rows, small_webs
from webnumbers.errors import TooLarge
from webnumbers.products import product, sum_webs
from webnumbers.renamings import MAX_RENAMED, find_renaming, inverse_row, is_renaming
from webnumbers.shapes import full, full_with_loops, path, ring, star
from webnumbers.turns import complement
from webnumbers.webs import EDGE, EMPTY, LOOP, ONE, make_web


class IsRenamingTest(WebCase):
    def test_against_all_renamings(self):
        webs = small_webs(2) + every_web(3)[::7]
        for a, b in itertools.product(webs, webs):
            rows = renaming_rows(a, b)
            for row in itertools.product(range(a[0]), repeat=a[0]):
                self.assertIs(row in rows, is_renaming(a, b, row))

    def test_rows_that_rename_nothing(self):
        for row in [(), (0,), (0, 1, 2), (0, 0), (1, 1), (-1, 0), (0, 2), (-2, -1), [1, 0, 1]]:
            self.assertIs(False, is_renaming(EDGE, EDGE, row))
        self.assertIs(True, is_renaming(EDGE, EDGE, [1, 0]))
        self.assertIs(True, is_renaming(EMPTY, EMPTY, ()))
        self.assertIs(False, is_renaming(EMPTY, EMPTY, (0,)))

    def test_webs_of_unlike_sizes(self):
        self.assertIs(False, is_renaming((2, ()), (3, ()), (0, 1)))
        self.assertIs(False, is_renaming((2, ()), (3, ()), (0, 1, 2)))

    def test_greatest_webs(self):
        web, row = random_web(4, 64), random_row(5, 64)
        self.assertIs(True, is_renaming(web, moved(web, row), row))
        self.assertIs(False, is_renaming(web, web, row))


class FindRenamingTest(WebCase):
    def test_example(self):
        row = find_renaming((3, ((0, 1), (1, 2))), (3, ((0, 1), (0, 2))))
        self.assertEqual((1, 0, 2), row)

    def test_the_least_of_all_rows(self):
        for a, b in itertools.product(small_webs(3), small_webs(3)):
            rows = renaming_rows(a, b)
            self.assertEqual(rows[0] if rows else None, find_renaming(a, b))

    def test_the_least_of_all_rows_of_greater_webs(self):
        for seed in range(60):
            size = 4 + seed % 3
            a = random_web(seed, size, seed % 2 == 0, 0.5)
            b = moved(a, random_row(seed, size))
            self.assertEqual(renaming_rows(a, b)[0], find_renaming(a, b))

    def test_webs_with_equal_degrees(self):
        a, b = ring(6), sum_webs(ring(3), ring(3))
        self.assertIsNone(find_renaming(a, b))
        self.assertIsNone(find_renaming(complement(a), complement(b)))
        self.assertIsNone(find_renaming((2, ((0, 0),)), (2, ((0, 1),))))

    def test_unlike_numbers_of_nodes(self):
        self.assertIsNone(find_renaming(EMPTY, ONE))
        self.assertIsNone(find_renaming((10, ()), (9, ())))
        self.assertIsNone(find_renaming((9, ()), (10, ())))
        self.assertIsNone(find_renaming((63, ()), (64, ())))

    def test_limits(self):
        self.assertEqual(9, MAX_RENAMED)
        self.assertEqual(tuple(range(9)), find_renaming(path(9), path(9)))
        self.check_error(TooLarge, {"limit": 9}, find_renaming, (10, ()), (10, ()))
        self.check_error(TooLarge, {"limit": 9}, find_renaming, path(10), star(10))
        self.check_error(TooLarge, {"limit": 9}, find_renaming, (64, ()), (64, ()))

    def test_small(self):
        self.assertEqual((), find_renaming(EMPTY, EMPTY))
        self.assertEqual((0,), find_renaming(ONE, ONE))
        self.assertIsNone(find_renaming(ONE, LOOP))

    def test_nine_nodes_of_the_same_sort(self):
        for web in NINES:
            for seed in range(3):
                b = moved(web, random_row(seed, 9))
                self.assertTrue(is_renaming(web, b, self.quickly(find_renaming, web, b)))
                self.assertEqual(tuple(range(9)), self.quickly(find_renaming, web, web))

    def test_nine_nodes_of_different_sorts(self):
        for (place, a), (other, b) in itertools.product(enumerate(NINES), enumerate(NINES)):
            if place != other:
                moved_a, moved_b = moved(a, random_row(place, 9)), moved(b, random_row(other, 9))
                self.assertIsNone(self.quickly(find_renaming, moved_a, moved_b))

    def test_one_edge_more(self):
        for web in NINES:
            for extra in [(u, v) for u in range(9) for v in range(u, 9) if (u, v) not in web[1]][::5]:
                self.assertIsNone(self.quickly(find_renaming, web, make_web(9, [*web[1], extra])))


def rings(*sizes):
    return sum_webs(*[ring(size) for size in sizes])


NINES = [
    (9, ()),
    full(9),
    full_with_loops(9),
    ring(9),
    rings(3, 6),
    rings(4, 5),
    rings(3, 3, 3),
    sum_webs(ring(6), (3, ())),
    sum_webs(ring(3), ring(3), (3, ())),
    complement(ring(9)),
    complement(rings(3, 6)),
    complement(rings(4, 5)),
    complement(rings(3, 3, 3)),
    product("box", full(3), full(3)),
    product("box", path(3), path(3)),
    product("strong", path(3), path(3)),
    product("levels", path(3), full(3)),
    product("direct", full_with_loops(3), path(3)),
    sum_webs(EDGE, EDGE, EDGE, EDGE, ONE),
    sum_webs(EDGE, EDGE, EDGE, EDGE, LOOP),
    star(9),
    complement(star(9)),
    path(9),
    random_web(1, 9),
    random_web(2, 9, False),
]


class InverseRowTest(WebCase):
    def test_small(self):
        self.assertEqual((), inverse_row(()))
        self.assertEqual((2, 0, 1), inverse_row([1, 2, 0]))
        self.assertEqual((2, 0, 1), inverse_row((1, 2, 0)))

    def test_there_and_back(self):
        for size in (1, 5, 64):
            row = random_row(size, size)
            back = inverse_row(row)
            self.assertIs(tuple, back.__class__)
            self.assertEqual(list(range(size)), [back[row[node]] for node in range(size)])

    def test_arguments_are_not_modified(self):
        row = [1, 2, 0]
        inverse_row(row)
        self.assertEqual([1, 2, 0], row)


if __name__ == "__main__":
    unittest.main()
