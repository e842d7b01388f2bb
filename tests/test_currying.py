"""Points 49 to 51: maps from and to products."""

import itertools
import unittest

from tests.helpers import WebCase, every_map, random_web, small_webs
from webnumbers.currying import curried, parted_row, uncurried
from webnumbers.errors import TooLarge
from webnumbers.homs import is_hom
from webnumbers.powers import map_number, power
from webnumbers.products import product
from webnumbers.renamings import is_renaming
from webnumbers.shapes import path, ring
from webnumbers.webs import EDGE, LOOP, ONE

SIZES = [(2, 2, 2), (1, 3, 2), (3, 1, 2), (2, 2, 3), (3, 2, 1), (2, 3, 2), (0, 2, 3), (2, 0, 3), (0, 0, 0), (3, 0, 0)]


class CurriedTest(WebCase):
    def test_example(self):
        rows = [curried(2, 3, 2, [1, 0, 1, 0, 1, 1]), uncurried(2, 3, 2, [5, 3])]
        self.assertEqual([(5, 3), (1, 0, 1, 0, 1, 1)], rows)

    def test_there_and_back(self):
        for x, a, b in SIZES:
            for row in itertools.product(range(b), repeat=x * a):
                numbers = tuple(map_number(b, row[k * a:k * a + a]) for k in range(x))
                self.assertEqual(numbers, curried(x, a, b, row))
                self.assertEqual(numbers, curried(x, a, b, list(row)))
                self.assertEqual(row, uncurried(x, a, b, numbers))
                self.assertEqual(row, uncurried(x, a, b, list(numbers)))

    def test_back_and_there(self):
        for x, a, b in SIZES:
            for numbers in itertools.product(range(b ** a), repeat=x):
                self.assertEqual(numbers, curried(x, a, b, uncurried(x, a, b, numbers)))

    def test_sizes_of_zero(self):
        self.assertEqual((0, 0, 0), curried(3, 0, 5, []))
        self.assertEqual((0,) * 64, curried(64, 0, 0, ()))
        self.assertEqual((), uncurried(3, 0, 5, [0, 0, 0]))
        self.assertEqual((), uncurried(3, 0, 0, (0, 0, 0)))
        self.assertEqual((), curried(0, 5, 5, []))
        self.assertEqual((), uncurried(0, 5, 5, []))
        self.assertEqual((), curried(0, 7, 0, []))
        self.assertEqual((), uncurried(0, 7, 0, []))

    def test_great_numbers(self):
        row = tuple((k * k * 7 + k // 64) % 64 for k in range(64 * 64))
        numbers = curried(64, 64, 64, row)
        self.assertEqual(64, len(numbers))
        self.assertEqual(sum(entry * 64 ** (63 - k) for k, entry in enumerate(row[-64:])), numbers[-1])
        self.assertEqual(row, uncurried(64, 64, 64, numbers))
        self.assertEqual((63,) * 64, uncurried(1, 64, 64, [64 ** 64 - 1]))

    def test_homs_stay_homs(self):
        webs = [ONE, LOOP, EDGE, (2, ((0, 0), (0, 1))), path(3)]
        for x, a, b in itertools.product(webs, repeat=3):
            if b[0] ** (x[0] * a[0]) <= 600 and b[0] ** a[0] <= 64:
                source, goal = product("direct", x, a), power(b, a)
                for row in every_map(source, b):
                    told = curried(x[0], a[0], b[0], row)
                    self.assertEqual(is_hom(source, b, row), is_hom(x, goal, told))

    def test_arguments_are_not_modified(self):
        row, numbers = [1, 0, 1, 0], [2, 2]
        curried(2, 2, 2, row)
        uncurried(2, 2, 2, numbers)
        self.assertEqual([[1, 0, 1, 0], [2, 2]], [row, numbers])


class PartedRowTest(WebCase):
    def test_example(self):
        self.assertEqual((0, 1, 4, 5, 2, 3, 6, 7, 8, 9, 12, 13, 10, 11, 14, 15), parted_row(2, 2, 2))

    def test_renames_the_power_of_a_product(self):
        webs = small_webs(2) + [path(3), ring(3), random_web(1, 3)]
        for b, c, a in itertools.product(webs, repeat=3):
            if (b[0] * c[0]) ** a[0] <= 64 and b[0] ** a[0] <= 64 and c[0] ** a[0] <= 64:
                whole = power(product("direct", b, c), a)
                parts = product("direct", power(b, a), power(c, a))
                self.assertTrue(is_renaming(whole, parts, parted_row(b[0], c[0], a[0])))

    def test_against_the_two_maps(self):
        for b, c, a in [(2, 3, 2), (3, 2, 2), (1, 4, 3), (4, 1, 3), (2, 2, 3), (7, 9, 1)]:
            expected = []
            for row in itertools.product(range(b * c), repeat=a):
                first, second = [entry // c for entry in row], [entry % c for entry in row]
                expected.append(map_number(b, first) * c ** a + map_number(c, second))
            self.assertEqual(tuple(expected), parted_row(b, c, a))

    def test_sizes_of_zero(self):
        for b, c in [(0, 0), (0, 5), (5, 0), (64, 64)]:
            self.assertEqual((0,), parted_row(b, c, 0))
        for b, c in [(0, 0), (0, 5), (5, 0), (0, 64)]:
            self.assertEqual((), parted_row(b, c, 1))
            self.assertEqual((), parted_row(b, c, 64))

    def test_exactly_the_limit(self):
        for b, c, a in [(8, 8, 1), (64, 1, 1), (1, 64, 1), (4, 2, 2), (2, 2, 3), (2, 1, 6), (1, 2, 6)]:
            self.assertEqual(list(range(64)), sorted(parted_row(b, c, a)))
        self.assertEqual((0,), parted_row(1, 1, 64))

    def test_more_than_the_limit(self):
        for b, c, a in [(5, 13, 1), (3, 3, 2), (5, 1, 3), (2, 2, 4), (2, 1, 7), (64, 2, 1), (1, 2, 64), (64, 64, 64)]:
            self.check_error(TooLarge, {"limit": 64}, parted_row, b, c, a)


if __name__ == "__main__":
    unittest.main()
