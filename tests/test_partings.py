"""Points 39 and 40: partings, their signs and gathered webs."""

import itertools
import math
import unittest

from tests.helpers import WebCase, random_web, web_of_ties
from webnumbers.errors import InvalidRow, TooLarge
from webnumbers.partings import MAX_PARTED, gathered, parting_sign, partings
from webnumbers.shapes import full, path, ring
from webnumbers.webs import EDGE, EMPTY, LOOP


def plain_partings(size):
    """Return all rows in which each entry is at most the greatest earlier one plus 1."""
    rows = itertools.product(range(size), repeat=size)
    return [row for row in rows if all(row[k] <= max(row[:k], default=-1) + 1 for k in range(size))]


class PartingsTest(WebCase):
    def test_example(self):
        self.assertEqual([(0, 0, 0), (0, 0, 1), (0, 1, 0), (0, 1, 1), (0, 1, 2)], list(partings(3)))

    def test_against_all_rows(self):
        for size in range(7):
            self.assertEqual(plain_partings(size), list(partings(size)))

    def test_numbers(self):
        self.assertEqual([1, 1, 2, 5, 15, 52, 203], [len(list(partings(size))) for size in range(7)])
        self.assertEqual([()], list(partings(0)))
        self.assertEqual([(0,)], [row for row in partings(1)])

    def test_limit(self):
        self.assertEqual(6, MAX_PARTED)
        for size in (7, 10 ** 30):
            self.check_late_error(TooLarge, {"limit": 6}, partings, size)


class PartingSignTest(WebCase):
    def test_example(self):
        self.assertEqual(-2, parting_sign((0, 1, 0, 0, 1)))

    def test_one_class(self):
        for size in range(1, 8):
            expected = (-1) ** (size - 1) * math.factorial(size - 1)
            self.assertEqual(expected, parting_sign([0] * size))
            self.assertEqual(expected, parting_sign([-5] * size))

    def test_several_rows(self):
        self.assertEqual(1, parting_sign(()))
        self.assertEqual(1, parting_sign([]))
        self.assertEqual(1, parting_sign((3, 1, 2)))
        self.assertEqual(1, parting_sign((0, 1, 1, 0)))
        self.assertEqual(-1, parting_sign((-1, 10 ** 30, 7, 10 ** 30)))
        self.assertEqual(-12, parting_sign([9, 9, 9, -9, 9, -9, -9, 4]))

    def test_against_the_classes(self):
        for row in itertools.product((-2, 0, 5), repeat=5):
            expected = 1
            for entry in set(row):
                expected *= (-1) ** (row.count(entry) - 1) * math.factorial(row.count(entry) - 1)
            self.assertEqual(expected, parting_sign(row))

    def test_signs_of_all_partings(self):
        # The signs of all partings of two or more nodes cancel out.
        self.assertEqual([1, 1, 0, 0, 0, 0, 0], [sum(map(parting_sign, list(partings(n)))) for n in range(7)])


class GatheredTest(WebCase):
    def test_edges_and_loops_inside_a_class(self):
        self.assertEqual(LOOP, gathered(EDGE, (0, 0)))
        self.assertEqual(EDGE, gathered(EDGE, [0, 1]))
        self.assertEqual((2, ((0, 1),)), gathered(path(3), (0, 1, 0)))
        self.assertEqual((2, ((0, 0), (0, 1))), gathered(path(3), (0, 0, 1)))
        self.assertEqual((2, ((1, 1),)), gathered((3, ((2, 2),)), (0, 1, 1)))
        self.assertEqual((2, ((0, 1),)), gathered(ring(4), (0, 1, 0, 1)))
        self.assertEqual(EMPTY, gathered(EMPTY, ()))

    def test_rows_that_are_not_partings(self):
        self.assertEqual((2, ((0, 1),)), gathered(EDGE, (1, 0)))
        self.assertEqual((3, ((0, 2), (1, 2))), gathered(path(3), (0, 2, 1)))

    def test_against_the_edges(self):
        web = random_web(6, 5)
        for row in plain_partings(5):
            expected = web_of_ties(max(row) + 1, [(row[u], row[v]) for u, v in web[1]])
            self.assertEqual(expected, gathered(web, row))

    def test_errors(self):
        self.check_error(InvalidRow, {"place": -1}, gathered, full(3), (0, 1))
        self.check_error(InvalidRow, {"place": -1}, gathered, full(3), (0, 1, 5, 9))
        self.check_error(InvalidRow, {"place": -1}, gathered, EMPTY, (0,))
        self.check_error(InvalidRow, {"place": -1}, gathered, EDGE, ())
        self.check_error(InvalidRow, {"place": 1}, gathered, full(3), (0, 2, 0))
        self.check_error(InvalidRow, {"place": 0}, gathered, full(3), (1, 1, 1))
        self.check_error(InvalidRow, {"place": 2}, gathered, full(3), [0, 1, -1])
        self.check_error(TooLarge, {"limit": 64}, gathered, full(3), list(range(65)))


if __name__ == "__main__":
    unittest.main()
