"""Points 45 to 48: numbers of maps, and webs of maps."""

import itertools
import unittest

from tests.helpers import WebCase, every_map, every_web, plain_homs, random_web, small_webs, ties, web_of_ties
from webnumbers.errors import TooLarge
from webnumbers.powers import map_number, map_row, power
from webnumbers.products import product, sum_webs
from webnumbers.shapes import full, full_with_loops, path, ring
from webnumbers.webs import EDGE, EMPTY, LOOP, ONE


def plain_power(base, exponent):
    """Return the power by comparing all pairs of maps."""
    pairs = ties(base)
    rows = list(enumerate(every_map(exponent, base)))
    return web_of_ties(len(rows), [
        (place, other)
        for place, f in rows
        for other, g in rows
        if all((f[u], g[v]) in pairs for u, v in ties(exponent))
    ])


class MapNumberTest(WebCase):
    def test_example(self):
        self.assertEqual([11, (1, 0, 2)], [map_number(3, [1, 0, 2]), map_row(3, 3, 11)])

    def test_no_entries(self):
        for base in (0, 1, 2, 10 ** 30):
            self.assertEqual(0, map_number(base, []))
            self.assertEqual(0, map_number(base, ()))
            self.assertEqual((), map_row(base, 0, 0))

    def test_in_the_order_of_the_maps(self):
        for base, length in [(1, 4), (2, 5), (3, 3), (5, 2), (7, 1)]:
            for number, row in enumerate(itertools.product(range(base), repeat=length)):
                self.assertEqual(number, map_number(base, row))
                self.assertEqual(number, map_number(base, list(row)))
                self.assertEqual(row, map_row(base, length, number))

    def test_base_one(self):
        self.assertEqual(0, map_number(1, [0] * 50))
        self.assertEqual((0,) * 50, map_row(1, 50, 0))

    def test_great_bases(self):
        base = 10 ** 40
        self.assertEqual(7 * base * base + 5, map_number(base, (7, 0, 5)))
        self.assertEqual((7, 0, 5), map_row(base, 3, 7 * base * base + 5))
        self.assertEqual((base - 1,) * 4, map_row(base, 4, base ** 4 - 1))

    def test_long_rows(self):
        row = tuple((k * k + 3) % 10 for k in range(1500))
        number = int("".join(map(str, row)))
        self.assertEqual(number, map_number(10, row))
        self.assertEqual(row, map_row(10, 1500, number))
        self.assertEqual((0,) * 998 + (1, 1), map_row(2, 1000, 3))


class PowerTest(WebCase):
    def test_example(self):
        self.assertEqual((4, ((0, 3), (1, 1), (2, 2))), power((2, ((0, 1),)), (2, ((0, 1),))))

    def test_against_the_definition(self):
        webs = small_webs(2) + every_web(3)[::6] + [path(3), ring(3)]
        for base, exponent in itertools.product(webs, webs):
            self.assertEqual(plain_power(base, exponent), power(base, exponent))

    def test_against_the_definition_64_maps(self):
        for base, exponent in [(random_web(1, 8), EDGE), (random_web(2, 8), (2, ((0, 0), (0, 1)))),
                               (random_web(3, 4), path(3)), (random_web(4, 4), random_web(5, 3)),
                               (full_with_loops(2), ring(6)), ((2, ((0, 0), (0, 1))), random_web(6, 6)),
                               (random_web(7, 2), (6, ()))]:
            web = power(base, exponent)
            self.assertEqual(64, web[0])
            self.check_web(web)
            self.assertEqual(plain_power(base, exponent), web)

    def test_the_nodes_with_loops_are_the_homs(self):
        for base, exponent in [(random_web(8, 4), path(3)), (full(3), ring(3)), (random_web(9, 2), ring(5))]:
            web = power(base, exponent)
            loops = [map_row(base[0], exponent[0], u) for u, v in web[1] if u == v]
            self.assertEqual(plain_homs(exponent, base), loops)

    def test_exponents_without_edges(self):
        self.assertEqual(full_with_loops(64), power((4, ()), (3, ())))
        self.assertEqual(full_with_loops(9), power(path(3), (2, ())))
        self.assertEqual(full_with_loops(3), power(path(3), ONE))

    def test_small(self):
        for web in (EMPTY, ONE, LOOP, EDGE, path(5), random_web(10, 64)):
            self.assertEqual(web, power(web, LOOP))
            self.assertEqual(LOOP, power(web, EMPTY))
        for exponent in (ONE, LOOP, EDGE, full(64)):
            self.assertEqual(EMPTY, power(EMPTY, exponent))
            self.assertEqual(LOOP, power(LOOP, exponent))
        self.assertEqual(ONE, power(ONE, EDGE))
        self.assertEqual(LOOP, power(ONE, (64, ())))
        self.assertEqual(ONE, power(ONE, full_with_loops(64)))

    def test_more_than_64_maps(self):
        for base, exponent in [(9, 2), (64, 2), (5, 3), (3, 4), (2, 7), (2, 64), (64, 64)]:
            self.check_error(TooLarge, {"limit": 64}, power, (base, ()), (exponent, ()))
            self.check_error(TooLarge, {"limit": 64}, power, full(base), full(exponent))

    def test_power_of_a_sum(self):
        webs = small_webs(1) + [EDGE, (2, ()), (2, ((0, 0), (0, 1))), path(3)]
        for b, a, c in itertools.product(webs, repeat=3):
            if b[0] ** (a[0] + c[0]) <= 64:
                self.assertEqual(product("direct", power(b, a), power(b, c)), power(b, sum_webs(a, c)))

    def test_power_of_a_power(self):
        webs = small_webs(1) + [EDGE, (2, ()), (2, ((0, 0), (0, 1))), path(3)]
        for b, a, c in itertools.product(webs, repeat=3):
            if b[0] ** c[0] <= 64 and (b[0] ** c[0]) ** a[0] <= 64:
                self.assertEqual(power(b, product("direct", a, c)), power(power(b, c), a))


if __name__ == "__main__":
    unittest.main()
