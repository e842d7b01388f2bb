"""Points 13 to 16: sums and products."""

import itertools
import unittest

from tests.helpers import WebCase, plain_product, random_web, small_webs
from webnumbers.errors import HasLoops, InvalidKind, TooLarge
from webnumbers.products import KINDS, power_of, product, product_of, sum_webs, unit
from webnumbers.shapes import full, path, ring, star
from webnumbers.webs import EDGE, EMPTY, LOOP, ONE

WRONG_KINDS = ["", "sum", "Box", "box ", "boxes", "direc", "level", "strongs"]


class SumTest(WebCase):
    def test_no_and_one_web(self):
        self.assertEqual(EMPTY, sum_webs())
        self.assertEqual(EMPTY, sum_webs(EMPTY))
        self.assertEqual(EDGE, sum_webs(EDGE))

    def test_side_by_side(self):
        web = sum_webs((3, ((0, 2), (1, 1))), EMPTY, LOOP, EDGE)
        self.assertEqual((6, ((0, 2), (1, 1), (3, 3), (4, 5))), web)
        self.check_web(web)
        self.assertEqual((3, ((1, 2),)), sum_webs(ONE, EDGE))
        self.assertEqual((3, ((0, 1),)), sum_webs(EDGE, ONE))

    def test_limit(self):
        self.assertEqual((64, ()), sum_webs((60, ()), (4, ()), EMPTY))
        self.assertEqual((64, ()), sum_webs(*[ONE] * 64))
        self.check_error(TooLarge, {"limit": 64}, sum_webs, *[ONE] * 65)
        self.check_error(TooLarge, {"limit": 64}, sum_webs, (64, ()), LOOP, EMPTY)


class ProductTest(WebCase):
    def test_kinds(self):
        self.assertEqual(("box", "strong", "direct", "levels"), KINDS)

    def test_examples(self):
        self.assertEqual((4, ((0, 1), (0, 2), (1, 3), (2, 3))), product("box", EDGE, EDGE))
        self.assertEqual((4, ((0, 3), (1, 2))), product("direct", EDGE, EDGE))

    def test_each_kind(self):
        a, b = EDGE, (3, ((0, 1),))
        box = ((0, 1), (0, 3), (1, 4), (2, 5), (3, 4))
        direct = ((0, 4), (1, 3))
        levels = ((0, 1), (0, 3), (0, 4), (0, 5), (1, 3), (1, 4), (1, 5), (2, 3), (2, 4), (2, 5), (3, 4))
        self.assertEqual((6, box), product("box", a, b))
        self.assertEqual((6, direct), product("direct", a, b))
        self.assertEqual((6, tuple(sorted(box + direct))), product("strong", a, b))
        self.assertEqual((6, levels), product("levels", a, b))

    def test_against_the_adjacent_pairs(self):
        for kind in KINDS:
            webs = small_webs(3, loops=kind == "direct") + [random_web(k, 5, kind == "direct") for k in range(3)]
            for a, b in itertools.product(webs, webs):
                self.assertEqual(plain_product(kind, a, b), product(kind, a, b))

    def test_form_of_great_products(self):
        for kind in KINDS:
            web = product(kind, full(8), ring(8))
            self.assertEqual(plain_product(kind, full(8), ring(8)), web)
            self.check_web(web)

    def test_empty_factors(self):
        for kind in KINDS:
            for web in (EMPTY, ONE, EDGE, (64, ())):
                self.assertEqual(EMPTY, product(kind, EMPTY, web))
                self.assertEqual(EMPTY, product(kind, web, EMPTY))
        self.assertEqual(EMPTY, product("direct", LOOP, EMPTY))

    def test_order_of_errors(self):
        looped, great = (3, ((1, 1), (2, 2))), (64, ((7, 7),))
        for kind in WRONG_KINDS:
            self.check_error(InvalidKind, {"kind": kind}, product, kind, looped, great)
        for kind in ("box", "strong", "levels"):
            self.check_error(HasLoops, {"node": 1}, product, kind, looped, great)
            self.check_error(HasLoops, {"node": 7}, product, kind, great, looped)
            self.check_error(HasLoops, {"node": 7}, product, kind, EDGE, great)
            self.check_error(HasLoops, {"node": 1}, product, kind, looped, EMPTY)
            self.check_error(HasLoops, {"node": 1}, product, kind, EMPTY, looped)
        self.check_error(TooLarge, {"limit": 64}, product, "direct", looped, great)

    def test_limit(self):
        for kind in KINDS:
            self.assertEqual(64, product(kind, path(8), star(8))[0])
            self.assertEqual(64, product(kind, ONE, path(64))[0])
            self.check_error(TooLarge, {"limit": 64}, product, kind, path(5), path(13))
            self.check_error(TooLarge, {"limit": 64}, product, kind, path(64), EDGE)
            self.check_error(TooLarge, {"limit": 64}, product, kind, full(64), full(64))


class ProductOfTest(WebCase):
    def test_unit(self):
        self.assertEqual([ONE, ONE, LOOP, ONE], [unit(kind) for kind in KINDS])
        for kind in WRONG_KINDS:
            self.check_error(InvalidKind, {"kind": kind}, unit, kind)

    def test_the_unit_changes_nothing(self):
        for kind in KINDS:
            for web in small_webs(3, loops=kind == "direct") + [path(64)]:
                self.assertEqual(web, product(kind, unit(kind), web))
                self.assertEqual(web, product(kind, web, unit(kind)))

    def test_products_of_none_and_one(self):
        for kind in KINDS:
            self.assertEqual(unit(kind), product_of(kind))
            self.assertEqual(EDGE, product_of(kind, EDGE))

    def test_from_left_to_right(self):
        for kind in KINDS:
            webs = [EDGE, path(3), (2, ()), star(3)]
            expected = product(kind, product(kind, product(kind, webs[0], webs[1]), webs[2]), webs[3])
            self.assertEqual(expected, product_of(kind, *webs))

    def test_errors_of_the_steps(self):
        self.check_error(InvalidKind, {"kind": "cube"}, product_of, "cube")
        self.check_error(InvalidKind, {"kind": "cube"}, product_of, "cube", LOOP, (64, ()))
        self.check_error(HasLoops, {"node": 0}, product_of, "box", LOOP)
        self.check_error(HasLoops, {"node": 0}, product_of, "levels", EDGE, LOOP, (64, ()))
        self.check_error(TooLarge, {"limit": 64}, product_of, "box", EDGE, (64, ()), LOOP)
        self.check_error(TooLarge, {"limit": 64}, product_of, "direct", EDGE, (64, ()), EMPTY)
        self.assertEqual(EMPTY, product_of("direct", EDGE, EMPTY, (64, ()), (64, ())))

    def test_powers(self):
        for kind in KINDS:
            for exponent in range(6):
                self.assertEqual(product_of(kind, *[EDGE] * exponent), power_of(kind, EDGE, exponent))
        self.assertEqual((9, ((0, 4), (1, 3), (1, 5), (2, 4), (3, 7), (4, 6), (4, 8), (5, 7))),
                         power_of("direct", path(3), 2))

    def test_exponents(self):
        for kind in KINDS:
            self.assertEqual(unit(kind), power_of(kind, LOOP, 0))
            self.assertEqual(unit(kind), power_of(kind, (64, ((3, 3),)), 0))
            self.assertEqual(ONE, power_of(kind, ONE, 64))
            self.assertEqual(EMPTY, power_of(kind, EMPTY, 64))
            self.assertEqual(64, power_of(kind, EDGE, 6)[0])
            self.check_error(TooLarge, {"limit": 64}, power_of, kind, EDGE, 7)
            for exponent in (65, 10 ** 40):
                self.check_error(TooLarge, {"limit": 64}, power_of, kind, ONE, exponent)
                self.check_error(TooLarge, {"limit": 64}, power_of, kind, LOOP, exponent)
        self.assertEqual(LOOP, power_of("direct", LOOP, 64))

    def test_order_of_errors_of_powers(self):
        self.check_error(InvalidKind, {"kind": "sum"}, power_of, "sum", LOOP, 65)
        self.check_error(InvalidKind, {"kind": "sum"}, power_of, "sum", LOOP, 0)
        self.check_error(HasLoops, {"node": 2}, power_of, "strong", (64, ((2, 2),)), 64)
        self.check_error(TooLarge, {"limit": 64}, power_of, "direct", (64, ((2, 2),)), 64)


if __name__ == "__main__":
    unittest.main()
