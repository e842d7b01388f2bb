"""Points 61 to 64: cancelling in direct products."""

import itertools
import unittest

from tests.helpers import (
    WebCase, every_web, moved, plain_code, plain_product, plain_sort, random_row, random_web, small_webs, ties,
)
from webnumbers.cancelling import answers, layers_agree, telling_pair, twist_row
from webnumbers.catalogue import catalogue
from webnumbers.errors import HasOddRing, InvalidRow, NoBound, NotTwist, TooLarge
from webnumbers.pieces import sides
from webnumbers.products import product, sum_webs
from webnumbers.renamings import find_renaming, is_renaming
from webnumbers.shapes import full, full_with_loops, path, ring, star
from webnumbers.twists import twist_sorts, twisted, twists
from webnumbers.webs import EDGE, EMPTY, LOOP, ONE

TWO_LOOPS = (2, ((0, 0), (1, 1)))
SIDED = [web for web in small_webs(3) if sides(web) is not None] + [
    ring(4), ring(6), star(5), path(7), sum_webs(ring(4), path(3), ONE), (5, ((0, 3), (1, 2), (1, 3))),
]
ODD = [LOOP, ring(3), ring(5), full(4), (3, ((0, 1), (2, 2))), sum_webs(path(3), ring(3))]
LEAST_RINGS = [(0,), (0, 1, 2), (0, 1, 2, 3, 4), (0, 1, 2), (2,), (3, 4, 5)]


class TellingPairTest(WebCase):
    def test_the_row_renames_one_product_into_the_other(self):
        for web in SIDED + [path(32), ring(32), (32, ())]:
            a, b, row = telling_pair(web)
            self.assertEqual([TWO_LOOPS, EDGE], [a, b])
            self.assertTrue(is_renaming(product("direct", a, web), product("direct", b, web), row))

    def test_the_told_entries(self):
        for web in SIDED:
            n, s = web[0], sides(web)
            expected = [(k + s[c]) % 2 * n + c for k in (0, 1) for c in range(n)]
            self.assertEqual((TWO_LOOPS, EDGE, tuple(expected)), telling_pair(web))

    def test_small(self):
        self.assertEqual((TWO_LOOPS, EDGE, ()), telling_pair(EMPTY))
        self.assertEqual((TWO_LOOPS, EDGE, (0, 1)), telling_pair(ONE))
        self.assertEqual((TWO_LOOPS, EDGE, (0, 3, 2, 1)), telling_pair(EDGE))

    def test_odd_rings(self):
        for web, nodes in zip(ODD, LEAST_RINGS):
            self.check_error(HasOddRing, {"ring": nodes}, telling_pair, web)

    def test_odd_rings_come_before_the_size(self):
        self.check_error(HasOddRing, {"ring": (0, 1, 2)}, telling_pair, full(64))
        self.check_error(HasOddRing, {"ring": (40,)}, telling_pair, (64, ((0, 1), (40, 40))))

    def test_too_large(self):
        self.assertEqual(64, len(telling_pair(path(32))[2]))
        for web in (path(33), (33, ()), ring(64), star(64)):
            self.check_error(TooLarge, {"limit": 64}, telling_pair, web)


class TwistRowTest(WebCase):
    def test_the_row_renames_one_product_into_the_other(self):
        for a in small_webs(2) + every_web(3)[::5] + [random_web(1, 4), path(4), full(4)]:
            for row, c in itertools.product(list(twists(a)), SIDED):
                told = twist_row(a, row, c)
                first, second = product("direct", a, c), product("direct", twisted(a, row), c)
                self.assertTrue(is_renaming(first, second, told))

    def test_the_told_entries(self):
        for a in [EMPTY, LOOP, EDGE, TWO_LOOPS, path(3), full(3), ring(4)]:
            for row, c in itertools.product(list(twists(a)), SIDED):
                n, s = c[0], sides(c)
                expected = [(row[x] if s[y] == 1 else x) * n + y for x in range(a[0]) for y in range(n)]
                self.assertEqual(tuple(expected), twist_row(a, row, c))
                self.assertEqual(tuple(expected), twist_row(a, list(row), c))

    def test_small(self):
        self.assertEqual((0, 3, 2, 1), twist_row(EDGE, (1, 0), EDGE))
        self.assertEqual((), twist_row(EMPTY, (), path(64)))
        self.assertEqual((), twist_row(EDGE, (1, 0), EMPTY))

    def test_odd_rings_come_first(self):
        for c, nodes in zip(ODD, LEAST_RINGS):
            self.check_error(HasOddRing, {"ring": nodes}, twist_row, path(3), (2, 1, 0), c)
            self.check_error(HasOddRing, {"ring": nodes}, twist_row, path(3), (0, 0, 0), c)
            self.check_error(HasOddRing, {"ring": nodes}, twist_row, path(3), (1, 0, 2), c)
        self.check_error(HasOddRing, {"ring": (0, 1, 2)}, twist_row, path(3), (2, 1, 0), full(64))

    def test_rows_that_are_no_rows_of_the_web(self):
        for c in (EMPTY, EDGE, path(64)):
            self.check_error(InvalidRow, {"place": -1}, twist_row, path(3), (0, 1), c)
            self.check_error(InvalidRow, {"place": -1}, twist_row, path(3), (3, 3, 3, 3), c)
            self.check_error(InvalidRow, {"place": 1}, twist_row, path(3), (1, 1, 2), c)
            self.check_error(InvalidRow, {"place": 0}, twist_row, path(3), (-1, 0, 0), c)

    def test_rows_that_are_no_twists(self):
        for c in (EMPTY, EDGE, path(64)):
            self.check_error(NotTwist, {"pair": (0, 2)}, twist_row, path(3), (1, 0, 2), c)
            self.check_error(NotTwist, {"pair": (0, 0)}, twist_row, (2, ((0, 0),)), (1, 0), c)

    def test_too_large(self):
        self.assertEqual(64, len(twist_row((8, ()), range(8), path(8))))
        self.assertEqual(64, len(twist_row(LOOP, [0], path(64))))
        for a, c in [((8, ()), path(9)), ((13, ()), path(5)), (EDGE, path(33)), ((64, ()), (64, ()))]:
            self.check_error(TooLarge, {"limit": 64}, twist_row, a, list(range(a[0])), c)


class AnswersTest(WebCase):
    def test_against_the_products(self):
        sorts = catalogue(3, loops=True)
        factors = [web for web in catalogue(3, loops=True) if web != EMPTY] + [path(3), (3, ((0, 1), (2, 2)))]
        for c in factors:
            products = [(b, plain_product("direct", b, c)) for b in sorts]
            for a in sorts + [(3, ((0, 1), (1, 2))), (3, ((0, 2),)), (2, ((1, 1),))]:
                whole = plain_product("direct", a, c)
                expected = [b for b, other in products if find_renaming(whole, other) is not None]
                self.assertEqual(expected, answers(a, c))

    def test_empty(self):
        for a in (EMPTY, ONE, full(3), full(4), path(6), full(64)):
            self.check_error(NoBound, {}, answers, a, EMPTY)

    def test_no_edges_and_no_loops(self):
        for c in (ONE, (2, ()), (64, ())):
            self.assertEqual([EMPTY], answers(EMPTY, c))
            self.assertEqual([ONE, LOOP], answers(LOOP, c))
            self.assertEqual(6, len(answers(EDGE, c)))
            for a in (path(3), (3, ()), full_with_loops(3)):
                self.assertEqual([web for web in catalogue(3, loops=True) if web[0] == 3], answers(a, c))
            for a in ((4, ()), path(4), full(5), full(6), full(64)):
                self.check_error(TooLarge, {"limit": 3}, answers, a, c)

    def test_odd_rings(self):
        for c in ODD + [full(64), full_with_loops(64)]:
            for a in [EMPTY, ONE, path(3), moved(path(4), (2, 0, 3, 1)), moved(path(5), (4, 0, 2, 1, 3)), full(5)]:
                self.assertEqual([plain_sort(a)], answers(a, c))

    def test_edges_and_sides(self):
        for c in (EDGE, path(3), ring(4), sum_webs(EDGE, ONE), path(64)):
            for a in [EMPTY, ONE, EDGE, TWO_LOOPS, path(4), full(4), ring(5), full(5), random_web(2, 5), (5, ())]:
                found = answers(a, c)
                self.assertEqual(twist_sorts(a), found)
                codes = [plain_code(web) for web in found]
                self.assertEqual(sorted(set(codes)), codes)
        self.assertEqual([EDGE, TWO_LOOPS], answers(EDGE, EDGE))
        self.assertEqual(3, len(answers(full(5), EDGE)))

    def test_five_nodes_against_the_products(self):
        # An answer and the web have products of the same sort, although these have more than 9 nodes.
        for seed in range(6):
            a = moved(full(5), random_row(seed, 5)) if seed % 2 else random_web(seed, 5)
            for row in twists(a):
                self.assertIn(plain_sort(twisted(a, row)), answers(a, path(64)))

    def test_limits(self):
        for a in (path(6), (6, ()), full(64)):
            for c in (EDGE, LOOP, ring(3), path(64), full(64)):
                self.check_error(TooLarge, {"limit": 5}, answers, a, c)

    def test_a_changed_list_does_not_change_the_next_answer(self):
        for c in (ONE, LOOP, EDGE):
            before = answers(EDGE, c)
            answers(EDGE, c).append(9)
            self.assertEqual(before, answers(EDGE, c))


def plain_agree(a, b, rows):
    """Tell whether the layers agree, by going through all pairs of nodes."""
    if len(rows) == 0 or a[0] != b[0] or any(sorted(row) != list(range(a[0])) for row in rows):
        return False
    first, second = ties(a), ties(b)
    for i, row in enumerate(rows):
        after = rows[(i + 1) % len(rows)]
        for x, y in itertools.product(range(a[0]), repeat=2):
            if ((x, y) in first) != ((row[x], after[y]) in second):
                return False
    return True


class LayersAgreeTest(WebCase):
    def test_against_all_pairs_two_nodes(self):
        found = 0
        for a, b in itertools.product(small_webs(2), repeat=2):
            for many in range(4):
                for rows in itertools.product(itertools.permutations(range(a[0])), repeat=many):
                    self.assertIs(plain_agree(a, b, rows), layers_agree(a, b, list(rows)))
                    self.assertIs(plain_agree(a, b, rows), layers_agree(a, b, rows))
                    found += plain_agree(a, b, rows)
        self.assertGreater(found, 50)

    def test_against_all_pairs_three_nodes(self):
        webs = [path(3), full(3), (3, ()), (3, ((0, 0), (1, 2))), (3, ((0, 1), (2, 2))), random_web(3, 3)]
        for a, b in itertools.product(webs, repeat=2):
            for rows in itertools.product(itertools.permutations(range(3)), repeat=2):
                self.assertIs(plain_agree(a, b, rows), layers_agree(a, b, rows))

    def test_odd_lists_rename(self):
        for a in every_web(3)[::5]:
            for b, many in itertools.product([moved(a, (1, 2, 0)), a], (1, 3)):
                for rows in itertools.product(itertools.permutations(range(3)), repeat=many):
                    if layers_agree(a, b, rows):
                        for row in rows:
                            self.assertTrue(is_renaming(a, b, row))

    def test_one_row_agrees_exactly_if_it_renames(self):
        for a, b in itertools.product(every_web(3)[::4], repeat=2):
            for row in itertools.permutations(range(3)):
                self.assertIs(is_renaming(a, b, row), layers_agree(a, b, [row]))

    def test_twists(self):
        for a in [EDGE, TWO_LOOPS, path(4), full(4), random_web(4, 4)]:
            nodes = tuple(range(a[0]))
            for row in twists(a):
                self.assertIs(True, layers_agree(a, twisted(a, row), [nodes, row]))
                self.assertIs(True, layers_agree(a, twisted(a, row), [row, nodes, row, nodes]))

    def test_lists_that_almost_agree(self):
        a, b = EDGE, TWO_LOOPS
        self.assertIs(True, layers_agree(a, b, [(0, 1), (1, 0)]))
        self.assertIs(False, layers_agree(a, b, [(0, 1), (0, 1)]))
        self.assertIs(False, layers_agree(a, b, [(0, 1)]))
        self.assertIs(False, layers_agree(a, b, [(0, 1), (1, 0), (0, 1)]))
        self.assertIs(True, layers_agree(a, b, [(0, 1), (1, 0), (0, 1), (1, 0)]))
        self.assertIs(False, layers_agree(a, b, [(0, 1), (1, 0), (0, 1), (0, 1)]))
        self.assertIs(False, layers_agree(ring(5), ring(5), [(0, 1, 2, 3, 4), (1, 2, 3, 4, 0)]))
        # Only the pair of the last row and the first one fails.
        rows = [(0, 1, 2, 3), (0, 1, 2, 3), (1, 0, 2, 3)]
        self.assertIs(False, layers_agree(path(4), path(4), rows))

    def test_no_rows(self):
        self.assertIs(False, layers_agree(EMPTY, EMPTY, []))
        self.assertIs(False, layers_agree(EDGE, EDGE, ()))
        self.assertIs(True, layers_agree(EMPTY, EMPTY, [()]))
        self.assertIs(True, layers_agree(EMPTY, EMPTY, [[], []]))

    def test_unlike_sizes(self):
        self.assertIs(False, layers_agree(EMPTY, ONE, [()]))
        self.assertIs(False, layers_agree((2, ()), (3, ()), [(0, 1)]))
        self.assertIs(False, layers_agree((3, ()), (2, ()), [(0, 1, 2)]))
        self.assertIs(False, layers_agree((2, ()), (3, ()), [(0, 1, 2)]))

    def test_wrong_rows(self):
        good = (0, 1)
        for bad in [(), (0,), (0, 1, 2), (0, 0), (1, 1), (-1, 0), (0, 2), (-2, -1), (10 ** 30, 0), [0, 1, 0]]:
            for rows in [[bad], [good, bad], [bad, good], [good, good, bad]]:
                self.assertIs(False, layers_agree((2, ()), (2, ()), rows))
                self.assertIs(False, layers_agree(full_with_loops(2), full_with_loops(2), rows))
        self.assertIs(False, layers_agree(EMPTY, EMPTY, [(0,)]))

    def test_greatest_webs(self):
        row = list(range(63, -1, -1))
        self.assertIs(True, self.quickly(layers_agree, path(64), path(64), [row] * 5))
        self.assertIs(True, self.quickly(layers_agree, full(64), full(64), [row, row]))
        self.assertIs(False, self.quickly(layers_agree, full(64), full(64), [row, range(64)]))


if __name__ == "__main__":
    unittest.main()
