"""Points 95 to 98: lots."""

import itertools
import unittest

from tests.helpers import WebCase, moved, plain_product, random_row, random_web, small_webs, ties
from webnumbers.errors import HasLoops, TooLarge
from webnumbers.lots import greatest_lots, joined_lots, lot_size, lots_with, untied_size
from webnumbers.products import product, sum_webs
from webnumbers.shapes import full, path, ring, star
from webnumbers.turns import complement
from webnumbers.webs import EDGE, EMPTY, LOOP, ONE

TAILED = (4, ((0, 1), (0, 2), (1, 2), (2, 3)))
SAMPLES = small_webs(4, loops=False) + [random_web(seed, 5 + seed % 4, loops=False, share=0.2 + seed % 5 * 0.15)
                                        for seed in range(60)]
# The greatest number of greatest lots that 16 nodes can have.
MANY = complement(sum_webs(full(3), full(3), full(3), full(3), full(4)))
GREAT = [full(16), (16, ()), ring(16), path(16), star(16), MANY, complement(sum_webs(*[EDGE] * 8)), *[
    random_web(seed, 16, loops=False, share=0.1 * seed) for seed in range(1, 10)]]


def all_lots(web):
    """Return all lots of the web."""
    pairs = ties(web)
    sets = [nodes for many in range(web[0] + 1) for nodes in itertools.combinations(range(web[0]), many)]
    return [nodes for nodes in sets if all(pair in pairs for pair in itertools.combinations(nodes, 2))]


def plain_greatest(web):
    """Return the greatest lots in lexicographic order."""
    lots = all_lots(web)
    return sorted(lot for lot in lots if not any(set(lot) < set(other) for other in lots))


class GreatestLotsTest(WebCase):
    def test_example(self):
        self.assertEqual([(0, 1, 2), (2, 3)], greatest_lots(TAILED))

    def test_the_definition(self):
        for web in SAMPLES:
            found = greatest_lots(web)
            self.assertIs(list, found.__class__)
            self.assertEqual(plain_greatest(web), found)

    def test_shapes(self):
        self.assertEqual([()], greatest_lots(EMPTY))
        self.assertEqual([(0,)], greatest_lots(ONE))
        self.assertEqual([(k,) for k in range(16)], greatest_lots((16, ())))
        self.assertEqual([tuple(range(16))], greatest_lots(full(16)))
        self.assertEqual([(k, k + 1) for k in range(15)], greatest_lots(path(16)))
        self.assertEqual(sorted([(0, 15)] + [(k, k + 1) for k in range(15)]), greatest_lots(ring(16)))
        self.assertEqual([(0, k) for k in range(1, 16)], greatest_lots(star(16)))

    def test_sixteen_nodes(self):
        for web in GREAT:
            lots = self.quickly(greatest_lots, web)
            self.assertEqual(sorted(set(lots)), lots)
            pairs = ties(web)
            for lot in lots:
                self.assertTrue(all(pair in pairs for pair in itertools.combinations(lot, 2)))
                others = [node for node in range(16) if node not in lot]
                self.assertFalse(any(all((node, u) in pairs for u in lot) for node in others))
        self.assertEqual(324, len(greatest_lots(MANY)))
        self.assertEqual(256, len(greatest_lots(complement(sum_webs(*[EDGE] * 8)))))

    def test_renamed_webs(self):
        for seed, web in enumerate(GREAT):
            row = random_row(seed, 16)
            expected = sorted(tuple(sorted(row[node] for node in lot)) for lot in greatest_lots(web))
            self.assertEqual(expected, greatest_lots(moved(web, row)))


class LotsWithTest(WebCase):
    def test_example(self):
        self.assertEqual([(0, 1, 2)], list(lots_with(TAILED, 2, least=3)))

    def test_the_definition(self):
        for web in SAMPLES[::3]:
            for nodes in [(), (0,), (1,), (0, 1), (2, 0), (3, 3), (1, 1, 2)]:
                for least in (-1, 0, 1, 2, 3, 4):
                    expected = [lot for lot in plain_greatest(web) if set(nodes) <= set(lot) and len(lot) >= least]
                    self.assertEqual(expected, list(lots_with(web, *nodes, least=least)))

    def test_no_nodes(self):
        self.assertEqual([(0, 1, 2), (2, 3)], list(lots_with(TAILED)))
        self.assertEqual([(0, 1, 2)], list(lots_with(TAILED, least=3)))
        self.assertEqual([], list(lots_with(TAILED, least=4)))
        self.assertEqual([()], list(lots_with(EMPTY)))
        self.assertEqual([], list(lots_with(EMPTY, least=1)))

    def test_a_node_twice(self):
        self.assertEqual([(0, 1, 2), (2, 3)], list(lots_with(TAILED, 2, 2)))
        self.assertEqual([(2, 3)], list(lots_with(TAILED, 3, 2, 3)))

    def test_nodes_in_no_common_lot(self):
        self.assertEqual([], list(lots_with(TAILED, 0, 3)))

    def test_integers_that_are_no_nodes(self):
        for node in (-1, 4, 64, 10 ** 30, -10 ** 30):
            self.assertEqual([], list(lots_with(TAILED, node)))
            self.assertEqual([], list(lots_with(TAILED, 2, node)))
        self.assertEqual([], list(lots_with(EMPTY, 0)))

    def test_errors_when_the_iteration_begins(self):
        self.check_late_error(HasLoops, {"node": 1}, lots_with, (2, ((1, 1),)))
        self.check_late_error(HasLoops, {"node": 2}, lots_with, (17, ((2, 2),)), 99, least=3)
        self.check_late_error(TooLarge, {"limit": 16}, lots_with, (17, ()), 99)


class JoinedLotsTest(WebCase):
    def test_example(self):
        expected = [(0, 2), (1,), (3, 5, 6, 8), (4, 7)]
        self.assertEqual(expected, joined_lots(3, [(0,), (1, 2)], [(0, 2), (1,)]))

    def test_strong_products(self):
        webs = [web for web in SAMPLES if web[0] <= 3] + [path(4), ring(4), full(4), star(5), ring(5), (5, ())]
        for a, b in itertools.product(webs, webs):
            if a[0] * b[0] <= 16:
                together = plain_product("strong", a, b)
                self.assertEqual(greatest_lots(together), joined_lots(b[0], greatest_lots(a), greatest_lots(b)))

    def test_any_order(self):
        first = [(0, 2), (1, 2), (0, 1)]
        second = [(3,), (0, 1, 2), (1, 3)]
        expected = joined_lots(4, sorted(first), sorted(second))
        for rows in itertools.permutations(first):
            for others in itertools.permutations(second):
                self.assertEqual(expected, joined_lots(4, list(rows), list(others)))
        self.assertEqual(sorted(tuple(u * 4 + x for u in lot for x in other) for lot in first for other in second),
                         expected)

    def test_duplicates_occur_once(self):
        self.assertEqual([(0, 1), (2, 3)], joined_lots(2, [(0,), (1,), (0,)], [(0, 1), (0, 1)]))
        self.assertEqual([()], joined_lots(2, [(), ()], [(0, 1), (1,)]))

    def test_empty(self):
        self.assertEqual([], joined_lots(3, [], []))
        self.assertEqual([], joined_lots(3, [(0,)], []))
        self.assertEqual([], joined_lots(3, [], [(0,)]))
        self.assertEqual([()], joined_lots(0, [()], [()]))
        self.assertEqual([(), (6,)], joined_lots(3, [(2,)], [(), (0,)]))
        self.assertEqual([(), (1,)], joined_lots(3, [(), (0,)], [(1,)]))
        self.assertEqual([()], joined_lots(0, [(0, 1), (2,)], [()]))

    def test_great_integers(self):
        great = 10 ** 40
        self.assertEqual([(great * great + 5, great * great + great - 1)],
                         joined_lots(great, [(great,)], [(5, great - 1)]))
        lots = [(k, k + 100) for k in range(100)]
        found = joined_lots(1000, lots, lots)
        self.assertEqual(10000, len(found))
        self.assertEqual(sorted(set(found)), found)
        self.assertEqual((0, 100, 100000, 100100), found[0])

    def test_arguments_are_not_changed(self):
        first, second = [(1,), (0,)], [(2,), (0, 1)]
        joined_lots(3, first, second)
        self.assertEqual([[(1,), (0,)], [(2,), (0, 1)]], [first, second])


class SizesTest(WebCase):
    def test_the_definition(self):
        for web in SAMPLES:
            self.assertEqual(max(len(lot) for lot in all_lots(web)), lot_size(web))
            self.assertEqual(max(len(lot) for lot in all_lots(complement(web))), untied_size(web))

    def test_shapes(self):
        self.assertEqual([0, 0], [lot_size(EMPTY), untied_size(EMPTY)])
        self.assertEqual([1, 1], [lot_size(ONE), untied_size(ONE)])
        self.assertEqual([16, 1], [lot_size(full(16)), untied_size(full(16))])
        self.assertEqual([1, 16], [lot_size((16, ())), untied_size((16, ()))])
        self.assertEqual([2, 8], [lot_size(ring(16)), untied_size(ring(16))])
        self.assertEqual([2, 15], [lot_size(star(16)), untied_size(star(16))])

    def test_sixteen_nodes(self):
        for web in GREAT:
            self.assertEqual(self.quickly(lot_size, complement(web)), self.quickly(untied_size, web))

    def test_products(self):
        webs = [web for web in SAMPLES if web[0] <= 4][::5] + [ring(4), full(4), path(3), EDGE]
        for a, b in itertools.product(webs, webs):
            strong, levels = product("strong", a, b), product("levels", a, b)
            self.assertEqual(lot_size(a) * lot_size(b), lot_size(strong))
            self.assertEqual(lot_size(a) * lot_size(b), lot_size(levels))
            self.assertEqual(untied_size(a) * untied_size(b), untied_size(levels))


class ErrorsTest(WebCase):
    def test_loops_come_first(self):
        for web, node in [(LOOP, 0), ((3, ((1, 1), (2, 2))), 1), ((17, ((5, 5), (9, 9))), 5), ((64, ((63, 63),)), 63)]:
            for function in (greatest_lots, lot_size, untied_size):
                self.check_error(HasLoops, {"node": node}, function, web)

    def test_too_large(self):
        for web in ((17, ()), full(17), ring(64), (64, ())):
            for function in (greatest_lots, lot_size, untied_size):
                self.check_error(TooLarge, {"limit": 16}, function, web)

    def test_sixteen_nodes_are_not_too_many(self):
        for function in (greatest_lots, lot_size, untied_size):
            function(ring(16))
        self.assertEqual(16, len(list(lots_with(ring(16)))))


if __name__ == "__main__":
    unittest.main()
