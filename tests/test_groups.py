"""Points 83 to 86: good sets and groups."""

import itertools
import unittest

from tests.helpers import WebCase, joined, moved, plain_product, random_row, random_web, small_webs, ties
from webnumbers.boxes import box_coordinates
from webnumbers.errors import NoOddRing, NotConnected
from webnumbers.groups import direct_groups, good_sets
from webnumbers.pieces import sides
from webnumbers.products import power_of, product, product_of, sum_webs
from webnumbers.shapes import full, full_with_loops, path, ring, star
from webnumbers.skeletons import skeleton
from webnumbers.twins import blown_up, thin
from webnumbers.webs import EDGE, EMPTY, LOOP, ONE

HALF = (2, ((0, 0), (0, 1)))
SAMPLES = [web for web in small_webs(3) + [random_web(seed, 4 + seed % 3) for seed in range(150)]
           if joined(web) and sides(web) is None]
# Webs of one class and without twins, so that each of them is one group in a product.
PRIMES = [HALF, ring(3), ring(5), full(4), (3, ((0, 0), (0, 1), (1, 2))), (4, ((0, 1), (0, 2), (0, 3), (1, 2)))]
# The two classes of these webs belong to one group, because of their edges or because of their twins.
TWO_CLASSES = [
    (4, ((0, 0), (0, 1), (1, 2), (2, 3), (3, 3))),
    (6, ((0, 2), (0, 3), (0, 4), (0, 5), (1, 1), (1, 2), (1, 4), (1, 5), (2, 3), (2, 4), (3, 3), (4, 5), (5, 5))),
    blown_up(power_of("direct", HALF, 2), (1, 1, 1, 2)),
    blown_up(power_of("direct", HALF, 2), (2, 1, 1, 1)),
    blown_up(power_of("direct", HALF, 2), (1, 2, 3, 5)),
]


def plain_good_sets(web):
    """Return the good sets by counting the coordinates of adjacent nodes."""
    thinned, sizes = thin(web)
    coordinates = box_coordinates(skeleton(thinned))
    pairs = ties(thinned)
    many = len(coordinates[0])

    def told(nodes, chosen):
        return tuple(tuple(coordinates[node][k] for k in sorted(chosen)) for node in nodes)

    def mix(chosen, v, w):
        return coordinates.index(tuple(coordinates[v if k in chosen else w][k] for k in range(many)))

    def is_good(chosen):
        others = set(range(many)) - chosen
        first = {told(pair, chosen) for pair in pairs}
        second = {told(pair, others) for pair in pairs}
        return len(first) * len(second) == len(pairs) and all(
            sizes[v] * sizes[0] == sizes[mix(chosen, v, 0)] * sizes[mix(chosen, 0, v)]
            for v in range(thinned[0])
        )

    sets = [set(chosen) for size in range(many + 1) for chosen in itertools.combinations(range(many), size)]
    sets = sorted(sets, key=lambda chosen: sum(1 << k for k in chosen))
    return [tuple(sorted(chosen)) for chosen in sets if is_good(chosen)]


def plain_groups(web):
    found = [set(chosen) for chosen in plain_good_sets(web) if chosen]
    return sorted(sorted(chosen) for chosen in found if not any(other < chosen for other in found))


def products_of_pairs():
    """Return direct products of two webs of one or two classes, also renamed and with twins."""
    webs = []
    for seed, (a, b) in enumerate(itertools.product(PRIMES + TWO_CLASSES[:3], PRIMES)):
        web = plain_product("direct", a, b)
        webs.append((web, a, b))
        webs.append((moved(web, random_row(seed, web[0])), a, b))
    return webs


class GoodSetsTest(WebCase):
    def test_against_the_definition(self):
        for web in SAMPLES + PRIMES + TWO_CLASSES + [web for web, _, _ in products_of_pairs()[::3]]:
            self.assertEqual(plain_good_sets(web), list(good_sets(web)))

    def test_small(self):
        self.assertEqual([()], list(good_sets(LOOP)))
        self.assertEqual([()], list(good_sets(full_with_loops(64))))
        self.assertEqual([(), (0,)], list(good_sets(HALF)))
        self.assertEqual([(), (0,)], list(good_sets(full(64))))
        self.assertEqual([(), (0,), (1,), (0, 1)], list(good_sets(power_of("direct", HALF, 2))))
        for web in TWO_CLASSES:
            self.assertEqual([(), (0, 1)], list(good_sets(web)))

    def test_the_order(self):
        expected = [(), (0,), (1,), (0, 1), (2,), (0, 2), (1, 2), (0, 1, 2)]
        self.assertEqual(expected, list(good_sets(power_of("direct", HALF, 3))))
        self.assertEqual(64, len(list(good_sets(power_of("direct", HALF, 6)))))

    def test_the_empty_set_and_the_set_of_all_classes(self):
        for web in SAMPLES + TWO_CLASSES:
            found = [chosen for chosen in good_sets(web)]
            classes = tuple(range(len(box_coordinates(skeleton(thin(web)[0]))[0])))
            self.assertEqual([(), classes], [found[0], found[-1]])
            for chosen in found:
                self.assertIs(tuple, chosen.__class__)

    def test_twins_change_what_is_good(self):
        web = power_of("direct", HALF, 2)
        both = [(), (0,), (1,), (0, 1)]
        for sizes in [(1, 1, 1, 1), (2, 2, 2, 2), (1, 2, 3, 6), (1, 3, 1, 3), (2, 2, 1, 1), (6, 2, 3, 1)]:
            self.assertEqual(both, list(good_sets(blown_up(web, sizes))))
        for sizes in [(1, 1, 1, 2), (1, 2, 3, 5), (2, 3, 3, 4), (1, 2, 1, 1)]:
            self.assertEqual([(), (0, 1)], list(good_sets(blown_up(web, sizes))))


class DirectGroupsTest(WebCase):
    def test_against_the_definition(self):
        for web in SAMPLES + PRIMES + TWO_CLASSES + [web for web, _, _ in products_of_pairs()]:
            self.assertEqual(plain_groups(web), direct_groups(web))

    def test_each_class_is_in_exactly_one_group(self):
        for web in SAMPLES + TWO_CLASSES + [web for web, _, _ in products_of_pairs()]:
            found = direct_groups(web)
            classes = len(box_coordinates(skeleton(thin(web)[0]))[0])
            self.assertEqual(list(range(classes)), sorted(k for nodes in found for k in nodes))
            self.assertEqual(sorted(found), found)
            good = list(good_sets(web))
            for nodes in found:
                self.assertIs(list, nodes.__class__)
                self.assertIn(tuple(nodes), good)

    def test_products_have_the_groups_of_both_webs(self):
        for web, a, b in products_of_pairs():
            sizes = sorted(len(nodes) for nodes in direct_groups(web))
            self.assertEqual(sorted(len(nodes) for nodes in direct_groups(a) + direct_groups(b)), sizes)

    def test_small(self):
        self.assertEqual([], direct_groups(LOOP))
        self.assertEqual([], direct_groups(full_with_loops(5)))
        self.assertEqual([[0]], direct_groups(ring(3)))
        self.assertEqual([[0], [1]], direct_groups(product("direct", ring(3), ring(5))))
        self.assertEqual([[0, 1]], direct_groups(TWO_CLASSES[0]))

    def test_groups_of_one_and_of_two_classes(self):
        for a, b in [(TWO_CLASSES[0], HALF), (HALF, TWO_CLASSES[0]), (TWO_CLASSES[0], TWO_CLASSES[0])]:
            web = plain_product("direct", a, b)
            sizes = [len(nodes) for nodes in direct_groups(web)]
            self.assertEqual(sorted([2 if part == TWO_CLASSES[0] else 1 for part in (a, b)]), sorted(sizes))

    def test_twins(self):
        for web in (HALF, ring(3), TWO_CLASSES[0]):
            for part in (full_with_loops(2), full_with_loops(3), blown_up(ring(3), (1, 2, 2))):
                together = plain_product("direct", web, part)
                expected = len(direct_groups(web)) + len(direct_groups(part))
                self.assertEqual(expected, len(direct_groups(together)))

    def test_greatest_webs(self):
        self.assertEqual([[k] for k in range(6)], self.quickly(direct_groups, power_of("direct", HALF, 6)))
        self.assertEqual([[0], [1], [2], [3]], self.quickly(direct_groups, product_of("direct", ring(3), ring(5), HALF, HALF)))
        self.assertEqual([[0]], self.quickly(direct_groups, full(64)))
        self.assertEqual([[0]], self.quickly(direct_groups, ring(63)))

    def test_a_changed_list_does_not_change_the_next_answer(self):
        direct_groups(HALF)[0].append(9)
        self.assertEqual([[0]], direct_groups(HALF))


class ErrorsTest(WebCase):
    def test_not_connected_comes_first(self):
        for web, many in [(EMPTY, 0), ((2, ()), 2), (sum_webs(ring(3), ONE), 2), (sum_webs(EDGE, LOOP), 2),
                          (sum_webs(EDGE, EDGE, EDGE), 3), ((64, ()), 64)]:
            self.check_late_error(NotConnected, {"pieces": many}, good_sets, web)
            self.check_error(NotConnected, {"pieces": many}, direct_groups, web)

    def test_no_odd_ring(self):
        for web in (ONE, EDGE, path(5), ring(4), star(64), ring(64)):
            self.check_late_error(NoOddRing, {"node": 0}, good_sets, web)
            self.check_error(NoOddRing, {"node": 0}, direct_groups, web)


if __name__ == "__main__":
    unittest.main()
