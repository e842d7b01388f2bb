"""Points 67 and 71: classes of edges."""

import unittest

from tests.helpers import WebCase, joined_webs, moved, random_joined_web, random_row
from tests.test_relations import SAMPLES, UNFIT, plain_relations
from webnumbers.classes import edge_classes
from webnumbers.products import power_of, product
from webnumbers.relations import chain
from webnumbers.shapes import full, path, ring, star
from webnumbers.webs import EDGE, ONE, make_web


def plain_classes(web):
    """Return the classes by joining sets of related edges, numbered by their first edges."""
    relations = plain_relations(web)
    places = range(len(web[1]))
    groups = [{place} for place in places]
    for first in places:
        for second in places:
            if relations[first][second]:
                joined = groups[first] | groups[second]
                for place in joined:
                    groups[place] = joined
    numbers = {}
    return [numbers.setdefault(min(groups[place]), len(numbers)) for place in places]


class EdgeClassesTest(WebCase):
    def test_example(self):
        self.assertEqual([0, 1, 1, 0], edge_classes((4, ((0, 1), (0, 3), (1, 2), (2, 3)))))

    def test_against_the_relations(self):
        for web in SAMPLES:
            self.assertEqual(plain_classes(web), edge_classes(web))

    def test_joined_by_chains(self):
        for web in [product("box", path(3), ring(3)), ring(6), power_of("box", EDGE, 3), random_joined_web(1, 7)]:
            numbers = edge_classes(web)
            for first in range(len(numbers)):
                for second in range(len(numbers)):
                    together = chain(web, first, second) is not None
                    self.assertEqual(together, numbers[first] == numbers[second])

    def test_the_numbering(self):
        webs = joined_webs(4) + [moved(power_of("box", EDGE, 3), random_row(seed, 8)) for seed in range(10)]
        for web in webs:
            numbers = edge_classes(web)
            first_ones = [numbers.index(number) for number in range(len(set(numbers)))]
            self.assertEqual(sorted(first_ones), first_ones)

    def test_small(self):
        self.assertEqual([], edge_classes(ONE))
        self.assertEqual([0], edge_classes(EDGE))
        self.assertEqual([0] * 4, edge_classes(path(5)))
        self.assertEqual([0] * 5, edge_classes(star(6)))
        self.assertEqual([0] * 10, edge_classes(full(5)))
        self.assertEqual([0, 1, 2, 1, 2, 0, 2, 2, 0, 1, 1, 0], edge_classes(power_of("box", EDGE, 3)))

    def test_errors(self):
        for error, told, web in UNFIT:
            self.check_error(error, told, edge_classes, web)

    def test_many_edges(self):
        halves = make_web(64, [(u, v) for u in range(32) for v in range(32, 64)])
        for web, many in [(full(64), 1), (halves, 1), (product("box", full(32), EDGE), 2), (ring(64), 1),
                          (power_of("box", EDGE, 6), 6), (product("box", full(8), full(8)), 2),
                          (random_joined_web(4, 64, 0.5), 1), (product("box", path(8), path(8)), 2)]:
            self.assertEqual(many, len(set(self.quickly(edge_classes, web))))


if __name__ == "__main__":
    unittest.main()
