"""Points 67 to 70: related edges and chains."""

import itertools
import unittest

from tests.helpers import WebCase, joined_webs, moved, plain_distance, random_joined_web, random_row, ties
from webnumbers.errors import HasLoops, NotConnected
from webnumbers.products import power_of, product
from webnumbers.relations import chain, distance_rows, relation
from webnumbers.shapes import full, full_with_loops, path, ring, star
from webnumbers.webs import EDGE, EMPTY, LOOP, ONE, make_web

SAMPLES = joined_webs(4) + [random_joined_web(seed, 5 + seed % 4) for seed in range(40)] + [
    product("box", path(3), ring(3)), product("box", path(3), path(3)), product("box", EDGE, ring(5)),
    ring(5), ring(6), ring(7), star(6), full(5), power_of("box", EDGE, 3),
]
UNFIT = [
    (HasLoops, {"node": 0}, LOOP),
    (HasLoops, {"node": 1}, (4, ((0, 1), (1, 1), (2, 2)))),
    (HasLoops, {"node": 2}, (4, ((0, 1), (2, 2)))),
    (HasLoops, {"node": 0}, full_with_loops(64)),
    (NotConnected, {"pieces": 0}, EMPTY),
    (NotConnected, {"pieces": 2}, (4, ((0, 1), (2, 3)))),
    (NotConnected, {"pieces": 3}, (4, ((0, 1),))),
    (NotConnected, {"pieces": 64}, (64, ())),
]


def plain_table(web):
    return [[plain_distance(web, u, v) for v in range(web[0])] for u in range(web[0])]


def plain_relation(web, table, first, second):
    """Return the relation of two edges by the definition; the ends may be named in any order."""
    (u, v), (x, y) = web[1][first], web[1][second]
    unlike = [
        table[a][c] + table[b][d] != table[a][d] + table[b][c]
        for (a, b), (c, d) in itertools.product([(u, v), (v, u)], [(x, y), (y, x)])
    ]
    assert len(set(unlike)) == 1
    if unlike[0]:
        return "distance"
    pairs = ties(web)
    for node in {u, v} & {x, y}:
        ends = ({u, v} | {x, y}) - {node}
        if first != second and {k for k in range(web[0]) if all((k, end) in pairs for end in ends)} == {node}:
            return "square"
    return None


def plain_relations(web):
    """Return all relations as a table."""
    table = plain_table(web)
    places = range(len(web[1]))
    return [[plain_relation(web, table, first, second) for second in places] for first in places]


def plain_chains(relations, first):
    """Return the least of the shortest chains to each edge that has one."""
    found = {first: (first,)}
    layer = [first]
    while layer:
        beyond = {}
        for place, other in itertools.product(layer, range(len(relations))):
            if relations[place][other] and other not in found:
                told = (*found[place], other)
                beyond[other] = min(beyond.get(other, told), told)
        found.update(beyond)
        layer = list(beyond)
    return found


class DistanceRowsTest(WebCase):
    def test_against_the_distances(self):
        for web in SAMPLES:
            self.assertEqual(plain_table(web), distance_rows(web))

    def test_small(self):
        self.assertEqual([[0]], distance_rows(ONE))
        self.assertEqual([[0, 1, 2], [1, 0, 1], [2, 1, 0]], distance_rows(path(3)))

    def test_errors(self):
        for error, told, web in UNFIT:
            self.check_error(error, told, distance_rows, web)

    def test_greatest_webs(self):
        self.assertEqual(63, self.quickly(distance_rows, path(64))[0][63])
        self.assertEqual(1, self.quickly(distance_rows, full(64))[0][63])

    def test_a_changed_list_does_not_change_the_next_answer(self):
        distance_rows(EDGE)[0].append(9)
        self.assertEqual([[0, 1], [1, 0]], distance_rows(EDGE))


class RelationTest(WebCase):
    def test_examples(self):
        self.assertEqual("distance", relation((4, ((0, 1), (0, 3), (1, 2), (2, 3))), 0, 3))
        self.assertEqual("square", relation((3, ((0, 1), (1, 2))), 0, 1))

    def test_against_the_definition(self):
        for web in SAMPLES:
            relations = plain_relations(web)
            places = range(len(web[1]))
            found = [[relation(web, first, second) for second in places] for first in places]
            self.assertEqual(relations, found)

    def test_equal_places(self):
        for web in SAMPLES:
            for place in range(len(web[1])):
                self.assertEqual("distance", relation(web, place, place))

    def test_either_end_may_be_named_first(self):
        for seed, web in enumerate(SAMPLES):
            row = random_row(seed, web[0])
            other = moved(web, row)
            places = [other[1].index(tuple(sorted((row[u], row[v])))) for u, v in web[1]]
            for first, second in itertools.product(range(len(places)), repeat=2):
                self.assertEqual(relation(web, first, second), relation(other, places[first], places[second]))

    def test_rings(self):
        four = [[relation(ring(4), first, second) for second in range(4)] for first in range(4)]
        d = "distance"
        self.assertEqual([[d, None, None, d], [None, d, d, None], [None, d, d, None], [d, None, None, d]], four)
        self.assertEqual([d, d, d], [relation(ring(3), 0, place) for place in range(3)])
        self.assertEqual([d, "square", "square", d, d], [relation(ring(5), 0, place) for place in range(5)])
        self.assertEqual([d, "square", "square", None, d, None], [relation(ring(6), 0, place) for place in range(6)])

    def test_paths_stars_and_full_webs(self):
        self.assertEqual(["distance", "square", None], [relation(path(4), 0, place) for place in range(3)])
        self.assertEqual("square", relation(star(4), 0, 2))
        # The last edge of the full web has no node in common with the first one.
        self.assertEqual(["distance"] * 5 + [None], [relation(full(4), 0, place) for place in range(6)])

    def test_a_second_common_neighbour_makes_no_square(self):
        web = make_web(4, [(0, 1), (1, 2), (2, 3), (3, 0)])
        self.assertIsNone(relation(web, 0, 1))
        self.assertIsNone(relation(web, 1, 0))

    def test_errors(self):
        for error, told, web in UNFIT:
            self.check_error(error, told, relation, web, 0, 0)


class ChainTest(WebCase):
    def test_against_all_chains(self):
        for web in SAMPLES:
            relations = plain_relations(web)
            for first in range(len(web[1])):
                chains = plain_chains(relations, first)
                for second in range(len(web[1])):
                    self.assertEqual(chains.get(second), chain(web, first, second))

    def test_equal_places(self):
        for web in (EDGE, ring(4), full(5), full(64)):
            for place in (0, len(web[1]) - 1):
                self.assertEqual((place,), chain(web, place, place))

    def test_small(self):
        self.assertEqual((0, 3), chain(ring(4), 0, 3))
        self.assertIsNone(chain(ring(4), 0, 1))
        self.assertEqual((0, 1, 2, 3), chain(path(5), 0, 3))
        self.assertEqual((3, 2, 1, 0), chain(path(5), 3, 0))
        self.assertEqual((0, 1, 5), chain(full(4), 0, 5))
        self.assertEqual((5, 1, 0), chain(full(4), 5, 0))

    def test_the_first_of_several_shortest_chains(self):
        # Each chain goes through one of the edges at places 2, 3, 5 and 6, or of those at 1, 2, 4 and 5.
        self.assertEqual((0, 2, 9), chain(full(5), 0, 9))
        self.assertEqual((9, 2, 0), chain(full(5), 9, 0))
        self.assertEqual((0, 1, 7), chain(full(5), 0, 7))

    def test_errors(self):
        for error, told, web in UNFIT:
            self.check_error(error, told, chain, web, 0, 0)

    def test_many_edges(self):
        halves = make_web(64, [(u, v) for u in range(32) for v in range(32, 64)])
        for web in [full(64), halves, product("box", full(32), EDGE), product("box", full(8), full(8)),
                    power_of("box", EDGE, 6), random_joined_web(3, 64, 0.5)]:
            last = len(web[1]) - 1
            told = self.quickly(chain, web, 0, last)
            if told is not None:
                self.assertEqual([0, last], [told[0], told[-1]])
                for first, second in zip(told, told[1:]):
                    self.assertIsNotNone(self.quickly(relation, web, first, second))
        self.assertEqual((0, 61, 2015), chain(full(64), 0, 2015))
        self.assertIsNone(self.quickly(chain, product("box", full(8), full(8)), 0, 7))


if __name__ == "__main__":
    unittest.main()
