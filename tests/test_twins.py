"""Points 78 to 80: twins."""

import itertools
import unittest

from tests.helpers import WebCase, every_web, moved, random_row, random_web, small_webs, ties, web_of_ties
from webnumbers.errors import TooLarge
from webnumbers.renamings import find_renaming
from webnumbers.shapes import full, full_with_loops, path, ring, star
from webnumbers.twins import blown_up, thin, twin_classes
from webnumbers.webs import EDGE, EMPTY, LOOP, ONE

SAMPLES = small_webs(3) + every_web(4)[::9] + [random_web(seed, 7) for seed in range(10)] + [
    moved(star(6), random_row(1, 6)), moved(ring(4), (2, 0, 3, 1)), (64, ()), random_web(11, 64), full_with_loops(64),
]


def neighbours(web):
    """Return the set of the neighbours of each node."""
    found = [set() for _ in range(web[0])]
    for u, v in ties(web):
        found[u].add(v)
    return found


def plain_classes(web):
    sets = neighbours(web)
    return sorted({tuple(v for v in range(web[0]) if sets[v] == sets[u]) for u in range(web[0])})


def plain_blown_up(web, sizes):
    """Return the web on the pairs of a node and a number below its size."""
    nodes = [(node, k) for node in range(web[0]) for k in range(sizes[node])]
    pairs = ties(web)
    return web_of_ties(len(nodes), [
        (place, other)
        for (place, (u, _)), (other, (v, _)) in itertools.product(enumerate(nodes), repeat=2)
        if (u, v) in pairs
    ])


class TwinClassesTest(WebCase):
    def test_against_the_neighbours(self):
        for web in SAMPLES:
            self.assertEqual([list(nodes) for nodes in plain_classes(web)], twin_classes(web))

    def test_small(self):
        self.assertEqual([], twin_classes(EMPTY))
        self.assertEqual([[0]], twin_classes(ONE))
        self.assertEqual([[0], [1]], twin_classes(EDGE))
        self.assertEqual([[0, 1, 2]], twin_classes((3, ())))
        self.assertEqual([[0, 2], [1]], twin_classes(path(3)))
        self.assertEqual([[0, 2], [1, 3]], twin_classes(ring(4)))
        self.assertEqual([[0], [1], [2]], twin_classes(full(3)))

    def test_loops(self):
        self.assertEqual([[0, 1]], twin_classes(full_with_loops(2)))
        self.assertEqual([[0], [1]], twin_classes((2, ((0, 0), (0, 1)))))
        self.assertEqual([[0], [1]], twin_classes((2, ((0, 0), (1, 1)))))
        self.assertEqual([[0, 3], [1, 2]], twin_classes((4, ((1, 1), (1, 2), (2, 2)))))

    def test_a_changed_list_does_not_change_the_next_answer(self):
        twin_classes(EDGE)[0].append(9)
        self.assertEqual([[0], [1]], twin_classes(EDGE))


class ThinTest(WebCase):
    def test_against_the_classes(self):
        for web in SAMPLES:
            classes, pairs = plain_classes(web), ties(web)
            expected = web_of_ties(len(classes), [
                (place, other)
                for (place, first), (other, second) in itertools.product(enumerate(classes), repeat=2)
                if any((u, v) in pairs for u in first for v in second)
            ])
            self.assertEqual((expected, tuple(map(len, classes))), thin(web))

    def test_small(self):
        self.assertEqual((EMPTY, ()), thin(EMPTY))
        self.assertEqual((ONE, (64,)), thin((64, ())))
        self.assertEqual((LOOP, (64,)), thin(full_with_loops(64)))
        self.assertEqual((EDGE, (1, 5)), thin(star(6)))
        self.assertEqual((EDGE, (2, 2)), thin(ring(4)))
        self.assertEqual((full(64), (1,) * 64), thin(full(64)))

    def test_a_thin_web_has_no_twins(self):
        for web in SAMPLES:
            thinned = thin(web)[0]
            self.assertEqual((thinned, (1,) * thinned[0]), thin(thinned))


class BlownUpTest(WebCase):
    def test_against_the_definition(self):
        for web in small_webs(3):
            for sizes in itertools.product((1, 2, 3), repeat=web[0]):
                result = blown_up(web, sizes)
                self.check_web(result)
                self.assertEqual(plain_blown_up(web, sizes), result)
                self.assertEqual(result, blown_up(web, list(sizes)))

    def test_small(self):
        self.assertEqual(EMPTY, blown_up(EMPTY, ()))
        self.assertEqual(EMPTY, blown_up(EMPTY, []))
        self.assertEqual((3, ((0, 1), (0, 2))), blown_up(EDGE, (1, 2)))
        self.assertEqual((3, ((0, 2), (1, 2))), blown_up(EDGE, [2, 1]))
        self.assertEqual((3, ((0, 0), (0, 1), (1, 1))), blown_up((2, ((0, 0),)), (2, 1)))

    def test_there_and_back(self):
        for web in SAMPLES:
            thinned, sizes = thin(web)
            again = blown_up(thinned, sizes)
            self.assertEqual((thinned, sizes), thin(again))
            # The nodes of the classes, one class behind the other, name the nodes of the web again.
            row = [node for nodes in twin_classes(web) for node in nodes]
            self.assertEqual(web, moved(again, row))
            if web[0] <= 9:
                self.assertIsNotNone(find_renaming(again, web))

    def test_back_and_there(self):
        for web in [thin(web)[0] for web in SAMPLES if web[0] < 10]:
            sizes = [1 + node * node % 3 for node in range(web[0])]
            self.assertEqual((web, tuple(sizes)), thin(blown_up(web, sizes)))

    def test_exactly_64_nodes(self):
        self.assertEqual(full_with_loops(64), blown_up(LOOP, [64]))
        self.assertEqual((64, ()), blown_up((3, ()), (1, 62, 1)))
        self.assertEqual(64, blown_up(ring(8), [8] * 8)[0])
        self.assertEqual(star(64), blown_up(EDGE, (1, 63)))
        self.assertEqual(full(64), blown_up(full(64), [1] * 64))

    def test_more_than_64_nodes(self):
        for web, sizes in [(LOOP, [65]), (ONE, [10 ** 30]), ((3, ()), (1, 62, 2)), (full(64), [1] * 63 + [2]),
                           (EDGE, (64, 1)), (ring(8), [9] * 8)]:
            self.check_error(TooLarge, {"limit": 64}, blown_up, web, sizes)

    def test_arguments_are_not_modified(self):
        sizes = [2, 1]
        blown_up(EDGE, sizes)
        self.assertEqual([2, 1], sizes)


if __name__ == "__main__":
    unittest.main()
