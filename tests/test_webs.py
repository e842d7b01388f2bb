"""Points 2, 3 and 5 to 9: webs, adjacency, images, renamed and induced webs."""

import itertools
import unittest

from tests.helpers import WebCase, every_web, moved, random_row, random_web, small_webs, ties, web_of_ties
from webnumbers.errors import HasLoops, InvalidRow, InvalidWeb, TooLarge
from webnumbers.webs import (
    EDGE, EMPTY, LOOP, MAX_NODES, ONE,
    adjacent, check_simple, first_loop, image, induced, make_web, neighbour_rows, renamed,
)


class MakeWebTest(WebCase):
    def test_names(self):
        self.assertEqual(64, MAX_NODES)
        self.assertEqual([(0, ()), (1, ()), (1, ((0, 0),)), (2, ((0, 1),))], [EMPTY, ONE, LOOP, EDGE])

    def test_example(self):
        self.assertEqual((3, ((0, 2), (1, 1))), make_web(3, [(2, 0), (1, 1), (0, 2)]))

    def test_pairs_in_any_order_and_twice(self):
        expected = (4, ((0, 1), (0, 3), (2, 2), (2, 3)))
        for pairs in itertools.permutations([(1, 0), (3, 0), (2, 2), (3, 2), (2, 3)]):
            self.assertEqual(expected, make_web(4, pairs))
            self.assertEqual(expected, make_web(4, [list(pair) for pair in pairs]))

    def test_form_of_the_result(self):
        web = make_web(3, [[2, 1], [1, 0], [1, 1], [0, 1]])
        self.assertEqual((3, ((0, 1), (1, 1), (1, 2))), web)
        self.check_web(web)

    def test_no_pairs(self):
        for pairs in ([], ()):
            self.assertEqual((0, ()), make_web(0, pairs))
            self.assertEqual((5, ()), make_web(5, pairs))
            self.assertEqual((64, ()), make_web(64, pairs))

    def test_arguments_are_not_modified(self):
        pairs = [[2, 0], [1, 1], [0, 2]]
        make_web(3, pairs)
        self.assertEqual([[2, 0], [1, 1], [0, 2]], pairs)

    def test_a_changed_list_does_not_change_the_web(self):
        pairs = [[2, 0]]
        web = make_web(3, pairs)
        pairs[0][0] = 1
        pairs.append([1, 1])
        self.assertEqual((3, ((0, 2),)), web)
        self.assertEqual((3, ((0, 1), (1, 1))), make_web(3, pairs))

    def test_size_errors(self):
        self.check_error(InvalidWeb, {"place": -1}, make_web, -1, [])
        self.check_error(InvalidWeb, {"place": -1}, make_web, -10, [(0, 0)])
        self.check_error(TooLarge, {"limit": 64}, make_web, 65, [])
        self.check_error(TooLarge, {"limit": 64}, make_web, 65, [(-1, 70)])
        self.check_error(TooLarge, {"limit": 64}, make_web, 10 ** 30, [(0, 1)])

    def test_first_invalid_pair(self):
        self.check_error(InvalidWeb, {"place": 0}, make_web, 0, [(0, 0)])
        self.check_error(InvalidWeb, {"place": 1}, make_web, 3, [(0, 2), (0, 3), (5, 5)])
        self.check_error(InvalidWeb, {"place": 1}, make_web, 3, [(0, 2), (3, 0)])
        self.check_error(InvalidWeb, {"place": 2}, make_web, 3, [(0, 2), (0, 2), (-1, 0), (0, 9)])
        self.check_error(InvalidWeb, {"place": 0}, make_web, 3, ((0, -1), (0, 1)))
        self.check_error(InvalidWeb, {"place": 0}, make_web, 64, ((63, 64),))

    def test_greatest_node(self):
        self.assertEqual((64, ((0, 63), (63, 63))), make_web(64, [(63, 0), (63, 63)]))


class AdjacencyTest(WebCase):
    def test_example(self):
        self.assertEqual([[2], [1], [0]], neighbour_rows((3, ((0, 2), (1, 1)))))

    def test_against_the_pairs(self):
        for web in small_webs(3) + [random_web(k, 12) for k in range(5)]:
            pairs = ties(web)
            nodes = range(web[0])
            self.assertEqual(
                [[v for v in nodes if (u, v) in pairs] for u in nodes], neighbour_rows(web))
            for u, v in itertools.product(nodes, nodes):
                self.assertIs((u, v) in pairs, adjacent(web, u, v))

    def test_no_nodes(self):
        self.assertEqual([], neighbour_rows(EMPTY))

    def test_a_loop_counts_once(self):
        self.assertEqual([[0, 1], [0]], neighbour_rows((2, ((0, 0), (0, 1)))))

    def test_a_changed_list_does_not_change_the_next_answer(self):
        rows = neighbour_rows(EDGE)
        rows[0].append(7)
        rows.pop()
        self.assertEqual([[1], [0]], neighbour_rows(EDGE))

    def test_first_loop(self):
        self.assertIsNone(first_loop(EMPTY))
        self.assertIsNone(first_loop(EDGE))
        self.assertEqual(0, first_loop(LOOP))
        self.assertEqual(1, first_loop((4, ((0, 3), (1, 1), (2, 2)))))
        self.assertEqual(3, first_loop((4, ((0, 3), (3, 3)))))

    def test_check_simple(self):
        self.assertIsNone(check_simple(EMPTY))
        self.assertIsNone(check_simple((3, ((0, 1), (1, 2)))))
        self.check_error(HasLoops, {"node": 0}, check_simple, LOOP)
        self.check_error(HasLoops, {"node": 2}, check_simple, (4, ((0, 1), (2, 2), (3, 3))))


class ImageTest(WebCase):
    def test_edges_and_loops(self):
        path = (3, ((0, 1), (1, 2)))
        self.assertEqual((2, ((0, 1),)), image(path, (0, 1, 0), 2))
        self.assertEqual((5, ((1, 4),)), image(path, [4, 1, 4], 5))
        self.assertEqual((1, ((0, 0),)), image(path, (0, 0, 0), 1))
        self.assertEqual((2, ((0, 0), (0, 1))), image(path, (0, 0, 1), 2))
        self.assertEqual((3, ((2, 2),)), image(LOOP, [2], 3))

    def test_against_the_pairs(self):
        for web in every_web(3):
            for row in itertools.product(range(2), repeat=3):
                expected = web_of_ties(2, [(row[u], row[v]) for u, v in web[1]])
                self.assertEqual(expected, image(web, row, 2))

    def test_no_nodes(self):
        self.assertEqual((0, ()), image(EMPTY, (), 0))
        self.assertEqual((64, ()), image(EMPTY, [], 64))

    def test_errors(self):
        self.check_error(TooLarge, {"limit": 64}, image, EDGE, (0, 9, 9), 65)
        self.check_error(InvalidRow, {"place": -1}, image, EDGE, (7,), 2)
        self.check_error(InvalidRow, {"place": -1}, image, EDGE, (0, 1, 7), 2)
        self.check_error(InvalidRow, {"place": -1}, image, EMPTY, (0,), 2)
        self.check_error(InvalidRow, {"place": 0}, image, EDGE, (2, 5), 2)
        self.check_error(InvalidRow, {"place": 1}, image, EDGE, [1, -1], 2)
        self.check_error(InvalidRow, {"place": 0}, image, ONE, [0], 0)

    def test_arguments_are_not_modified(self):
        row = [1, 0, 1]
        image((3, ((0, 1), (1, 2))), row, 2)
        self.assertEqual([1, 0, 1], row)


class RenamedTest(WebCase):
    def test_all_small_renamings(self):
        for web in small_webs(3):
            for row in itertools.permutations(range(web[0])):
                self.assertEqual(moved(web, row), renamed(web, row))
                self.assertEqual(moved(web, row), renamed(web, list(row)))

    def test_greatest_webs(self):
        web = random_web(1, 64)
        row = random_row(2, 64)
        self.assertEqual(moved(web, row), renamed(web, row))
        self.check_web(renamed(web, row))

    def test_errors(self):
        web = (3, ((0, 1), (2, 2)))
        self.check_error(InvalidRow, {"place": -1}, renamed, web, (5, 5))
        self.check_error(InvalidRow, {"place": -1}, renamed, web, (0, 1, 2, 3))
        self.check_error(InvalidRow, {"place": -1}, renamed, EMPTY, [0])
        self.check_error(InvalidRow, {"place": 0}, renamed, web, (3, 3, 0))
        self.check_error(InvalidRow, {"place": 0}, renamed, web, [-1, 0, 1])
        self.check_error(InvalidRow, {"place": 1}, renamed, web, (1, 1, 7))
        self.check_error(InvalidRow, {"place": 2}, renamed, web, (1, 0, 1))


class InducedTest(WebCase):
    def test_nodes_in_any_order(self):
        web = (4, ((0, 1), (1, 1), (1, 3), (2, 3)))
        self.assertEqual((2, ((0, 0), (0, 1))), induced(web, [1, 3]))
        self.assertEqual((2, ((0, 1), (1, 1))), induced(web, (3, 1)))
        self.assertEqual((3, ((0, 1), (1, 2), (2, 2))), induced(web, [2, 3, 1]))
        self.assertEqual((2, ()), induced(web, [0, 2]))
        self.assertEqual(web, induced(web, [0, 1, 2, 3]))

    def test_against_the_pairs(self):
        web = random_web(3, 6)
        pairs = ties(web)
        for nodes in itertools.permutations(range(6), 3):
            expected = [(i, k) for i in range(3) for k in range(3) if (nodes[i], nodes[k]) in pairs]
            self.assertEqual(web_of_ties(3, expected), induced(web, nodes))

    def test_no_nodes(self):
        self.assertEqual(EMPTY, induced(EDGE, []))
        self.assertEqual(EMPTY, induced(EMPTY, ()))

    def test_errors(self):
        self.check_error(InvalidRow, {"place": 0}, induced, EMPTY, [0])
        self.check_error(InvalidRow, {"place": 0}, induced, EDGE, [-1])
        self.check_error(InvalidRow, {"place": 1}, induced, EDGE, [1, 2, 2])
        self.check_error(InvalidRow, {"place": 1}, induced, EDGE, (1, 1, 5))
        self.check_error(InvalidRow, {"place": 2}, induced, EDGE, (1, 0, 1))

    def test_arguments_are_not_modified(self):
        nodes = [1, 0]
        induced(EDGE, nodes)
        self.assertEqual([1, 0], nodes)


if __name__ == "__main__":
    unittest.main()
