"""Points 57 to 60: twists."""

import itertools
import unittest

from tests.helpers import WebCase, moved, plain_sorts, random_web, small_webs, ties, web_of_ties
from webnumbers.errors import InvalidRow, NotTwist, TooLarge
from webnumbers.shapes import full, full_with_loops, path, ring, star
from webnumbers.twists import MAX_TWISTED, twist_fault, twist_sorts, twisted, twists
from webnumbers.webs import EDGE, EMPTY, LOOP, ONE

SAMPLES = small_webs(3) + [random_web(seed, 4) for seed in range(12)] + [ring(4), path(4), full(4), star(4)]
FIVES = [(5, ()), path(5), ring(5), full(5), star(5), full_with_loops(5), random_web(20, 5), (5, ((0, 1), (2, 3)))]


def plain_fault(web, row):
    """Return the first pair of nodes for which the condition does not hold, or None."""
    pairs = ties(web)
    back = {entry: node for node, entry in enumerate(row)}
    for x, y in itertools.product(range(web[0]), repeat=2):
        if ((x, y) in pairs) != ((back[x], row[y]) in pairs):
            return (x, y)
    return None


def plain_twists(web):
    return [row for row in itertools.permutations(range(web[0])) if plain_fault(web, row) is None]


def plain_twisted(web, row):
    return web_of_ties(web[0], [(x, row[y]) for x, y in ties(web)])


class TwistFaultTest(WebCase):
    def test_against_all_pairs(self):
        for web in SAMPLES:
            for row in itertools.permutations(range(web[0])):
                self.assertEqual(plain_fault(web, row), twist_fault(web, row))
                self.assertEqual(plain_fault(web, row), twist_fault(web, list(row)))

    def test_small(self):
        self.assertIsNone(twist_fault(EMPTY, ()))
        self.assertIsNone(twist_fault(LOOP, [0]))
        self.assertIsNone(twist_fault(EDGE, (1, 0)))
        self.assertEqual((0, 2), twist_fault(path(3), (1, 0, 2)))
        self.assertEqual((0, 0), twist_fault((2, ((0, 0),)), (1, 0)))

    def test_greatest_webs(self):
        self.assertIsNone(self.quickly(twist_fault, full_with_loops(64), list(range(63, -1, -1))))
        self.assertIsNone(self.quickly(twist_fault, path(64), range(64)))
        self.assertIsNone(self.quickly(twist_fault, path(64), list(range(63, -1, -1))))
        self.assertEqual((0, 62), twist_fault((64, ((0, 62),)), [*range(62), 63, 62]))

    def test_rows_that_are_not_rows_of_the_web(self):
        for function in (twist_fault, twisted):
            for row in [(), (0, 1), (0, 1, 2, 3), (5, 5, 5, 5), [0, 0]]:
                self.check_error(InvalidRow, {"place": -1}, function, full(3), row)
            self.check_error(InvalidRow, {"place": -1}, function, EMPTY, (0,))
            self.check_error(InvalidRow, {"place": 1}, function, path(3), (0, 0, 5))
            self.check_error(InvalidRow, {"place": 0}, function, path(3), (3, 0, 0))
            self.check_error(InvalidRow, {"place": 2}, function, path(3), (0, 2, -1))
            self.check_error(InvalidRow, {"place": 2}, function, path(3), [1, 0, 1])


class TwistedTest(WebCase):
    def test_example(self):
        self.assertEqual((2, ((0, 0), (1, 1))), twisted((2, ((0, 1),)), (1, 0)))

    def test_against_the_definition(self):
        for web in SAMPLES + FIVES:
            for row in plain_twists(web):
                result = twisted(web, row)
                self.check_web(result)
                self.assertEqual(plain_twisted(web, row), result)
                self.assertEqual(result, twisted(web, list(row)))

    def test_exactly_the_adjacent_pairs(self):
        for web in SAMPLES:
            for row in plain_twists(web):
                self.assertEqual({(x, row[y]) for x, y in ties(web)}, ties(twisted(web, row)))

    def test_rows_that_are_no_twists(self):
        for web in SAMPLES:
            for row in itertools.permutations(range(web[0])):
                if plain_fault(web, row) is not None:
                    self.check_error(NotTwist, {"pair": plain_fault(web, row)}, twisted, web, row)

    def test_small(self):
        self.assertEqual(EMPTY, twisted(EMPTY, []))
        self.assertEqual(ONE, twisted(ONE, [0]))
        self.assertEqual(path(64), twisted(path(64), list(range(64))))


class TwistsTest(WebCase):
    def test_against_all_rows(self):
        for web in SAMPLES + FIVES + [random_web(21, 6), ring(6)]:
            self.assertEqual(plain_twists(web), list(twists(web)))

    def test_small(self):
        self.assertEqual([()], list(twists(EMPTY)))
        self.assertEqual([(0,)], list(twists(LOOP)))
        self.assertEqual([(0, 1), (1, 0)], [row for row in twists(EDGE)])
        self.assertEqual(list(itertools.permutations(range(6))), list(twists((6, ()))))
        self.assertEqual(720, len(list(twists(full_with_loops(6)))))

    def test_limit(self):
        self.assertEqual(6, MAX_TWISTED)
        for web in [(7, ()), path(7), full_with_loops(64)]:
            self.check_late_error(TooLarge, {"limit": 6}, twists, web)


class TwistSortsTest(WebCase):
    def test_against_the_definition(self):
        for web in SAMPLES + FIVES:
            expected = plain_sorts([plain_twisted(web, row) for row in plain_twists(web)])
            self.assertEqual(expected, self.quickly(twist_sorts, web))

    def test_small(self):
        self.assertEqual([EDGE, (2, ((0, 0), (1, 1)))], twist_sorts(EDGE))
        self.assertEqual([EDGE, (2, ((0, 0), (1, 1)))], twist_sorts((2, ((0, 0), (1, 1)))))
        self.assertEqual([EMPTY], twist_sorts(EMPTY))
        self.assertEqual([(5, ())], twist_sorts((5, ())))
        self.assertEqual([3, 3], [len(twist_sorts(moved(full(5), row))) for row in [(0, 1, 2, 3, 4), (4, 2, 0, 1, 3)]])

    def test_a_changed_list_does_not_change_the_next_answer(self):
        twist_sorts(ONE).append(LOOP)
        self.assertEqual([ONE], twist_sorts(ONE))

    def test_limit(self):
        for web in [(6, ()), path(6), full(7), full_with_loops(64)]:
            self.check_error(TooLarge, {"limit": 5}, twist_sorts, web)


if __name__ == "__main__":
    unittest.main()
