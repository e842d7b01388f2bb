"""Points 33 and 34: numbers of closed walks."""

import itertools
import unittest

from tests.helpers import WebCase, closed_walks, plain_product, random_web, small_webs
from webnumbers.errors import InvalidKind, TooLarge
from webnumbers.products import sum_webs
from webnumbers.shapes import full, full_with_loops, path, ring
from webnumbers.walks import MAX_WALK, join_walks, walk_row
from webnumbers.webs import EDGE, EMPTY, LOOP, ONE

WORDS = ("sum", "direct", "box", "strong")


def choose(k, j):
    """Return the number of ways to choose j of k things, by the triangle of these numbers."""
    row = [1]
    for _ in range(k):
        row = [1] + [row[i] + row[i + 1] for i in range(len(row) - 1)] + [1]
    return row[j]


class WalkRowTest(WebCase):
    def test_example(self):
        self.assertEqual([3, 0, 6, 6, 18], walk_row((3, ((0, 1), (0, 2), (1, 2))), 4))

    def test_against_the_powers_of_the_matrix(self):
        for web in small_webs(2) + [random_web(k, 6) for k in range(5)] + [ring(7), path(5)]:
            expected = [closed_walks(web, length) for length in range(13)]
            for length in (0, 1, 2, 5, 12):
                self.assertEqual(expected[:length + 1], walk_row(web, length))

    def test_small(self):
        self.assertEqual([0] * 13, walk_row(EMPTY, 12))
        self.assertEqual([1, 0, 0], walk_row(ONE, 2))
        self.assertEqual([1] * 13, walk_row(LOOP, 12))
        self.assertEqual([2, 0, 2, 0], walk_row(EDGE, 3))
        self.assertEqual([3, 1], walk_row((3, ((0, 1), (2, 2))), 1))

    def test_greatest_webs(self):
        expected = [64] + [64 ** length for length in range(1, 13)]
        self.assertEqual(expected, self.quickly(walk_row, full_with_loops(64), 12))
        self.assertEqual([64], walk_row(full(64), 0))

    def test_limit(self):
        self.assertEqual(12, MAX_WALK)
        for length in (13, 10 ** 30):
            self.check_error(TooLarge, {"limit": 12}, walk_row, EDGE, length)
            self.check_error(TooLarge, {"limit": 12}, walk_row, EMPTY, length)

    def test_a_changed_list_does_not_change_the_next_answer(self):
        walk_row(EDGE, 2).append(9)
        self.assertEqual([2, 0, 2], walk_row(EDGE, 2))


class JoinWalksTest(WebCase):
    def test_against_what_is_built(self):
        for word in WORDS:
            loops = word in ("sum", "direct")
            webs = small_webs(2, loops) + [random_web(k, 3, loops) for k in range(4)] + [path(4)]
            for a, b in itertools.product(webs, webs):
                built = sum_webs(a, b) if word == "sum" else plain_product(word, a, b)
                self.assertEqual(walk_row(built, 7), join_walks(word, walk_row(a, 7), walk_row(b, 7)))

    def test_any_integers(self):
        first, second = [3, 0, 10 ** 30, 7, 1], (2, 5, 0, 10 ** 25, 4)
        places = range(5)
        self.assertEqual([first[k] + second[k] for k in places], join_walks("sum", first, second))
        self.assertEqual([first[k] * second[k] for k in places], join_walks("direct", first, second))
        box = [sum(choose(k, j) * first[j] * second[k - j] for j in range(k + 1)) for k in places]
        self.assertEqual(box, join_walks("box", first, second))
        p = [sum(choose(j, i) * first[i] for i in range(j + 1)) for j in places]
        q = [sum(choose(j, i) * second[i] for i in range(j + 1)) for j in places]
        strong = [sum((-1) ** (k - j) * choose(k, j) * p[j] * q[j] for j in range(k + 1)) for k in places]
        self.assertEqual(strong, join_walks("strong", first, second))
        self.assertEqual([3, 0, 10 ** 30, 7, 1], first)

    def test_any_length(self):
        for word in WORDS:
            self.assertEqual([], join_walks(word, [], ()))
        self.assertEqual([6], join_walks("box", [2], [3]))
        self.assertEqual([6], join_walks("strong", [2], [3]))
        ones = [1] * 31
        self.assertEqual([2 ** k for k in range(31)], join_walks("box", ones, ones))
        self.assertEqual([3 ** k for k in range(31)], join_walks("strong", ones, ones))

    def test_wrong_words(self):
        for word in ["levels", "", "Sum", "boxes", "stron", "direct "]:
            self.check_error(InvalidKind, {"kind": word}, join_walks, word, [1], [1])
            self.check_error(InvalidKind, {"kind": word}, join_walks, word, [], [])


if __name__ == "__main__":
    unittest.main()
