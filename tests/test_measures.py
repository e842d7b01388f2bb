"""Points 27 and 28: measures and degrees of sums and products."""

import itertools
import unittest

from tests.helpers import WebCase, plain_product, random_web, small_webs, ties
from webnumbers.errors import InvalidKind
from webnumbers.measures import degree_row, join_degrees, join_measures, measure
from webnumbers.products import sum_webs
from webnumbers.webs import EDGE, EMPTY, LOOP, ONE

WORDS = ("sum", "box", "strong", "direct", "levels")
WRONG_WORDS = ["", "Sum", "su", "sums", "bo", "boxx", "Strong", "strong ", "direkt", "level", "product"]


def plain_join(word, a, b):
    return sum_webs(a, b) if word == "sum" else plain_product(word, a, b)


def webs_for(word):
    loops = word in ("sum", "direct")
    return small_webs(2, loops) + [random_web(k, 4, loops) for k in range(6)]


class MeasureTest(WebCase):
    def test_examples(self):
        self.assertEqual((3, 3, 1), measure((3, ((0, 1), (2, 2)))))
        self.assertEqual((4, 12, 0), join_measures("strong", (2, 2, 0), (2, 2, 0)))

    def test_measures(self):
        self.assertEqual([(0, 0, 0), (1, 0, 0), (1, 1, 1), (2, 2, 0)],
                         [measure(web) for web in (EMPTY, ONE, LOOP, EDGE)])
        for web in small_webs(3) + [random_web(1, 64)]:
            loops = len([u for u in range(web[0]) if (u, u) in ties(web)])
            self.assertEqual((web[0], len(ties(web)), loops), measure(web))

    def test_against_what_is_built(self):
        for word in WORDS:
            for a, b in itertools.product(webs_for(word), webs_for(word)):
                expected = measure(plain_join(word, a, b))
                self.assertEqual(expected, join_measures(word, measure(a), measure(b)))

    def test_great_integers(self):
        n, t, l, m, s, k = 10 ** 40, 10 ** 41 + 1, 7, 10 ** 39 + 3, 10 ** 38, 10 ** 37
        first, second = (n, t, l), (m, s, k)
        self.assertEqual((n + m, t + s, l + k), join_measures("sum", first, second))
        self.assertEqual((n * m, t * m + n * s, 0), join_measures("box", first, second))
        self.assertEqual((n * m, (n + t) * (m + s) - n * m, 0), join_measures("strong", first, second))
        self.assertEqual((n * m, t * s, l * k), join_measures("direct", first, second))
        self.assertEqual((n * m, t * m * m + n * s, 0), join_measures("levels", first, second))

    def test_integers_of_no_web(self):
        self.assertEqual((0, 15, 0), join_measures("strong", (0, 3, 2), (0, 5, 1)))
        self.assertEqual((0, 0, 0), join_measures("levels", (0, 3, 2), (0, 5, 1)))
        self.assertEqual((0, 27, 0), join_measures("levels", (0, 3, 2), (3, 5, 1)))
        for word in WORDS:
            self.assertEqual((0, 0, 0), join_measures(word, (0, 0, 0), (0, 0, 0)))

    def test_wrong_words(self):
        for word in WRONG_WORDS:
            self.check_error(InvalidKind, {"kind": word}, join_measures, word, (1, 0, 0), (1, 0, 0))


class DegreesTest(WebCase):
    def test_degrees(self):
        self.assertEqual([], degree_row(EMPTY))
        self.assertEqual([0], degree_row(ONE))
        self.assertEqual([1], degree_row(LOOP))
        self.assertEqual([2, 1, 2, 0], degree_row((4, ((0, 1), (0, 2), (2, 2)))))

    def test_against_what_is_built(self):
        for word in WORDS:
            for a, b in itertools.product(webs_for(word), webs_for(word)):
                expected = degree_row(plain_join(word, a, b))
                self.assertEqual(expected, join_degrees(word, degree_row(a), degree_row(b)))
                self.assertEqual(expected, join_degrees(word, tuple(degree_row(a)), tuple(degree_row(b))))

    def test_each_word(self):
        first, second = [2, 0], (3, 5, 10 ** 30)
        great = 10 ** 30
        self.assertEqual([2, 0, 3, 5, great], join_degrees("sum", first, second))
        self.assertEqual([5, 7, great + 2, 3, 5, great], join_degrees("box", first, second))
        self.assertEqual([11, 17, 3 * great + 2, 3, 5, great], join_degrees("strong", first, second))
        self.assertEqual([6, 10, 2 * great, 0, 0, 0], join_degrees("direct", first, second))
        self.assertEqual([9, 11, great + 6, 3, 5, great], join_degrees("levels", first, second))
        self.assertEqual([2, 0], first)

    def test_no_nodes(self):
        for word in WORDS:
            self.assertEqual([], join_degrees(word, [], ()))
        for word in WORDS[1:]:
            self.assertEqual([], join_degrees(word, [], [1, 2]))
            self.assertEqual([], join_degrees(word, [1, 2], []))

    def test_wrong_words(self):
        for word in WRONG_WORDS:
            self.check_error(InvalidKind, {"kind": word}, join_degrees, word, [1], [1])
            self.check_error(InvalidKind, {"kind": word}, join_degrees, word, [], [])

    def test_a_changed_list_does_not_change_the_next_answer(self):
        degree_row(EDGE).append(3)
        self.assertEqual([1, 1], degree_row(EDGE))
        first = [1, 2]
        joined = join_degrees("sum", first, [])
        joined.append(5)
        self.assertEqual([1, 2], first)


if __name__ == "__main__":
    unittest.main()
