"""Points 25 and 26: the catalogue."""

import unittest

from tests.helpers import WebCase, every_web, least_code_rows, moved, plain_code, renaming_rows
from webnumbers.catalogue import all_webs, catalogue
from webnumbers.errors import TooLarge
from webnumbers.webs import EDGE, EMPTY, LOOP, ONE


class AllWebsTest(WebCase):
    def test_small(self):
        self.assertEqual([EMPTY], list(all_webs(0)))
        self.assertEqual([EMPTY], list(all_webs(0, loops=True)))
        self.assertEqual([ONE], list(all_webs(1)))
        self.assertEqual([ONE, LOOP], list(all_webs(1, loops=True)))
        self.assertEqual([(2, ()), EDGE], list(all_webs(2)))
        expected = [(3, ()), (3, ((0, 1),)), (3, ((0, 1), (0, 2))), (3, ((0, 1), (0, 2), (1, 2)))]
        self.assertEqual(expected, [web for web in all_webs(3, loops=False)])

    def test_numbers(self):
        self.assertEqual([1, 1, 2, 4, 11], [len(list(all_webs(size))) for size in range(5)])
        self.assertEqual([1, 2, 6, 20], [len(list(all_webs(size, loops=True))) for size in range(4)])

    def test_all_webs_that_are_their_own_sorts(self):
        for size, loops in [(0, False), (1, False), (2, False), (3, False), (4, False),
                            (0, True), (1, True), (2, True), (3, True)]:
            webs = sorted(every_web(size, loops), key=plain_code)
            expected = [web for web in webs if moved(web, least_code_rows(web)[0]) == web]
            self.assertEqual(expected, list(all_webs(size, loops=loops)))

    def test_limits(self):
        for size in (5, 10 ** 30):
            self.check_late_error(TooLarge, {"limit": 4}, all_webs, size)
            self.check_late_error(TooLarge, {"limit": 4}, all_webs, size, loops=False)
        for size in (4, 5, 10 ** 30):
            self.check_late_error(TooLarge, {"limit": 3}, all_webs, size, loops=True)

    def test_loops_are_passed_by_keyword(self):
        with self.assertRaises(TypeError):
            list(all_webs(1, True))
        with self.assertRaises(TypeError):
            catalogue(1, True)


class CatalogueTest(WebCase):
    def test_example(self):
        self.assertEqual([(0, ()), (1, ()), (1, ((0, 0),))], catalogue(1, loops=True))

    def test_numbers(self):
        self.assertEqual(19, len(self.quickly(catalogue, 4)))
        self.assertEqual(29, len(self.quickly(catalogue, 3, loops=True)))

    def test_in_the_order_of_the_sizes(self):
        for limit in range(5):
            expected = [web for size in range(limit + 1) for web in all_webs(size)]
            self.assertEqual(expected, catalogue(limit))
            self.assertEqual(expected, catalogue(limit, loops=False))
        for limit in range(4):
            expected = [web for size in range(limit + 1) for web in all_webs(size, loops=True)]
            self.assertEqual(expected, catalogue(limit, loops=True))

    def test_exactly_one_web_of_each_sort(self):
        webs = catalogue(4)
        for web in every_web(4, loops=False):
            self.assertEqual(1, len([other for other in webs if renaming_rows(web, other)]))

    def test_form(self):
        for web in catalogue(4) + catalogue(3, loops=True):
            self.check_web(web)

    def test_a_changed_list_does_not_change_the_next_answer(self):
        webs = catalogue(2)
        webs.append(LOOP)
        webs[0] = EDGE
        self.assertEqual([EMPTY, ONE, (2, ()), EDGE], catalogue(2))

    def test_limits(self):
        for limit in (5, 10 ** 30):
            self.check_error(TooLarge, {"limit": 4}, catalogue, limit)
        for limit in (4, 5, 10 ** 30):
            self.check_error(TooLarge, {"limit": 3}, catalogue, limit, loops=True)


if __name__ == "__main__":
    unittest.main()
