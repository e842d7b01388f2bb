"""Point 99: levels splits."""

import itertools
import unittest

from tests.helpers import (
    WebCase, every_web, joined_webs, moved, plain_code, plain_product, plain_sorts, random_row, random_web, small_webs,
)
from webnumbers.errors import HasLoops, TooLarge
from webnumbers.levels import levels_splits
from webnumbers.renamings import find_renaming
from webnumbers.shapes import full, path, ring, star
from webnumbers.webs import EDGE, EMPTY, LOOP, ONE

SORTS = {size: plain_sorts(every_web(size, loops=False)) for size in (2, 3, 4)}


def plain_splits(web):
    """Return all levels splits by trying all pairs of sorts, in the order of the document."""
    found = []
    for a, b in itertools.product([w for webs in SORTS.values() for w in webs], repeat=2):
        if a[0] * b[0] == web[0] and find_renaming(plain_product("levels", a, b), web) is not None:
            found.append((a, b))
    return sorted(found, key=lambda pair: (pair[0][0], plain_code(pair[0]), plain_code(pair[1])))


class LevelsSplitsTest(WebCase):
    def test_example(self):
        self.assertEqual([((2, ((0, 1),)), (2, ()))], levels_splits(ring(4)))

    def test_products(self):
        seed = 0
        for a, b in itertools.product([w for webs in SORTS.values() for w in webs], repeat=2):
            if a[0] * b[0] <= 9:
                seed += 1
                web = moved(plain_product("levels", a, b), random_row(seed, a[0] * b[0]))
                found = levels_splits(web)
                self.assertIn((a, b), found)
                self.assertEqual(plain_splits(web), found)

    def test_all_small_webs(self):
        for web in small_webs(4, loops=False) + [random_web(seed, 6, loops=False) for seed in range(30)]:
            self.assertEqual(plain_splits(web), levels_splits(web))

    def test_several_splits(self):
        self.assertEqual([(full(2), full(4)), (full(4), full(2))], levels_splits(full(8)))
        self.assertEqual([((2, ()), (3, ())), ((3, ()), (2, ()))], levels_splits((6, ())))
        self.assertEqual([(full(3), full(3))], levels_splits(full(9)))
        together = plain_product("levels", EDGE, plain_product("levels", EDGE, (2, ())))
        self.assertEqual(2, len(levels_splits(together)))
        self.assertEqual(plain_splits(together), levels_splits(together))

    def test_no_splits(self):
        for web in (EMPTY, ONE, EDGE, full(3), full(5), full(7), (7, ()), path(4), ring(6), ring(8), star(9), path(9)):
            self.assertEqual([], levels_splits(web))

    def test_renamed_webs(self):
        for seed, web in enumerate([ring(4), full(8), plain_product("levels", path(3), path(3))]):
            self.assertEqual(levels_splits(web), levels_splits(moved(web, random_row(seed, web[0]))))

    def test_nine_nodes(self):
        webs = [plain_product("levels", a, b) for a, b in itertools.product(SORTS[3], repeat=2)]
        webs += [(9, ()), full(9), ring(9), plain_product("box", ring(3), ring(3))]
        webs += [random_web(seed, 9, loops=False, share=0.5) for seed in range(10)]
        for seed, web in enumerate(webs):
            web = moved(web, random_row(seed, 9))
            self.assertEqual(plain_splits(web), self.quickly(levels_splits, web))

    def test_kinds_of_values(self):
        for web in joined_webs(4) + [full(8), (9, ())]:
            found = levels_splits(web)
            self.assertIs(list, found.__class__)
            for pair in found:
                self.assertIs(tuple, pair.__class__)
                self.check_web(pair[0])
                self.check_web(pair[1])


class ErrorsTest(WebCase):
    def test_loops_come_first(self):
        for web, node in [(LOOP, 0), ((4, ((2, 2), (3, 3))), 2), ((10, ((4, 4),)), 4), ((64, ((63, 63),)), 63)]:
            self.check_error(HasLoops, {"node": node}, levels_splits, web)

    def test_too_large(self):
        for web in ((10, ()), full(10), (11, ()), ring(64)):
            self.check_error(TooLarge, {"limit": 9}, levels_splits, web)


if __name__ == "__main__":
    unittest.main()
