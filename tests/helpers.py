"""Slow but plain answers that the tests compare with the answers of the package."""

import itertools
import random
import time
import unittest

from webnumbers.renamings import find_renaming


class WebCase(unittest.TestCase):
    """A test case that also checks the attributes of errors."""

    def check_error(self, error, told, function, *args, **more):
        """Check that the call raises exactly the error, with the attributes in the dict `told`."""
        with self.assertRaises(error) as caught:
            function(*args, **more)
        self.assertIs(error, caught.exception.__class__)
        self.assertEqual(told, {name: getattr(caught.exception, name) for name in told})

    def check_late_error(self, error, told, function, *args, **more):
        """Check that the call raises nothing before it is iterated over, and then the error."""
        values = function(*args, **more)
        self.check_error(error, told, lambda: next(iter(values)))

    def quickly(self, function, *args, **more):
        """Return what the call returns; it must not take as long as a search through everything."""
        begin = time.process_time()
        result = function(*args, **more)
        self.assertLess(time.process_time() - begin, 2)
        return result

    def check_web(self, web):
        """Check that the value has the form of a web."""
        self.assertIs(tuple, web.__class__)
        size, edges = web
        self.assertTrue(0 <= size <= 64)
        self.assertIs(tuple, edges.__class__)
        self.assertEqual(sorted(set(edges)), list(edges))
        for pair in edges:
            self.assertIs(tuple, pair.__class__)
            self.assertTrue(0 <= pair[0] <= pair[1] < size)


def ties(web):
    """Return the set of the ordered pairs of adjacent nodes."""
    return {pair for u, v in web[1] for pair in ((u, v), (v, u))}


def web_of_ties(size, pairs):
    """Return the web in which the ordered pairs are adjacent."""
    return (size, tuple(sorted({tuple(sorted(pair)) for pair in pairs})))


def every_web(size, loops=True):
    """Return all webs with the size, whatever the numbers of their nodes, with or without loops."""
    pairs = [(u, v) for u in range(size) for v in range(u, size) if loops or u != v]
    return [
        (size, tuple(chosen))
        for many in range(len(pairs) + 1)
        for chosen in itertools.combinations(pairs, many)
    ]


def small_webs(limit, loops=True):
    """Return all webs with at most `limit` nodes."""
    return [web for size in range(limit + 1) for web in every_web(size, loops)]


def random_web(seed, size, loops=True, share=0.4):
    """Return a web that the seed determines."""
    chooser = random.Random(seed)
    pairs = [(u, v) for u in range(size) for v in range(u, size) if loops or u != v]
    return (size, tuple(pair for pair in pairs if chooser.random() < share))


def random_row(seed, size):
    """Return a renaming that the seed determines."""
    row = list(range(size))
    random.Random(seed).shuffle(row)
    return tuple(row)


def moved(web, row):
    """Return the web in which each node v has the number row[v]."""
    return web_of_ties(web[0], [(row[u], row[v]) for u, v in web[1]])


def renaming_rows(a, b):
    """Return all rows that rename a into b, in lexicographic order."""
    if a[0] != b[0]:
        return []
    return [row for row in itertools.permutations(range(a[0])) if moved(a, row) == b]


def plain_product(kind, a, b):
    """Return the product as the set of the ordered pairs of adjacent pairs of nodes says, also a large one."""
    first, second = ties(a), ties(b)
    nodes = [(u, x) for u in range(a[0]) for x in range(b[0])]
    pairs = []
    for place, (u, x) in enumerate(nodes):
        for other, (v, y) in enumerate(nodes):
            box = ((u, v) in first and x == y) or (u == v and (x, y) in second)
            direct = (u, v) in first and (x, y) in second
            levels = (u, v) in first or (u == v and (x, y) in second)
            if {"box": box, "strong": box or direct, "direct": direct, "levels": levels}[kind]:
                pairs.append((place, other))
    return web_of_ties(len(nodes), pairs)


def plain_distance(web, start, end):
    """Return the distance of two nodes, or None, from the sets of nodes reached step by step."""
    pairs = ties(web)
    reached = {start}
    for length in range(web[0] + 1):
        if end in reached:
            return length
        reached = reached | {v for u, v in pairs if u in reached}
    return None


def plain_components(web):
    """Return the components as ascending lists, by joining sets."""
    groups = [{node} for node in range(web[0])]
    for u, v in web[1]:
        first = next(group for group in groups if u in group)
        second = next(group for group in groups if v in group)
        if first is not second:
            groups.remove(second)
            first |= second
    return sorted(sorted(group) for group in groups)


def plain_homs(x, a):
    """Return all homs from x to a in lexicographic order."""
    pairs = ties(a)
    return [row for row in every_map(x, a) if all((row[u], row[v]) in pairs for u, v in x[1])]


def plain_code(web):
    """Return the code of the web."""
    return sum(2 ** (v * (v + 1) // 2 + u) for u, v in web[1])


def least_code_rows(web):
    """Return all rows that rename the web into one with the least code, in lexicographic order."""
    rows = list(itertools.permutations(range(web[0])))
    least = min(plain_code(moved(web, row)) for row in rows)
    return [row for row in rows if plain_code(moved(web, row)) == least]


def plain_sort(web):
    """Return the sort of the web."""
    return moved(web, least_code_rows(web)[0])


def plain_sorts(webs):
    """Return the sorts of the webs with equally many nodes, each once, with ascending codes."""
    return sorted({plain_sort(web) for web in webs}, key=plain_code)


def every_map(x, a):
    """Return all maps from x to a in lexicographic order."""
    return list(itertools.product(range(a[0]), repeat=x[0]))


def closed_walks(web, length):
    """Return the number of closed walks of the length, by the powers of the matrix of the web."""
    pairs = ties(web)
    nodes = range(web[0])
    matrix = [[1 if (u, v) in pairs else 0 for v in nodes] for u in nodes]
    power = [[1 if u == v else 0 for v in nodes] for u in nodes]
    for _ in range(length):
        power = [[sum(row[k] * matrix[k][v] for k in nodes) for v in nodes] for row in power]
    return sum(power[u][u] for u in nodes)


def joined(web):
    """Tell whether the web has exactly one component."""
    return len(plain_components(web)) == 1


def joined_webs(limit):
    """Return all simple connected webs with at most `limit` nodes."""
    return [web for web in small_webs(limit, loops=False) if joined(web)]


def random_joined_web(seed, size, share=0.3):
    """Return a simple connected web that the seed determines."""
    chooser = random.Random(seed)
    tree = [(chooser.randrange(node), node) for node in range(1, size)]
    others = [(u, v) for u in range(size) for v in range(u + 1, size) if chooser.random() < share]
    return moved(web_of_ties(size, tree + others), random_row(seed, size))


def same_sort(a, b):
    """Tell whether some row renames a into b."""
    return a[0] == b[0] and len(a[1]) == len(b[1]) and bool(renaming_rows(a, b))


def are_same(first, second):
    """Tell whether the two lists contain webs of the same sorts, each sort as often."""
    rest = list(second)
    for web in first:
        match = [other for other in rest if other[0] == web[0] and find_renaming(web, other) is not None]
        if not match:
            return False
        rest.remove(match[0])
    return not rest
