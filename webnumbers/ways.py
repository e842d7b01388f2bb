"""Distances and components of products, known from their factors."""

from webnumbers.pieces import components, distances, distances_in, pieces, sides
from webnumbers.products import check_factors
from webnumbers.webs import ONE, adjacent, neighbour_rows


def walk_lengths(web, start, end):
    """Return the least even and the least odd length of a walk from the start to the end."""
    # The node 2 * v stands for v after an even number of steps, the node 2 * v + 1 after an odd one.
    rows = []
    for row in neighbour_rows(web):
        rows.append([2 * node + 1 for node in row])
        rows.append([2 * node for node in row])
    away = distances_in(rows, 2 * start)
    return (away[2 * end], away[2 * end + 1])


def product_distance(kind, a, b, start, end):
    """Return the distance of two nodes of the product, or None."""
    check_factors(kind, a, b)
    u, x = start
    v, y = end
    if kind == "direct":
        return direct_distance(a, b, start, end)
    if kind == "levels":
        return levels_distance(a, b, start, end)
    first = distances(a, u)[v]
    second = distances(b, x)[y]
    if kind == "strong":
        return greater(first, second)
    if first is None or second is None:
        return None
    return first + second


def greater(first, second):
    """Return the greater of two lengths, or None if one of them does not exist."""
    if first is None or second is None:
        return None
    return max(first, second)


def direct_distance(a, b, start, end):
    """Return the distance of two nodes of the direct product, or None."""
    u, x = start
    v, y = end
    if u == v and x == y:
        return 0
    if not neighbour_rows(a)[u] or not neighbour_rows(b)[x]:
        return None
    first = walk_lengths(a, u, v)
    second = walk_lengths(b, x, y)
    lengths = [greater(first[0], second[0]), greater(first[1], second[1])]
    return min([length for length in lengths if length is not None], default=None)


def levels_distance(a, b, start, end):
    """Return the distance of two nodes of the levels product, or None."""
    u, x = start
    v, y = end
    if u != v:
        return distances(a, u)[v]
    if x == y:
        return 0
    if adjacent(b, x, y):
        return 1
    if neighbour_rows(a)[u]:
        return 2
    return distances(b, x)[y]


def count_pieces(kind, a, b):
    """Return the number of components of the product."""
    check_factors(kind, a, b)
    if kind == "direct":
        others = piece_facts(b)
        return sum([pair_pieces(facts, other) for facts in piece_facts(a) for other in others])
    if kind == "levels":
        return levels_pieces(a, b)
    return len(components(a)) * len(components(b))


def piece_facts(web):
    """Return the facts of each component: its size, whether it is a node without a loop, and has an odd ring."""
    return [(part[0], part == ONE, sides(part) is None) for part in pieces(web)]


def pair_pieces(first, second):
    """Return the number of components of the direct product of two components with the facts."""
    size, alone, has_ring = first
    other_size, other_alone, other_has_ring = second
    if alone or other_alone:
        return size * other_size
    if has_ring or other_has_ring:
        return 1
    return 2


def levels_pieces(a, b):
    """Return the number of components of the levels product."""
    if b[0] == 0:
        return 0
    many = len(components(b))
    return sum([many if len(nodes) == 1 else 1 for nodes in components(a)])
