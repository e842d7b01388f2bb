"""Rows that turn products around, and complements."""

from webnumbers.webs import check_simple, web_of_pairs


def swap_row(first, second):
    """Return the row that renames the product of a and b into the product of b and a."""
    return tuple(x * first + u for u in range(first) for x in range(second))


def spread_row(first, second, third):
    """Return the row that renames the product of a and a sum into the sum of two products."""
    row = []
    for u in range(first):
        row.extend([u * second + x for x in range(second)])
        row.extend([first * second + u * third + x for x in range(third)])
    return tuple(row)


def complement(web):
    """Return the web in which exactly the other pairs of different nodes are adjacent."""
    check_simple(web)
    edges = set(web[1])
    others = [(u, v) for v in range(web[0]) for u in range(v) if (u, v) not in edges]
    return web_of_pairs(web[0], others)
