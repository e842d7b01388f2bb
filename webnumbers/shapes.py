"""Webs of well-known shapes."""

from webnumbers.webs import check_size, web_of_pairs


def path(size):
    """Return the web in which each node is joined to the next one."""
    check_size(size)
    return web_of_pairs(size, [(node, node + 1) for node in range(size - 1)])


def ring(size):
    """Return the path whose last node is also joined to node 0."""
    check_size(size)
    return web_of_pairs(size, [(node, (node + 1) % size) for node in range(size)])


def star(size):
    """Return the web in which node 0 is joined to all others."""
    check_size(size)
    return web_of_pairs(size, [(0, node) for node in range(1, size)])


def full(size):
    """Return the web in which all pairs of different nodes are joined."""
    check_size(size)
    return web_of_pairs(size, [(u, v) for v in range(size) for u in range(v)])


def full_with_loops(size):
    """Return the web in which all pairs of nodes, also of equal ones, are joined."""
    check_size(size)
    return web_of_pairs(size, [(u, v) for v in range(size) for u in range(v + 1)])
