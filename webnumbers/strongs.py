"""The prime factors of strong products."""

from webnumbers.directs import direct_coordinates, direct_factors
from webnumbers.pieces import check_connected
from webnumbers.webs import check_simple, web_of_pairs


def with_loops(web):
    """Return the web with a loop at every node."""
    return web_of_pairs(web[0], [*web[1], *[(node, node) for node in range(web[0])]])


def without_loops(web):
    """Return the web without its loops."""
    return (web[0], tuple([(u, v) for u, v in web[1] if u != v]))


def check_strong(web):
    """Raise the error of a web that has a loop or is not connected."""
    check_simple(web)
    check_connected(web)


def strong_factors(web):
    """Return the strong primes whose strong product is of the same sort as the web."""
    check_strong(web)
    return [without_loops(factor) for factor in direct_factors(with_loops(web))]


def strong_coordinates(web):
    """Return the tuples of the coordinates of all nodes."""
    check_strong(web)
    return direct_coordinates(with_loops(web))


def is_strong_prime(web):
    """Tell whether the web has exactly one prime factor."""
    return len(strong_factors(web)) == 1
