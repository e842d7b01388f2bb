"""Sums and the four kinds of products."""

from webnumbers.errors import InvalidKind, TooLarge
from webnumbers.webs import EMPTY, LOOP, MAX_NODES, ONE, check_simple, check_size, web_of_pairs

KINDS = ("box", "strong", "direct", "levels")


def check_kind(kind):
    """Raise InvalidKind if the string is not a kind of product."""
    if kind not in KINDS:
        raise InvalidKind(kind)


def check_factors(kind, a, b):
    """Raise the error of a product that is not defined for these webs, whatever their sizes."""
    check_kind(kind)
    if kind != "direct":
        check_simple(a)
        check_simple(b)


def unit(kind):
    """Return the web that changes no web when it is multiplied by it."""
    check_kind(kind)
    if kind == "direct":
        return LOOP
    return ONE


def sum_webs(*webs):
    """Return the webs side by side."""
    check_size(sum(web[0] for web in webs))
    size, edges = EMPTY
    for web in webs:
        edges = edges + tuple((u + size, v + size) for u, v in web[1])
        size = size + web[0]
    return (size, edges)


def product(kind, a, b):
    """Return the product of two webs."""
    check_factors(kind, a, b)
    check_size(a[0] * b[0])
    return web_of_pairs(a[0] * b[0], product_pairs(kind, a, b))


def product_pairs(kind, a, b):
    """Return the pairs of adjacent nodes of the product, perhaps some of them twice."""
    if kind == "direct":
        return both_ties(a, b)
    if kind == "levels":
        return level_ties(a, b) + second_ties(a, b)
    pairs = first_ties(a, b) + second_ties(a, b)
    if kind == "strong":
        return pairs + both_ties(a, b)
    return pairs


def first_ties(a, b):
    """Return the pairs of (u, x) and (v, x) for the adjacent nodes u and v of a."""
    return [(u * b[0] + x, v * b[0] + x) for u, v in a[1] for x in range(b[0])]


def second_ties(a, b):
    """Return the pairs of (u, x) and (u, y) for the adjacent nodes x and y of b."""
    return [(u * b[0] + x, u * b[0] + y) for u in range(a[0]) for x, y in b[1]]


def both_ties(a, b):
    """Return the pairs of (u, x) and (v, y) for adjacent u and v of a and adjacent x and y of b."""
    straight = [(u * b[0] + x, v * b[0] + y) for u, v in a[1] for x, y in b[1]]
    crossed = [(u * b[0] + y, v * b[0] + x) for u, v in a[1] for x, y in b[1]]
    return straight + crossed


def level_ties(a, b):
    """Return the pairs of (u, x) and (v, y) for adjacent u and v of a and all x and y of b."""
    nodes = range(b[0])
    return [(u * b[0] + x, v * b[0] + y) for u, v in a[1] for x in nodes for y in nodes]


def product_of(kind, *webs):
    """Return the product of the webs, from left to right."""
    result = unit(kind)
    for web in webs:
        result = product(kind, result, web)
    return result


def power_of(kind, web, exponent):
    """Return the product of as many equal webs as the exponent says."""
    result = unit(kind)
    if exponent > MAX_NODES:
        raise TooLarge(MAX_NODES)
    for _ in range(exponent):
        result = product(kind, result, web)
    return result
