"""What sums and products measure, known from their parts."""

from webnumbers.errors import InvalidKind
from webnumbers.products import check_kind
from webnumbers.webs import neighbour_rows


def measure(web):
    """Return the numbers of nodes, of ordered pairs of adjacent nodes, and of loops."""
    loops = sum(1 for u, v in web[1] if u == v)
    return (web[0], 2 * len(web[1]) - loops, loops)


def join_measures(kind, first, second):
    """Return the measure of the sum or the product of two webs with the measures."""
    n, t, first_loops = first
    m, s, second_loops = second
    if kind == "sum":
        return (n + m, t + s, first_loops + second_loops)
    if kind == "box":
        return (n * m, t * m + n * s, 0)
    if kind == "strong":
        return (n * m, (n + t) * (m + s) - n * m, 0)
    if kind == "direct":
        return (n * m, t * s, first_loops * second_loops)
    if kind == "levels":
        return (n * m, t * m * m + n * s, 0)
    raise InvalidKind(kind)


def degree_row(web):
    """Return the list of the degrees of all nodes."""
    return [len(row) for row in neighbour_rows(web)]


def join_degrees(kind, first, second):
    """Return the degrees of the sum or the product of two webs with the degrees."""
    if kind == "sum":
        return [*first, *second]
    check_kind(kind)
    return [joined_degree(kind, d, e, len(second)) for d in first for e in second]


def joined_degree(kind, d, e, second_size):
    """Return the degree of a pair of nodes with the degrees d and e."""
    if kind == "box":
        return d + e
    if kind == "strong":
        return (d + 1) * (e + 1) - 1
    if kind == "direct":
        return d * e
    return d * second_size + e
