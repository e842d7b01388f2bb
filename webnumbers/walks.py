"""Numbers of closed walks."""

from math import comb

from webnumbers.errors import InvalidKind, TooLarge
from webnumbers.webs import neighbour_rows

MAX_WALK = 12


def walk_row(web, length):
    """Return the numbers of the closed walks of the lengths from 0 to the given one."""
    if length > MAX_WALK:
        raise TooLarge(MAX_WALK)
    rows = neighbour_rows(web)
    counts = [0] * (length + 1)
    for start in range(web[0]):
        # The entry at a node is the number of walks from the start to the node.
        walks = [0] * web[0]
        walks[start] = 1
        for steps_done in range(length + 1):
            counts[steps_done] += walks[start]
            walks = [sum([walks[other] for other in row]) for row in rows]
    return counts


def join_walks(kind, first, second):
    """Return the numbers of closed walks of the sum or the product of two webs with these numbers."""
    if kind == "sum":
        return [many + other for many, other in zip(first, second)]
    if kind == "direct":
        return [many * other for many, other in zip(first, second)]
    if kind == "box":
        return box_walks(first, second)
    if kind == "strong":
        return strong_walks(first, second)
    raise InvalidKind(kind)


def box_walks(first, second):
    """Return the numbers for the box product: a walk mixes the steps of two walks."""
    return [mixed_sum(k, first, second) for k in range(len(first))]


def mixed_sum(k, first, second):
    """Return the sum of C(k, j) * first[j] * second[k - j] for j from 0 to k."""
    return sum([comb(k, j) * first[j] * second[k - j] for j in range(k + 1)])


def strong_walks(first, second):
    """Return the numbers for the strong product.

    A step of it moves or stays in each factor, but does not stay in both.
    """
    both = [many * other for many, other in zip(with_stays(first), with_stays(second))]
    return [alternating_sum(k, both) for k in range(len(first))]


def alternating_sum(k, counts):
    """Return the sum of C(k, j) * counts[j] for j from k down to 0, in which every second summand is subtracted."""
    added = sum([comb(k, j) * counts[j] for j in range(k, -1, -2)])
    subtracted = sum([comb(k, j) * counts[j] for j in range(k - 1, -1, -2)])
    return added - subtracted


def with_stays(counts):
    """Return the numbers of closed walks that may also stay at a node in each step."""
    return [sum([comb(j, i) * counts[i] for i in range(j + 1)]) for j in range(len(counts))]
