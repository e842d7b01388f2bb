"""Partings: divisions of nodes into classes."""

from webnumbers.errors import TooLarge
from webnumbers.webs import image

MAX_PARTED = 6


def partings(size):
    """Yield all partings of the nodes in lexicographic order."""
    if size > MAX_PARTED:
        raise TooLarge(MAX_PARTED)
    rows = [()]
    for _ in range(size):
        rows = [(*row, number) for row in rows for number in range(max(row, default=-1) + 2)]
    yield from rows


def parting_sign(row):
    """Return the product of (-1) ** (k - 1) * (k - 1)! over the numbers k of places of all classes."""
    counts = {}
    sign = 1
    for entry in row:
        many = counts.get(entry, 0)
        # The next place of a class with k places changes its factor by -k.
        if many:
            sign = sign * -many
        counts[entry] = many + 1
    return sign


def gathered(x, row):
    """Return the web in which each class of the row is one node."""
    return image(x, row, len(set(row)))
