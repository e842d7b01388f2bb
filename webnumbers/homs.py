"""Homs: maps between webs that take adjacent nodes to adjacent nodes."""

from webnumbers.errors import TooLarge
from webnumbers.webs import neighbour_masks, neighbour_rows

MAX_MAPS = 4096


def count_rows(size, length):
    """Return the number of rows with the length whose entries are less than the size."""
    many = 1
    for _ in range(length):
        many = many * size
    return many


def count_maps(x, a):
    """Return the number of maps from x to a."""
    return count_rows(a[0], x[0])


def check_maps(x, a):
    """Raise TooLarge if there are too many maps from x to a."""
    if count_maps(x, a) > MAX_MAPS:
        raise TooLarge(MAX_MAPS)


def is_hom(x, a, row):
    """Tell whether the row is a hom from x to a."""
    if len(row) != x[0]:
        return False
    if not all(0 <= node < a[0] for node in row):
        return False
    masks = neighbour_masks(a)
    return all(masks[row[u]] >> row[v] & 1 for u, v in x[1])


def homs(x, a):
    """Yield all homs from x to a in lexicographic order."""
    check_maps(x, a)
    masks = neighbour_masks(a)
    rows = [()]
    for node, neighbours in enumerate(neighbour_rows(x)):
        earlier = [other for other in neighbours if other <= node]
        rows = [(*row, goal) for row in rows for goal in range(a[0]) if can_go(masks, earlier, row, goal)]
    yield from rows


def can_go(masks, earlier, row, goal):
    """Tell whether the next node may go to the goal, if it is adjacent to the given nodes up to itself."""
    mask = masks[goal]
    longer = (*row, goal)
    return all(mask >> longer[other] & 1 for other in earlier)


def count_homs(x, a):
    """Return the number of homs from x to a."""
    return len(list(homs(x, a)))


def count_one_to_one(x, a):
    """Return the number of homs from x to a whose entries are all different."""
    return len([row for row in homs(x, a) if len(set(row)) == x[0]])
