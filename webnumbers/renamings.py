"""Renamings between webs."""

from webnumbers.errors import TooLarge
from webnumbers.webs import neighbour_masks, neighbour_rows, renamed

MAX_RENAMED = 9


def is_renaming(a, b, row):
    """Tell whether the row renames a into b."""
    if sorted(row) != list(range(a[0])):
        return False
    return renamed(a, row) == b


def find_renaming(a, b):
    """Return the least row that renames a into b, or None."""
    if a[0] != b[0]:
        return None
    if a[0] > MAX_RENAMED:
        raise TooLarge(MAX_RENAMED)
    marks = node_marks(a)
    targets = node_marks(b)
    if sorted(marks) != sorted(targets):
        return None
    choices = [[node for node in range(b[0]) if targets[node] == mark] for mark in marks]
    return least_row(choices, neighbour_masks(a), neighbour_masks(b), ())


def node_marks(web):
    """Return one mark for each node; renamings keep the marks.

    Without the marks, long beginnings of rows would survive in webs with few edges.
    """
    rows = neighbour_rows(web)
    degrees = [len(row) for row in rows]
    return [(node in row, sorted([degrees[other] for other in row])) for node, row in enumerate(rows)]


def least_row(choices, masks, targets, row):
    """Return the least renaming that begins with the row and takes each node to one of its choices, or None."""
    if len(row) == len(choices):
        return row
    for node in choices[len(row)]:
        if node not in row and can_follow(masks, targets, row, node):
            found = least_row(choices, masks, targets, (*row, node))
            if found is not None:
                return found
    return None


def can_follow(masks, targets, row, node):
    """Tell whether the next entry of the row may be the node, as far as the earlier entries tell."""
    mask = masks[len(row)]
    target = targets[node]
    return all((mask >> place & 1) == (target >> earlier & 1) for place, earlier in enumerate(row))


def inverse_row(row):
    """Return the row that undoes the renaming."""
    entries = [0] * len(row)
    for place, node in enumerate(row):
        entries[node] = place
    return tuple(entries)
