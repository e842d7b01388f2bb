"""Odd rings, and the webs that can be cancelled."""

from webnumbers.pieces import sides
from webnumbers.webs import neighbour_rows


def odd_ring(web):
    """Return the least tuple among the odd rings of the least length, or None."""
    if can_cancel(web):
        return least_ring(neighbour_rows(web))
    return None


def can_cancel(web):
    """Tell whether the web can be cancelled, that is, whether it has an odd ring."""
    return sides(web) is None


def least_ring(rows):
    """Return the least of the shortest odd rings of a web that has one; the rows list its neighbours."""
    # In ends[k][v] the bits of the nodes are set at which walks of length k from v end.
    ends = [[1 << node for node in range(len(rows))]]
    while len(ends) % 2 == 1 or first_return(ends[-1]) is None:
        ends.append([joined_masks(ends[-1], row) for row in rows])
    nodes = [first_return(ends[-1])]
    for left in range(len(ends) - 2, 0, -1):
        nodes.append(min([other for other in rows[nodes[-1]] if ends[left][other] >> nodes[0] & 1]))
    return tuple(nodes)


def first_return(masks):
    """Return the least node whose own bit is set in its mask, or None."""
    for node, mask in enumerate(masks):
        if mask >> node & 1:
            return node
    return None


def joined_masks(masks, nodes):
    """Return the mask of all bits that are set in the masks of the nodes."""
    joined = 0
    for node in nodes:
        joined = joined | masks[node]
    return joined
