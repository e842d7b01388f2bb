"""Lots: sets of nodes of which each two different ones are adjacent."""

from webnumbers.errors import TooLarge
from webnumbers.turns import complement
from webnumbers.webs import check_simple, neighbour_masks

MAX_LOTS = 16


def check_lots(web):
    """Raise the error of a web that has a loop or too many nodes."""
    check_simple(web)
    if web[0] > MAX_LOTS:
        raise TooLarge(MAX_LOTS)


def greatest_lots(web):
    """Return the list of all greatest lots in lexicographic order."""
    check_lots(web)
    # Lots are masks here. The empty one is the only greatest lot of no nodes.
    lots = [0]
    for node, mask in enumerate(neighbour_masks(web)):
        lots = lots_with_next(lots, mask, 1 << node)
    return sorted([nodes_in(lot, web[0]) for lot in lots])


def lots_with_next(lots, mask, bit):
    """Return the greatest lots of the nodes so far and of the next one, which has the bit and these neighbours."""
    kept = [lot for lot in lots if lot & mask != lot]
    parts = sorted({lot & mask for lot in lots})
    return kept + [part | bit for part in parts if not is_exceeded(part, parts)]


def is_exceeded(part, parts):
    """Tell whether another one of the parts contains this one."""
    return any(part & other == part and part != other for other in parts)


def nodes_in(lot, size):
    """Return the ascending tuple of the nodes whose bits are set in the lot."""
    return tuple([node for node in range(size) if lot >> node & 1])


def lots_with(web, *nodes, least=0):
    """Yield the greatest lots that contain the nodes and have at least the least number of nodes."""
    for lot in greatest_lots(web):
        if len(lot) >= least and all(node in lot for node in nodes):
            yield lot


def joined_lots(second_size, first, second):
    """Return the lots of the product, each made from one lot of the first web and one of the second web."""
    return sorted({joined_lot(second_size, lot, other) for lot in first for other in second})


def joined_lot(second_size, lot, other):
    """Return the ascending tuple of the pairs of a node of the one lot and a node of the other one."""
    return tuple([u * second_size + x for u in lot for x in other])


def lot_size(web):
    """Return the number of nodes of a largest lot."""
    return max([len(lot) for lot in greatest_lots(web)])


def untied_size(web):
    """Return the number of nodes of a largest set of nodes of which no two are adjacent."""
    check_lots(web)
    return lot_size(complement(web))
