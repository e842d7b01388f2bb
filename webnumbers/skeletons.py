"""Skeletons: simple webs whose box factors show the direct factors of a web."""

from webnumbers.webs import neighbour_masks, web_of_pairs


def dispenser(web, first, second):
    """Return the least node that makes the pair of the two different nodes dispensable, or None."""
    return least_dispenser(neighbour_masks(web), first, second)


def least_dispenser(masks, first, second):
    """Return the least dispenser of the two nodes; the masks tell the neighbours of all nodes."""
    x = masks[first]
    y = masks[second]
    for node, z in enumerate(masks):
        if dispenses(z, x, y) and dispenses(z, y, x):
            return node
    return None


def dispenses(z, x, y):
    """Tell whether the one of the two conditions holds that begins with x; the masks are sets of neighbours."""
    if is_proper_part(x & y, x & z):
        return True
    return is_proper_part(x, z) and is_proper_part(z, y)


def is_proper_part(mask, other):
    """Tell whether the bits of the mask are some but not all of the bits of the other one."""
    return mask != other and mask & other == mask


def skeleton(web):
    """Return the web in which nodes with common neighbours and no dispenser are adjacent."""
    masks = neighbour_masks(web)
    pairs = [(u, v) for v in range(web[0]) for u in range(v) if masks[u] & masks[v]]
    return web_of_pairs(web[0], [(u, v) for u, v in pairs if least_dispenser(masks, u, v) is None])
