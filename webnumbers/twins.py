"""Twins: nodes with the same neighbours."""

from webnumbers.webs import check_size, image, neighbour_masks, web_of_pairs


def twin_classes(web):
    """Return the twin classes as ascending lists, in the order of their least nodes."""
    found = {}
    for node, mask in enumerate(neighbour_masks(web)):
        found.setdefault(mask, []).append(node)
    return list(found.values())


def thin(web):
    """Return the web of the twin classes and the row of their sizes."""
    groups = twin_classes(web)
    places = [0] * web[0]
    for place, group in enumerate(groups):
        for node in group:
            places[node] = place
    return (image(web, places, len(groups)), tuple([len(group) for group in groups]))


def blown_up(web, sizes):
    """Return the web in which each node k is replaced by sizes[k] twins."""
    total = sum(sizes)
    check_size(total)
    groups = []
    start = 0
    for size in sizes:
        groups.append(list(range(start, start + size)))
        start = start + size
    return web_of_pairs(total, [(x, y) for u, v in web[1] for x in groups[u] for y in groups[v]])
