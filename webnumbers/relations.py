"""Related edges of simple connected webs, the way to the factors of box products."""

from webnumbers.pieces import check_connected, distances_in
from webnumbers.webs import check_simple, neighbour_masks, neighbour_rows


def distance_rows(web):
    """Return the table of the distances of all nodes."""
    check_simple(web)
    check_connected(web)
    rows = neighbour_rows(web)
    return [distances_in(rows, node) for node in range(web[0])]


def relation(web, first, second):
    """Return "distance" or "square" if the edges at the two places are so related, otherwise None."""
    table = distance_rows(web)
    leans = leaning(table, web[1][first])
    x, y = web[1][second]
    if leans[x] != leans[y]:
        return "distance"
    if makes_square(neighbour_masks(web), web[1][first], web[1][second]):
        return "square"
    return None


def leaning(table, edge):
    """Return for each node how much further it is from the one end of the edge than from the other.

    So another edge is related to this one by distance exactly if its ends have different entries.
    """
    return [near - far for near, far in zip(table[edge[0]], table[edge[1]])]


def makes_square(masks, edge, other):
    """Tell whether the edges have one common node, and no other node is adjacent to both of their other nodes."""
    shared = [node for node in edge if node in other]
    if len(shared) != 1:
        return False
    node = shared[0]
    return masks[sum(edge) - node] & masks[sum(other) - node] == 1 << node


def edge_facts(web):
    """Return what is needed to compare many edges: the edges, the table of distances and the masks of neighbours."""
    return (web[1], distance_rows(web), neighbour_masks(web))


def split_places(facts, place, others):
    """Return those of the other places whose edges are related to the edge at the place, and the rest of them."""
    edges, table, masks = facts
    leans = leaning(table, edges[place])
    related = []
    rest = []
    for other in others:
        x, y = edges[other]
        if leans[x] != leans[y] or makes_square(masks, edges[place], edges[other]):
            related.append(other)
        else:
            rest.append(other)
    return (related, rest)


def next_layer(facts, layer, left):
    """Return the places among those left that are related to one of the layer, ascending, and the rest of them."""
    found = []
    for place in layer:
        related, left = split_places(facts, place, left)
        found.extend(related)
    return (sorted(found), left)


def chain(web, first, second):
    """Return the least of the shortest chains between the edges at the two places, or None."""
    facts = edge_facts(web)
    layers = [[second]]
    left = [place for place in range(len(web[1])) if place != second]
    while first not in layers[-1]:
        layer, left = next_layer(facts, layers[-1], left)
        if not layer:
            return None
        layers.append(layer)
    places = [first]
    # The layers hold the places by the lengths of their shortest chains to the second one.
    for layer in layers[-2::-1]:
        related, _ = split_places(facts, places[-1], layer)
        places.append(related[0])
    return tuple(places)
