"""Components, distances and sides."""

from webnumbers.errors import NotConnected
from webnumbers.webs import induced, neighbour_rows


def distances_in(rows, start):
    """Return the distances from the start to all nodes, whose neighbours the rows list."""
    away = [None] * len(rows)
    away[start] = 0
    queue = [start]
    place = 0
    while place < len(queue):
        node = queue[place]
        place += 1
        for other in rows[node]:
            if away[other] is None:
                away[other] = away[node] + 1
                queue.append(other)
    return away


def distances(web, start):
    """Return the distances of all nodes from the start, None where no walk leads."""
    return distances_in(neighbour_rows(web), start)


def components(web):
    """Return the components as ascending lists, in the order of their least nodes."""
    rows = neighbour_rows(web)
    seen = [False] * web[0]
    found = []
    for start in range(web[0]):
        if not seen[start]:
            away = distances_in(rows, start)
            found.append([node for node in range(web[0]) if away[node] is not None])
            for node in found[-1]:
                seen[node] = True
    return found


def pieces(web):
    """Return the webs on the components."""
    return [induced(web, nodes) for nodes in components(web)]


def is_connected(web):
    """Tell whether the web has exactly one component."""
    return len(components(web)) == 1


def check_connected(web):
    """Raise NotConnected if the web does not have exactly one component."""
    many = len(components(web))
    if many != 1:
        raise NotConnected(many)


def sides(web):
    """Return the sides of all nodes, or None if the web has an odd ring."""
    rows = neighbour_rows(web)
    found = [0] * web[0]
    for nodes in components(web):
        away = distances_in(rows, nodes[0])
        for node in nodes:
            found[node] = away[node] % 2
    if any(found[u] == found[v] for u, v in web[1]):
        return None
    return found
