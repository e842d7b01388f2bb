"""Webs: finite graphs, written as a size and the ascending pairs of adjacent nodes."""

from webnumbers.errors import HasLoops, InvalidRow, InvalidWeb, TooLarge

MAX_NODES = 64
EMPTY = (0, ())
ONE = (1, ())
LOOP = (1, ((0, 0),))
EDGE = (2, ((0, 1),))


def check_size(size):
    """Raise TooLarge if no web may have so many nodes."""
    if size > MAX_NODES:
        raise TooLarge(MAX_NODES)


def web_of_pairs(size, pairs):
    """Return the web with the pairs, which are known to consist of nodes."""
    return (size, tuple(sorted({(min(u, v), max(u, v)) for u, v in pairs})))


def make_web(size, pairs):
    """Return the web with the size and the pairs, given in any order and any number of times."""
    check_size(size)
    if size < 0:
        raise InvalidWeb(-1)
    for place, (first, second) in enumerate(pairs):
        if not (0 <= first < size and 0 <= second < size):
            raise InvalidWeb(place)
    return web_of_pairs(size, pairs)


def adjacent(web, first, second):
    """Tell whether an edge or a loop joins the two nodes."""
    return (min(first, second), max(first, second)) in web[1]


def neighbour_rows(web):
    """Return the ascending lists of the neighbours of all nodes."""
    rows = [[] for node in range(web[0])]
    # The edges ascend, so each list receives its lesser neighbours first.
    for first, second in web[1]:
        rows[first].append(second)
        if first != second:
            rows[second].append(first)
    return rows


def neighbour_masks(web):
    """Return one integer for each node, in which the bits of its neighbours are set."""
    return [sum(1 << other for other in row) for row in neighbour_rows(web)]


def ordered_pairs(web):
    """Return the ascending list of the ordered pairs of adjacent nodes; a loop gives one pair."""
    return [(node, other) for node, row in enumerate(neighbour_rows(web)) for other in row]


def first_loop(web):
    """Return the least node with a loop, or None."""
    for first, second in web[1]:
        if first == second:
            return first
    return None


def check_simple(web):
    """Raise HasLoops if the web is not simple."""
    node = first_loop(web)
    if node is not None:
        raise HasLoops(node)


def image(web, row, size):
    """Return the image of the web under the row, with the given number of nodes."""
    check_size(size)
    check_length(web, row)
    for place, node in enumerate(row):
        if not 0 <= node < size:
            raise InvalidRow(place)
    return web_of_pairs(size, [(row[u], row[v]) for u, v in web[1]])


def check_length(web, row):
    """Raise InvalidRow if the row does not have one entry for each node."""
    if len(row) != web[0]:
        raise InvalidRow(-1)


def check_different_nodes(web, row):
    """Raise InvalidRow for the first entry that is not a node or that occurs earlier."""
    seen = set()
    for place, node in enumerate(row):
        if not 0 <= node < web[0] or node in seen:
            raise InvalidRow(place)
        seen.add(node)


def check_renaming(web, row):
    """Raise InvalidRow if the row does not contain each node exactly once and nothing else."""
    check_length(web, row)
    check_different_nodes(web, row)


def renamed(web, row):
    """Return the web in which each node v has received the number row[v]."""
    check_renaming(web, row)
    return image(web, row, web[0])


def induced(web, nodes):
    """Return the web on the nodes, numbered by their places in the row."""
    check_different_nodes(web, nodes)
    places = {node: place for place, node in enumerate(nodes)}
    kept = [(u, v) for u, v in web[1] if u in places and v in places]
    return web_of_pairs(len(nodes), [(places[u], places[v]) for u, v in kept])
