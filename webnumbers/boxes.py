"""The prime factors of box products."""

from webnumbers.classes import edge_classes
from webnumbers.pieces import distances
from webnumbers.webs import induced


def count_classes(numbers):
    """Return the number of classes that the edges have."""
    return len(set(numbers))


def web_of_classes(web, numbers, classes):
    """Return the web without the edges of other classes; the numbers are the classes of its edges."""
    chosen = {number: True for number in classes}
    return (web[0], tuple([edge for edge, number in zip(web[1], numbers) if number in chosen]))


def nodes_joined(web, start):
    """Return the ascending list of the nodes that are joined to the start by walks."""
    return [node for node, length in enumerate(distances(web, start)) if length is not None]


def box_layer(web, *classes, start=0):
    """Return the layer of the classes through the start."""
    return nodes_joined(web_of_classes(web, edge_classes(web), classes), start)


def box_layers(web):
    """Return the layers of the single classes through node 0."""
    numbers = edge_classes(web)
    return [nodes_joined(web_of_classes(web, numbers, [k]), 0) for k in range(count_classes(numbers))]


def box_coordinates(web):
    """Return the tuples of the coordinates of all nodes."""
    numbers = edge_classes(web)
    columns = [coordinate_column(web, numbers, k) for k in range(count_classes(numbers))]
    return [tuple([column[node] for column in columns]) for node in range(web[0])]


def coordinate_column(web, numbers, chosen):
    """Return the coordinates of all nodes for the chosen class."""
    others = [number for number in range(count_classes(numbers)) if number != chosen]
    crossing = web_of_classes(web, numbers, others)
    column = [0] * web[0]
    # The layers of the other classes through the nodes of this layer contain each node of the web once.
    for place, start in enumerate(nodes_joined(web_of_classes(web, numbers, [chosen]), 0)):
        for node in nodes_joined(crossing, start):
            column[node] = place
    return column


def box_factors(web):
    """Return the prime factors of the web."""
    return [induced(web, layer) for layer in box_layers(web)]


def is_box_prime(web):
    """Tell whether the web has exactly one prime factor."""
    return count_classes(edge_classes(web)) == 1
