"""Classes of edges that are joined by chains."""

from webnumbers.relations import edge_facts, next_layer


def edge_classes(web):
    """Return the list of the classes of all edges."""
    facts = edge_facts(web)
    numbers = [0] * len(web[1])
    left = list(range(len(web[1])))
    number = 0
    while left:
        layer = [left[0]]
        left = left[1:]
        while layer:
            for place in layer:
                numbers[place] = number
            layer, left = next_layer(facts, layer, left)
        number += 1
    return numbers
