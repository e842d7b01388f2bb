"""Groups of classes of the skeleton that belong to the same direct factor."""

from webnumbers.boxes import box_coordinates
from webnumbers.errors import NoOddRing
from webnumbers.pieces import check_connected, sides
from webnumbers.skeletons import skeleton
from webnumbers.twins import thin
from webnumbers.webs import ordered_pairs


def check_odd(web):
    """Raise the error of a web that is not connected or has no odd ring."""
    check_connected(web)
    if sides(web) is not None:
        raise NoOddRing(0)


def good_sets(web):
    """Yield the good sets of classes as ascending tuples, in the order of their binary numbers."""
    check_odd(web)
    thinned, sizes = thin(web)
    coordinates = box_coordinates(skeleton(thinned))
    pairs = ordered_pairs(thinned)
    many = len(coordinates[0])
    for number in range(1 << many):
        chosen = tuple([k for k in range(many) if number >> k & 1])
        others = tuple([k for k in range(many) if not number >> k & 1])
        if is_good(pairs, sizes, mixed_row(coordinates, chosen), mixed_row(coordinates, others)):
            yield chosen


def mixed_row(coordinates, chosen):
    """Return mix(I, v, 0) for all nodes v, where I is the set of the chosen classes."""
    nodes = {entries: node for node, entries in enumerate(coordinates)}
    return [nodes[mixed(chosen, entries, coordinates[0])] for entries in coordinates]


def mixed(chosen, first, second):
    """Return the coordinates that are the first ones for the chosen classes and the second ones for all others."""
    return tuple([first[k] if k in chosen else second[k] for k in range(len(first))])


def is_good(pairs, sizes, firsts, seconds):
    """Tell whether a set I is good, where firsts are the nodes mix(I, v, 0) and seconds the nodes mix(I, 0, v).

    The nodes in firsts stand for the coordinates in I, and those in seconds for the other coordinates.
    """
    first_many = len({(firsts[v], firsts[w]) for v, w in pairs})
    second_many = len({(seconds[v], seconds[w]) for v, w in pairs})
    if first_many * second_many != len(pairs):
        return False
    return all(size * sizes[0] == sizes[firsts[v]] * sizes[seconds[v]] for v, size in enumerate(sizes))


def direct_groups(web):
    """Return the groups as ascending lists, in the order of their least classes."""
    found = [chosen for chosen in good_sets(web) if chosen]
    return sorted([list(chosen) for chosen in found if not holds_smaller(chosen, found)])


def holds_smaller(chosen, found):
    """Tell whether another one of the found sets is contained in the chosen one."""
    for other in found:
        if other != chosen and all(k in chosen for k in other):
            return True
    return False
