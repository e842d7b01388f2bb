"""Cores: the fewest nodes to which a web can be folded."""

from webnumbers.errors import TooLarge
from webnumbers.homs import homs
from webnumbers.webs import induced

MAX_FOLDED = 5


def core_nodes(web):
    """Return the ascending row of the core nodes."""
    if web[0] > MAX_FOLDED:
        raise TooLarge(MAX_FOLDED)
    # A hom to the fewest nodes uses all of them: otherwise those that it uses would be fewer.
    used = [tuple(sorted(set(row))) for row in homs(web, web)]
    return min([(len(nodes), nodes) for nodes in used])[1]


def core(web):
    """Return the web on the core nodes."""
    return induced(web, core_nodes(web))


def fold_row(web):
    """Return the least hom from the web to itself whose entries are all core nodes."""
    nodes = core_nodes(web)
    return min([row for row in homs(web, web) if is_inside(row, nodes)])


def is_inside(row, nodes):
    """Tell whether all entries of the row are among the nodes."""
    return all(entry in nodes for entry in row)
