"""What the numbers of homs tell about a web."""

from webnumbers.catalogue import catalogue, check_catalogued
from webnumbers.homs import check_maps, count_homs
from webnumbers.webs import first_loop


def hom_profile(a, limit, *, loops=False):
    """Return the list of the numbers of homs into a from all webs of the catalogue."""
    check_catalogued(limit, loops)
    # No web of the catalogue has more maps to a than those with the most nodes.
    check_maps((limit, ()), a)
    return [count_homs(x, a) for x in catalogue(limit, loops=loops)]


def telling_web(a, b):
    """Return the first web with unlike numbers of homs into a and b, and the numbers; None if there is none."""
    loops = first_loop(a) is not None or first_loop(b) is not None
    # The limits of the catalogue are those of this function.
    for x in catalogue(max(a[0], b[0]), loops=loops):
        first = count_homs(x, a)
        second = count_homs(x, b)
        if first != second:
            return (x, first, second)
    # Webs of different sorts never come here: some web of the catalogue tells them apart.
    return None
