"""Ranks: webs that lead to each other."""

from webnumbers.homs import check_maps, homs


def first_hom(x, a):
    """Return the least hom from x to a, or None."""
    rows = list(homs(x, a))
    if rows:
        return rows[0]
    return None


def leads(x, a):
    """Tell whether there is a hom from x to a."""
    return first_hom(x, a) is not None


def same_rank(a, b):
    """Tell whether each of the two webs leads to the other one."""
    check_maps(a, b)
    check_maps(b, a)
    return leads(a, b) and leads(b, a)
