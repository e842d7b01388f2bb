"""Levels splits: webs as levels products of two smaller webs."""

from webnumbers.catalogue import all_webs
from webnumbers.errors import TooLarge
from webnumbers.products import product
from webnumbers.renamings import MAX_RENAMED
from webnumbers.roots import is_same_sort
from webnumbers.webs import check_simple


def levels_splits(web):
    """Return the list of the pairs of sorts whose levels product is of the same sort as the web."""
    check_simple(web)
    if web[0] > MAX_RENAMED:
        raise TooLarge(MAX_RENAMED)
    found = []
    for size in range(2, web[0] // 2 + 1):
        if web[0] % size == 0:
            found.extend(splits_with(web, size, web[0] // size))
    return found


def splits_with(web, size, other):
    """Return the levels splits whose two webs have the sizes; their product is the number of nodes."""
    # The sizes are at most 4, so the catalogue holds all webs that are needed.
    seconds = list(all_webs(other))
    pairs = [(a, b) for a in all_webs(size) for b in seconds]
    return [(a, b) for a, b in pairs if is_levels_product(web, a, b)]


def is_levels_product(web, a, b):
    """Tell whether the levels product of a and b is of the same sort as the web."""
    together = product("levels", a, b)
    return len(together[1]) == len(web[1]) and is_same_sort(together, web)
