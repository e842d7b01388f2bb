"""Roots and quotients of direct products."""

from webnumbers.catalogue import MAX_LOOPED, all_webs
from webnumbers.errors import NoBound, NoRoot, TooLarge
from webnumbers.homs import count_rows
from webnumbers.products import power_of, product
from webnumbers.renamings import MAX_RENAMED, find_renaming

# From this degree on, two nodes have powers with more nodes than a web may have here,
# and webs with less than two nodes are their own powers. So all these degrees have the same answers.
GREAT_DEGREE = 4


def direct_root(web, degree):
    """Return the sort whose power with the degree is of the same sort as the web."""
    check_divided(web)
    exponent = min(degree, GREAT_DEGREE)
    sizes = [size for size in range(web[0] + 1) if count_rows(size, exponent) == web[0]]
    if not sizes:
        raise NoRoot(degree)
    size = sizes[0]
    check_found(size)
    for base in all_webs(size, loops=True):
        if is_same_sort(power_of("direct", base, exponent), web):
            return base
    raise NoRoot(degree)


def direct_quotients(web, factor):
    """Return the sorts whose product with the factor is of the same sort as the web."""
    if factor[0] == 0:
        if web[0] == 0:
            raise NoBound()
        return []
    check_divided(web)
    if web[0] % factor[0]:
        return []
    size = web[0] // factor[0]
    check_found(size)
    return [base for base in all_webs(size, loops=True) if is_same_sort(product("direct", base, factor), web)]


def is_same_sort(a, b):
    """Tell whether the two webs are of the same sort."""
    return find_renaming(a, b) is not None


def check_divided(web):
    """Raise TooLarge if the web is too large for a search through products."""
    if web[0] > MAX_RENAMED:
        raise TooLarge(MAX_RENAMED)


def check_found(size):
    """Raise TooLarge if there are too many webs with the size to go through."""
    if size > MAX_LOOPED:
        raise TooLarge(MAX_LOOPED)
