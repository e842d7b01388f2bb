"""One-to-one homs counted by homs, and homs counted by one-to-one homs."""

from webnumbers.errors import TooLarge
from webnumbers.homs import check_maps, count_homs, count_one_to_one
from webnumbers.partings import MAX_PARTED, gathered, parting_sign, partings


def check_counted(x, a):
    """Raise TooLarge if x has too many partings or too many maps to a."""
    if x[0] > MAX_PARTED:
        raise TooLarge(MAX_PARTED)
    check_maps(x, a)


def one_to_one_by_homs(x, a):
    """Return the number of one-to-one homs from x to a, found from the homs of the gathered webs."""
    check_counted(x, a)
    size = x[0]
    return sum([parting_sign(row) * count_homs(gathered(x, row), a) for row in partings(size)])


def homs_by_one_to_one(x, a):
    """Return the number of homs from x to a, found from the one-to-one homs of the gathered webs."""
    check_counted(x, a)
    size = x[0]
    return sum([count_one_to_one(gathered(x, row), a) for row in partings(size)])
