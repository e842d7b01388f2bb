"""The catalogue of all small webs, one of each sort."""

from webnumbers.codes import bit_of, count_bits, web_of_code
from webnumbers.errors import TooLarge
from webnumbers.sorts import sort_of

MAX_SIMPLE = 4
MAX_LOOPED = 3


def check_catalogued(size, loops):
    """Raise TooLarge if there are too many webs with the size."""
    limit = MAX_LOOPED if loops else MAX_SIMPLE
    if size > limit:
        raise TooLarge(limit)


def all_webs(size, *, loops=False):
    """Yield the webs with the size that are equal to their own sorts, in ascending order of their codes."""
    check_catalogued(size, loops)
    loop_bits = sum(1 << bit_of(node, node) for node in range(size))
    for code in range(1 << count_bits(size)):
        if loops or not code & loop_bits:
            web = web_of_code(size, code)
            if sort_of(web) == web:
                yield web


def catalogue(limit, *, loops=False):
    """Return the list of all such webs with 0 nodes up to the limit."""
    check_catalogued(limit, loops)
    return [web for size in range(limit + 1) for web in all_webs(size, loops=loops)]
