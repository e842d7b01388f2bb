"""Codes: webs as integers."""

from webnumbers.errors import InvalidCode
from webnumbers.webs import check_size, web_of_pairs


def bit_of(first, second):
    """Return the bit of two nodes, which may be equal."""
    high = max(first, second)
    return high * (high + 1) // 2 + min(first, second)


def code_of(web):
    """Return the code of the web."""
    return sum(1 << bit_of(u, v) for u, v in web[1])


def web_of_code(size, code):
    """Return the web with the size and the code."""
    check_size(size)
    if code < 0 or code >> count_bits(size):
        raise InvalidCode(code)
    nodes = range(size)
    return web_of_pairs(size, [(u, v) for v in nodes for u in range(v + 1) if code >> bit_of(u, v) & 1])


def count_bits(size):
    """Return the number of bits that the codes of webs with the size have."""
    return size * (size + 1) // 2
