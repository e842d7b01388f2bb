"""Webs of maps: webs raised to the power of other webs."""

from webnumbers.homs import count_maps
from webnumbers.webs import check_size, neighbour_masks, ordered_pairs, web_of_pairs


def map_number(base_size, row):
    """Return the number whose digits to the base are the entries of the row."""
    number = 0
    for entry in row:
        number = number * base_size + entry
    return number


def map_row(base_size, length, number):
    """Return the row with the length that has the number."""
    entries = []
    for _ in range(length):
        entries.append(number % base_size)
        number = number // base_size
    return tuple(entries[::-1])


def power(base, exponent):
    """Return the web of all maps from the exponent to the base."""
    many = count_maps(exponent, base)
    check_size(many)
    rows = [map_row(base[0], exponent[0], number) for number in range(many)]
    masks = neighbour_masks(base)
    ties = ordered_pairs(exponent)
    pairs = [(f, g) for g in range(many) for f in range(g + 1) if maps_adjacent(masks, ties, rows[f], rows[g])]
    return web_of_pairs(many, pairs)


def maps_adjacent(masks, ties, first, second):
    """Tell whether the first map's u and the second map's v are adjacent for all adjacent u and v."""
    return all(masks[first[u]] >> second[v] & 1 for u, v in ties)
