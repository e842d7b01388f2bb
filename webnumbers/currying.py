"""Maps from a product as maps to a power, and maps to a product as pairs of maps."""

from webnumbers.homs import count_rows
from webnumbers.powers import map_number, map_row
from webnumbers.webs import check_size


def curried(x_size, a_size, b_size, row):
    """Return the numbers of the maps from a to b that a map from the product of x and a to b consists of."""
    return tuple([map_number(b_size, row[k * a_size:(k + 1) * a_size]) for k in range(x_size)])


def uncurried(x_size, a_size, b_size, row):
    """Return the map from the product of x and a to b that consists of the maps with the numbers."""
    return tuple([entry for k in range(x_size) for entry in map_row(b_size, a_size, row[k])])


def parted_row(b_size, c_size, a_size):
    """Return the row that renames the power of the product of b and c into the product of their powers by a."""
    many = count_rows(b_size * c_size, a_size)
    check_size(many)
    second_many = count_rows(c_size, a_size)
    row = []
    for number in range(many):
        entries = map_row(b_size * c_size, a_size, number)
        first = map_number(b_size, [entry // c_size for entry in entries])
        second = map_number(c_size, [entry % c_size for entry in entries])
        row.append(first * second_many + second)
    return tuple(row)
