"""Which webs have equal direct products with a web."""

from webnumbers.catalogue import all_webs
from webnumbers.errors import HasOddRing, NoBound
from webnumbers.pieces import sides
from webnumbers.rings import can_cancel, odd_ring
from webnumbers.sorts import sort_of
from webnumbers.twists import check_twist, twist_sorts
from webnumbers.webs import EDGE, check_size, neighbour_masks, neighbour_rows

TWO_LOOPS = (2, ((0, 0), (1, 1)))


def check_sides(web):
    """Raise HasOddRing if the web has an odd ring."""
    if can_cancel(web):
        raise HasOddRing(odd_ring(web))


def telling_pair(web):
    """Return two webs of different sorts and the row that renames the one's product with the web into the other's."""
    check_sides(web)
    size = web[0]
    check_size(2 * size)
    side_row = sides(web)
    row = [(k + side_row[node]) % 2 * size + node for k in range(2) for node in range(size)]
    return (TWO_LOOPS, EDGE, tuple(row))


def twist_row(a, row, c):
    """Return the row that renames the product of a and c into the product of the twisted a and c."""
    check_sides(c)
    check_twist(a, row)
    size = c[0]
    check_size(a[0] * size)
    side_row = sides(c)
    return tuple([(row[x] if side_row[y] else x) * size + y for x in range(a[0]) for y in range(size)])


def answers(a, c):
    """Return the sorts of all webs whose product with c is of the same sort as the product of a and c."""
    size = a[0]
    if c[0] == 0:
        raise NoBound()
    if not c[1]:
        return list(all_webs(size, loops=True))
    if can_cancel(c):
        return [sort_of(a)]
    return twist_sorts(a)


def layers_agree(a, b, rows):
    """Tell whether each row and the next one, the first one after the last, take adjacency in a to adjacency in b."""
    if not rows or a[0] != b[0]:
        return False
    nodes = list(range(a[0]))
    if not all(sorted(row) == nodes for row in rows):
        return False
    neighbours = neighbour_rows(a)
    masks = neighbour_masks(b)
    following = [*rows[1:], rows[0]]
    return all([rows_agree(neighbours, masks, row, after) for row, after in zip(rows, following)])


def rows_agree(neighbours, masks, row, after):
    """Tell whether x and y are adjacent in a exactly if row[x] and after[y] are adjacent in b."""
    for node, others in enumerate(neighbours):
        if masks[row[node]] != sum([1 << after[other] for other in others]):
            return False
    return True
