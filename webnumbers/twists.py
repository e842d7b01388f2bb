"""Twists: rows that turn a web into others with equal products."""

from webnumbers.codes import code_of, web_of_code
from webnumbers.errors import NotTwist, TooLarge
from webnumbers.renamings import inverse_row
from webnumbers.sorts import MAX_SORTED, all_renamings, sort_of
from webnumbers.webs import check_renaming, neighbour_masks, ordered_pairs, web_of_pairs

MAX_TWISTED = 6


def twist_fault(web, row):
    """Return the first pair of nodes that shows that the row is not a twist, or None if it is one."""
    check_renaming(web, row)
    masks = neighbour_masks(web)
    back = inverse_row(row)
    for x in range(web[0]):
        for y in range(web[0]):
            if (masks[x] >> y & 1) != (masks[back[x]] >> row[y] & 1):
                return (x, y)
    return None


def check_twist(web, row):
    """Raise InvalidRow or NotTwist if the row is not a twist."""
    pair = twist_fault(web, row)
    if pair is not None:
        raise NotTwist(pair)


def twisted(web, row):
    """Return the web in which x and row[y] are adjacent for all adjacent nodes x and y."""
    check_twist(web, row)
    return web_of_pairs(web[0], [(x, row[y]) for x, y in ordered_pairs(web)])


def twists(web):
    """Yield all twists of the web in lexicographic order."""
    size = web[0]
    if size > MAX_TWISTED:
        raise TooLarge(MAX_TWISTED)
    for row in all_renamings(size):
        if twist_fault(web, row) is None:
            yield row


def twist_sorts(web):
    """Return the sorts of the twisted webs, each once, with ascending codes."""
    if web[0] > MAX_SORTED:
        raise TooLarge(MAX_SORTED)
    # Many twists give equal webs, and a sort takes longer to find than a twisted web.
    webs = sorted({twisted(web, row) for row in twists(web)})
    codes = sorted({code_of(sort_of(other)) for other in webs})
    return [web_of_code(web[0], code) for code in codes]
