"""Sorts: the webs with the least codes among their renamed webs."""

from webnumbers.codes import bit_of, code_of
from webnumbers.errors import TooLarge
from webnumbers.webs import renamed

MAX_SORTED = 5
MAX_ALL_RENAMED = 6


def all_renamings(size):
    """Yield all renamings of a web with the size, in lexicographic order."""
    if size > MAX_ALL_RENAMED:
        raise TooLarge(MAX_ALL_RENAMED)
    rows = [()]
    for _ in range(size):
        rows = [(*row, node) for row in rows for node in range(size) if node not in row]
    yield from rows


def renamed_code(web, row):
    """Return the code of the renamed web."""
    return sum(1 << bit_of(row[u], row[v]) for u, v in web[1])


def sort_row(web):
    """Return the least row that renames the web into its sort."""
    if web[0] > MAX_SORTED:
        raise TooLarge(MAX_SORTED)
    size = web[0]
    least_row = tuple(range(size))
    least_code = code_of(web)
    # The rows ascend, so the first row with the least code is kept.
    for row in all_renamings(size):
        code = renamed_code(web, row)
        if code < least_code:
            least_row = row
            least_code = code
    return least_row


def sort_of(web):
    """Return the web with the least code among the renamed webs."""
    return renamed(web, sort_row(web))


def count_symmetries(web):
    """Return the number of rows that rename the web into itself."""
    if web[0] > MAX_ALL_RENAMED:
        raise TooLarge(MAX_ALL_RENAMED)
    size = web[0]
    code = code_of(web)
    return len([row for row in all_renamings(size) if renamed_code(web, row) == code])
