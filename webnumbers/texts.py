"""The texts of webs."""

from webnumbers.errors import InvalidText
from webnumbers.webs import MAX_NODES, neighbour_rows


def write_web(web):
    """Return the text of the web."""
    lines = [f"web {web[0]}"]
    for node, row in enumerate(neighbour_rows(web)):
        words = [str(other) for other in row if other >= node]
        if words:
            lines.append(f"{node}: " + " ".join(words))
    return "\n".join(lines)


def read_web(text):
    """Return the web that has the text."""
    lines = text.split("\n")
    size = size_in(lines[0])
    if size is None:
        raise InvalidText(1)
    edges = []
    latest = -1
    for number, line in enumerate(lines[1:], 2):
        pairs = pairs_in(line)
        if not fits(size, latest, pairs):
            raise InvalidText(number)
        latest = pairs[0][0]
        edges.extend(pairs)
    return (size, tuple(edges))


def size_in(line):
    """Return the number of nodes that the first line tells, or None if the line is wrong."""
    if not line.startswith("web "):
        return None
    size = number_in(line[4:])
    if size is None or size > MAX_NODES:
        return None
    return size


def number_in(word, most=2):
    """Return the number with at most so many digits that the word is, or None."""
    if not (word.isascii() and word.isdigit()) or len(word) > most:
        return None
    if len(word) > 1 and word[0] == "0":
        return None
    return int(word)


def pairs_in(line):
    """Return the pairs of the node and its neighbours that the line lists, none if a part is not a number."""
    # A line without the colon and the space has an empty rest, which is not a number.
    head, _, rest = line.partition(": ")
    node = number_in(head)
    others = [number_in(word) for word in rest.split(" ")]
    if node is None or None in others:
        return []
    return [(node, other) for other in others]


def fits(size, latest, pairs):
    """Tell whether the pairs of a line may follow the line of the latest node."""
    if not pairs or pairs[0][0] <= latest:
        return False
    least = pairs[0][0]
    for _, other in pairs:
        if not least <= other < size:
            return False
        least = other + 1
    return True
