"""The lines of a desk, each of which tells one change."""

from webnumbers.codes import web_of_code
from webnumbers.errors import InvalidCode
from webnumbers.expressions import is_name
from webnumbers.texts import number_in
from webnumbers.webs import MAX_NODES

# The greatest code of a web, which has 64 nodes, has so many digits.
MAX_CODE_DIGITS = 627


def change_in(line):
    """Return the change that the line tells, a tuple that begins with a word and a name, or None."""
    word, _, rest = line.partition(" ")
    if word == "web":
        return web_change(rest.split(" "))
    if word == "formula":
        return formula_change(rest)
    if word == "equation":
        return equation_change(rest)
    if word == "drop" and is_name(rest):
        return ("drop", rest)
    return None


def web_change(words):
    """Return the change that sets the web, or None if the words are not a name, a size and a code."""
    if len(words) != 3 or not is_name(words[0]):
        return None
    size = number_in(words[1])
    code = number_in(words[2], MAX_CODE_DIGITS)
    if size is None or code is None or size > MAX_NODES:
        return None
    try:
        return ("web", words[0], web_of_code(size, code))
    except InvalidCode:
        return None


def formula_change(rest):
    """Return the change that sets the formula, or None if what stands behind the first word has a wrong form."""
    name, mark, text = rest.partition(": ")
    if not mark or not is_name(name):
        return None
    return ("formula", name, text)


def equation_change(rest):
    """Return the change that sets the equation, or None if what stands behind the first word has a wrong form."""
    name, mark, texts = rest.partition(": ")
    left, sign, right = texts.partition(" = ")
    if not mark or not sign or not is_name(name):
        return None
    return ("equation", name, left, right)
