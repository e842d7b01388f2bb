"""Expressions: texts of sums, products and powers, and their trees."""

from webnumbers.errors import InvalidExpression, TooLarge

MAX_TEXT = 400
MAX_OPEN = 20
MAX_NUMBER = 30
MAX_NAME = 12
DIGITS = "0123456789"
LETTERS = "ABCDEFGHIJKLMNOPQRSTUVWXYZabcdefghijklmnopqrstuvwxyz"
SIGNS = "+*^()"
# What may follow: for the place in an expression and the next token, the place behind this token.
FOLLOWING = {
    ("start", "number"): "atom",
    ("start", "name"): "atom",
    ("start", "("): "start",
    ("atom", "^"): "caret",
    ("atom", "+"): "start",
    ("atom", "*"): "start",
    ("atom", ")"): "atom",
    ("caret", "number"): "power",
    ("power", "+"): "start",
    ("power", "*"): "start",
    ("power", ")"): "atom",
}


def is_name(text):
    """Tell whether the text is a name."""
    if not 1 <= len(text) <= MAX_NAME or text[0] not in LETTERS:
        return False
    return all(character in LETTERS or character in DIGITS for character in text)


def is_right_number(text):
    """Tell whether the digits are a number that is not too long and has no leading zeros."""
    return len(text) <= MAX_NUMBER and (len(text) == 1 or text[0] != "0")


def run_end(text, start, characters):
    """Return the position behind the longest sequence of the characters that begins at the start."""
    end = start
    while end < len(text) and text[end] in characters:
        end += 1
    return end


def tokens_in(text):
    """Return the list of the tokens, right or wrong, with their positions."""
    found = []
    place = 0
    while place < len(text):
        end = place + 1
        if text[place] in DIGITS:
            end = run_end(text, place, DIGITS)
        elif text[place] in LETTERS:
            end = run_end(text, place, LETTERS + DIGITS)
        if text[place] != " ":
            found.append((place, text[place:end]))
        place = end
    return found


def token_kind(token):
    """Return "number", "name", the token itself if it is a sign, or None if it is wrong."""
    if token[0] in DIGITS:
        return "number" if is_right_number(token) else None
    if token[0] in LETTERS:
        return "name" if is_name(token) else None
    return token if token in SIGNS else None


def check_brackets(text):
    """Raise TooLarge if too many brackets are open at the same time."""
    opened = 0
    for character in text:
        if character == "(":
            opened += 1
        elif character == ")":
            opened -= 1
        if opened > MAX_OPEN:
            raise TooLarge(MAX_OPEN)


def checked_words(text):
    """Return the list of the tokens of an expression. Raise InvalidExpression for another text."""
    place = "start"
    opened = 0
    words = []
    for position, word in tokens_in(text):
        place = FOLLOWING.get((place, token_kind(word)))
        if place is None or (word == ")" and opened == 0):
            raise InvalidExpression(position)
        if word == "(":
            opened += 1
        elif word == ")":
            opened -= 1
        words.append(word)
    if opened > 0 or place not in ("atom", "power"):
        raise InvalidExpression(len(text))
    return words


def parse(text):
    """Return the tree of the expression."""
    if len(text) > MAX_TEXT:
        raise TooLarge(MAX_TEXT)
    check_brackets(text)
    # The bracket at the end stands for the end of the text.
    tree, _ = sum_at([*checked_words(text), ")"], 0)
    return tree


def sum_at(words, place):
    """Return the tree of the sum that begins at the place, and the place of the bracket behind it."""
    products = [[]]
    while True:
        tree, place = power_at(words, place)
        products[-1].append(tree)
        if words[place] == ")":
            return (series("sum", [series("product", powers) for powers in products]), place)
        if words[place] == "+":
            products.append([])
        place += 1


def power_at(words, place):
    """Return the tree of the power that begins at the place, and the place behind it."""
    word = words[place]
    if word == "(":
        tree, place = sum_at(words, place + 1)
    else:
        tree = ("number", int(word)) if word[0] in DIGITS else ("name", word)
    if words[place + 1] == "^":
        return (("power", tree, int(words[place + 2])), place + 3)
    return (tree, place + 1)


def series(word, items):
    """Return the tree of the items, which is the item itself if there is only one."""
    if len(items) == 1:
        return items[0]
    return (word, tuple(items))


def write_tree(tree):
    """Return the text of the tree."""
    if tree[0] == "power":
        base = written_part(tree[1], ("sum", "product", "power"))
        return f"{base}^{tree[2]}"
    if tree[0] == "product":
        return "*".join([written_part(item, ("sum", "product")) for item in tree[1]])
    if tree[0] == "sum":
        return " + ".join([written_part(item, ("sum",)) for item in tree[1]])
    return str(tree[1])


def written_part(tree, bracketed):
    """Return the text of the tree, in brackets if its first word is one of those given."""
    text = write_tree(tree)
    if tree[0] in bracketed:
        return f"({text})"
    return text


def name_row(tree):
    """Return the list of the names in the tree from left to right, each as often as it occurs."""
    if tree[0] == "name":
        return [tree[1]]
    if tree[0] == "number":
        return []
    parts = [tree[1]] if tree[0] == "power" else tree[1]
    return [name for part in parts for name in name_row(part)]


def names_in(tree):
    """Return the sorted list of the names in the tree, each once."""
    return sorted(set(name_row(tree)))
