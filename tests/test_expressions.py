"""Points 114 to 118: expressions, their trees and their texts."""

import itertools
import random
import re
import unittest

from tests.helpers import WebCase
from webnumbers.errors import InvalidExpression, TooLarge
from webnumbers.expressions import names_in, parse, write_tree

A, B, C = ("name", "a"), ("name", "b"), ("name", "c")
TOKENS = "nx+*^()"


def is_expression(signs):
    """Tell whether the signs are an expression, n a number and x a name, by replacing its parts step by step."""
    before = None
    while before != signs:
        before = signs
        # A power becomes p, which is not followed by an exponent; a sum in brackets is like a name.
        signs = re.sub(r"\(([nxp]([+*][nxp])*)\)", "x", re.sub(r"[nx]\^n", "p", signs))
    return bool(re.fullmatch(r"[nxp]([+*][nxp])*", signs))


def can_begin(signs):
    """Tell whether some expression begins with the signs."""
    closing = ")" * (signs.count("(") - signs.count(")"))
    return any(is_expression(signs + more + closing) for more in ("", "n", "x"))


def random_tree(seed, levels=4):
    """Return a tree of the kind that `parse` returns, which the seed determines."""
    chooser = random.Random(seed)

    def tree(left):
        word = chooser.choice(["number", "name", "sum", "product", "power"] if left else ["number", "name"])
        if word == "number":
            return (word, chooser.choice([0, 1, 2, 10, 10 ** 29, 123456]))
        if word == "name":
            return (word, chooser.choice(["a", "B", "x1", "abcdefghijkl", "Zz9"]))
        if word == "power":
            return (word, tree(left - 1), chooser.choice([0, 1, 2, 10 ** 29]))
        return (word, tuple(tree(left - 1) for _ in range(chooser.randint(2, 3))))

    return tree(levels)


def plain_text(tree):
    """Return the text of the tree, with brackets exactly where point 118 asks for them."""
    if tree[0] in ("number", "name"):
        return f"{tree[1]}"
    bracketed = {"sum": ["sum"], "product": ["sum", "product"], "power": ["sum", "product", "power"]}[tree[0]]
    parts = [tree[1]] if tree[0] == "power" else tree[1]
    texts = ["(" + plain_text(part) + ")" if part[0] in bracketed else plain_text(part) for part in parts]
    if tree[0] == "power":
        return texts[0] + "^" + str(tree[2])
    return {"sum": " + ", "product": "*"}[tree[0]].join(texts)


TREES = [random_tree(seed, 1 + seed % 5) for seed in range(400)]


class ParsingTest(WebCase):
    def check_wrong(self, text, position):
        self.check_error(InvalidExpression, {"position": position}, parse, text)

    def test_example(self):
        expected = ("sum", (("product", (("number", 2), ("name", "a"))), ("power", ("name", "b"), 3)))
        self.assertEqual(expected, parse("2*a + b^3"))

    def test_trees(self):
        for text, tree in [
            ("0", ("number", 0)), ("a", A), ("((a))", A), ("a+b", ("sum", (A, B))), ("a*b", ("product", (A, B))),
            ("a^0", ("power", A, 0)), ("2^10", ("power", ("number", 2), 10)), ("(a)^2", ("power", A, 2)),
            ("a+b+c", ("sum", (A, B, C))), ("a+(b+c)", ("sum", (A, ("sum", (B, C))))),
            ("(a+b)+c", ("sum", (("sum", (A, B)), C))), ("a*(b*c)", ("product", (A, ("product", (B, C))))),
            ("(a*b)*c", ("product", (("product", (A, B)), C))), ("(a^2)^3", ("power", ("power", A, 2), 3)),
            ("(a+b)^2*c", ("product", (("power", ("sum", (A, B)), 2), C))),
            ("a+b*c^2", ("sum", (A, ("product", (B, ("power", C, 2)))))), ("(a*b)", ("product", (A, B))),
            ("(a+b)", ("sum", (A, B))), ("((a+b)*c)", ("product", (("sum", (A, B)), C))),
        ]:
            self.assertEqual(tree, parse(text))

    def test_spaces(self):
        expected = parse("(a1+20)*b^3+c")
        self.assertEqual(expected, parse("  (  a1  +  20  )  *  b  ^  3  +  c  "))
        self.assertEqual(expected, parse("( a1+20 ) *b ^3+ c"))
        self.check_wrong("a1 1", 3)
        self.check_wrong("a b", 2)
        self.check_wrong("1 2", 2)
        self.check_wrong(" 2a", 2)

    def test_numbers(self):
        nines = "9" * 30
        self.assertEqual(("number", int(nines)), parse(nines))
        self.assertEqual(("power", A, int(nines)), parse("a^" + nines))
        self.check_wrong(nines + "9", 0)
        self.check_wrong("a^" + nines + "9", 2)
        self.check_wrong("a + " + nines + "9 + !", 4)
        self.check_wrong("00", 0)
        self.check_wrong("a*01", 2)
        self.check_wrong("a^00", 2)
        self.check_wrong("0" * 31, 0)
        self.assertEqual(("sum", (("number", 0), ("number", 10))), parse("0+10"))

    def test_names(self):
        self.assertEqual(("name", "abcdefghijkl"), parse("abcdefghijkl"))
        self.check_wrong("abcdefghijklm", 0)
        self.check_wrong("a+ abcdefghijkl1", 3)
        self.assertEqual(("name", "Z9z0123456ab"), parse("Z9z0123456ab"))
        self.check_wrong("9z", 1)
        self.check_wrong("_a", 0)
        self.check_wrong("a_b", 1)

    def test_wrong_characters(self):
        for character in "!\"#$%&',-./:;<=>?@[\\]_`{|}~\t\n\r\x00\x7f":
            self.check_wrong(character, 0)
            self.check_wrong("a " + character, 2)
            self.check_wrong("a+" + character + "b", 2)
            self.check_wrong("a" + character + "+", 1)
        # The first wrong thing counts, a wrong token or a token in a wrong place.
        self.check_wrong("a++!", 2)
        self.check_wrong("a+!+", 2)
        self.check_wrong("a 01", 2)

    def test_texts_that_end_too_early(self):
        for text in ("", " ", "    ", "(", "a+", "a*", "a^", "a + ", "(a", "(a + (b)", "a^ ", "((a)  "):
            self.check_wrong(text, len(text))

    def test_every_token_in_every_place(self):
        for many in range(7):
            for signs in itertools.product(TOKENS, repeat=many):
                signs = "".join(signs)
                text = " " + " ".join(signs).replace("n", "7").replace("x", "ab")
                if is_expression(signs):
                    parse(text)
                    continue
                first = next((k for k in range(many) if not can_begin(signs[:k + 1])), None)
                words = text.split(" ")[1:] if signs else []
                position = len(text) if first is None else sum(len(word) + 1 for word in words[:first]) + 1
                self.check_wrong(text, position)

    def test_samples(self):
        for text, position in [("a^2^3", 3), ("(a^2)^3^4", 7), ("a^b", 2), ("a^(2)", 2), ("a)", 1), ("(a))", 3), (")", 0),
                               ("()", 1), ("a()", 1), ("a(b)", 1), ("2(b)", 1), ("(a)(b)", 3), ("(a)b", 3), ("+a", 0),
                               ("a*+b", 2), ("a+*b", 2), ("^2", 0), ("a^+", 2), ("a^2 3", 4), ("a^2(", 3), ("(+", 1)]:
            self.check_wrong(text, position)


class LimitsTest(WebCase):
    def test_characters(self):
        self.assertEqual(("name", "a"), parse(" " * 399 + "a"))
        self.assertEqual(200, len(parse("+".join(["a"] * 200) + " ")[1]))
        self.check_error(TooLarge, {"limit": 400}, parse, " " * 400 + "a")
        self.check_error(TooLarge, {"limit": 400}, parse, "!" * 401)
        self.check_error(InvalidExpression, {"position": 0}, parse, "!" * 400)
        self.check_error(InvalidExpression, {"position": 400}, parse, " " * 400)
        self.check_error(TooLarge, {"limit": 400}, parse, "(" * 401)

    def test_open_brackets(self):
        self.assertEqual(A, parse("(" * 20 + "a" + ")" * 20))
        self.check_error(TooLarge, {"limit": 20}, parse, "(" * 21 + "a" + ")" * 21)
        self.check_error(InvalidExpression, {"position": 20}, parse, "(" * 20)
        self.check_error(TooLarge, {"limit": 20}, parse, "(" * 21)
        self.check_error(TooLarge, {"limit": 20}, parse, "! )" + "(" * 22)
        self.check_error(InvalidExpression, {"position": 0}, parse, ")" + "(" * 21)
        self.check_error(TooLarge, {"limit": 20}, parse, "01" + "(" * 21)
        self.assertEqual(100, len(parse("+".join(["(a)"] * 100))[1]))
        many = "+".join(["(" * 20 + "a" + ")" * 20] * 9)
        self.assertEqual(("sum", (A,) * 9), parse(many))

    def test_deepest_trees(self):
        text = "a"
        for _ in range(20):
            text = "(b+c*" + text + "^2)"
        tree = parse(text + "^9")
        self.assertEqual(tree, parse(write_tree(tree)))
        levels = 0
        while tree[0] != "name":
            tree = tree[1] if tree[0] == "power" else tree[1][-1]
            levels += 1
        self.assertEqual(61, levels)


class WritingTest(unittest.TestCase):
    def test_example(self):
        self.assertEqual("a*(b + c)^2*(2*d)", write_tree(parse("((a))*(b+c) ^ 2*(2*d)")))

    def test_texts(self):
        for text in ("0", "a", "a + b", "a*b", "a^2", "(a + b)*c", "a + b*c", "(a*b)^2", "(a + b)^2", "(a^2)^3", "a + (b + c)",
                     "(a + b) + c", "a*(b*c)", "(a*b)*c", "a^2*b^3", "a^2 + b", "2^10", "a*(b + c^2*(d + 1))^0"):
            self.assertEqual(text, write_tree(parse(text)))

    def test_brackets_that_are_left_out(self):
        self.assertEqual("a*b + c", write_tree(parse("((a)*(b))+(c)")))
        self.assertEqual("a^2*b", write_tree(parse("(a^2)*b")))
        self.assertEqual("a^2 + b*c", write_tree(parse("(a^2)+(b*c)")))

    def test_the_tree_again(self):
        tried = 0
        for tree in TREES:
            text = write_tree(tree)
            self.assertEqual(plain_text(tree), text)
            if len(text) <= 400:
                self.assertEqual(tree, parse(text))
                tried += 1
        self.assertGreater(tried, 300)


class NamesTest(unittest.TestCase):
    def test_names(self):
        self.assertEqual([], names_in(("number", 3)))
        self.assertEqual(["a"], names_in(A))
        self.assertEqual(["a", "b"], names_in(parse("b*a + a^2*(b + 7)")))

    def test_the_order(self):
        self.assertEqual(["B", "Z", "a", "a1", "aB", "aa", "b"], names_in(parse("b+aa+aB+a1+a+Z+B")))
        self.assertEqual(["A", "A0", "A9", "AA", "Aa"], names_in(parse("Aa*AA*A9*A0*A*A*Aa")))

    def test_every_kind_of_tree(self):
        for tree in TREES:
            expected = sorted(set(re.findall("[A-Za-z][A-Za-z0-9]*", plain_text(tree))))
            self.assertEqual(expected, names_in(tree))


if __name__ == "__main__":
    unittest.main()
