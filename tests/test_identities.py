"""Points 119 to 121: expanding trees, identities and counterexamples."""

import itertools
import random
import unittest

from tests.helpers import WebCase
from webnumbers.errors import InvalidExpression, TooLarge, UnknownName
from webnumbers.expressions import names_in, parse, write_tree
from webnumbers.identities import counterexample, expand, identity_holds
from webnumbers.polys import Poly
from webnumbers.products import power_of, product_of, sum_webs, unit
from webnumbers.renamings import find_renaming
from webnumbers.shapes import path
from webnumbers.webs import EDGE, EMPTY, ONE

X, Y, Z = [Poly.of_prime(k) for k in range(3)]
VALUES = {"x": X, "y": Y, "z": Z}


def value_of(text, numbers):
    """Return the value of the expression if the names stand for the numbers, as Python calculates it."""
    return eval(text.replace("^", "**"), {}, numbers)


def web_of(kind, tree, webs):
    """Return the web that the tree stands for if the names stand for the webs."""
    if tree[0] == "number":
        return sum_webs(*[unit(kind)] * tree[1])
    if tree[0] == "name":
        return webs[tree[1]]
    if tree[0] == "power":
        return power_of(kind, web_of(kind, tree[1], webs), tree[2])
    items = [web_of(kind, item, webs) for item in tree[1]]
    return sum_webs(*items) if tree[0] == "sum" else product_of(kind, *items)


def random_text(seed, names="xyz"):
    """Return a small expression that the seed determines."""
    chooser = random.Random(seed)

    def part(left):
        if not left:
            return chooser.choice([*names, *names, "1", "2"])
        word = chooser.choice("+*^")
        if word == "^":
            return f"({part(left - 1)})^{chooser.randint(0, 2)}"
        return "(" + word.join(part(left - 1) for _ in range(2)) + ")"

    return part(2 + seed % 2)


class ExpandTest(WebCase):
    def test_values(self):
        for seed in range(80):
            text = random_text(seed)
            poly = expand(parse(text), VALUES)
            self.assertIsInstance(poly, Poly)
            for numbers in itertools.product((0, 1, 3), repeat=3):
                self.assertEqual(value_of(text, dict(zip("xyz", numbers))), poly(numbers))

    def test_names_stand_for_polynomials(self):
        values = {"a": X + 2, "b": Poly([]), "c1": Y * Y}
        self.assertEqual(((X + 2) * (X + 2) * 3 + Y * Y).terms, expand(parse("3*a^2 + b*a + c1"), values).terms)
        self.assertEqual((), expand(parse("b"), values).terms)
        self.assertEqual(((1, ()),), expand(parse("b^0"), values).terms)
        self.assertEqual(((7, ()),), expand(("number", 7), {}).terms)

    def test_other_names_have_no_effect(self):
        self.assertEqual((X + 1).terms, expand(parse("x + 1"), {"x": X, "y": Y, "q": Poly.of_number(10 ** 119)}).terms)

    def test_unknown_names(self):
        for text, name in [("b + a", "b"), ("x*(y + q^2) + p", "q"), ("x^2 + p + q", "p"), ("X", "X"), ("x1 + x", "x1")]:
            self.check_error(UnknownName, {"name": name}, expand, parse(text), VALUES)

    def test_unknown_names_come_before_any_evaluation(self):
        self.check_error(UnknownName, {"name": "q"}, expand, parse("(x + 1)^17 + q"), VALUES)
        self.check_error(UnknownName, {"name": "q"}, expand, parse("(10^119)^2*10^120*q"), VALUES)
        self.check_error(TooLarge, {"limit": 16}, expand, parse("(x + 1)^17 + z"), VALUES)

    def test_the_first_error_from_left_to_right(self):
        for text, limit in [("(x + 1)^17 + 99^16*99^16*99^16*99^16", 16), ("99^16*99^16*99^16*99^16 + (x + 1)^17", 120),
                            ("(x + 1)^17*(99^16*99^16*99^16*99^16)", 16), ("(x+y+z+1)^16*(x + 1)^17", 64),
                            ("x^2*(x + 1)^17*(x+y+z+1)^16", 16)]:
            self.check_error(TooLarge, {"limit": limit}, expand, parse(text), VALUES)

    def test_all_items_before_the_first_step(self):
        # The step from the first to the second item would raise TooLarge(120), the last item raises TooLarge(16).
        long = Poly.of_number(10 ** 119)
        values = {"a": long, "x": X}
        self.check_error(TooLarge, {"limit": 16}, expand, parse("a*a*(x + 1)^17"), values)
        self.check_error(TooLarge, {"limit": 120}, expand, parse("a*a*(x + 1)^16"), values)
        self.check_error(TooLarge, {"limit": 16}, expand, parse("9*a + 9*a + (x + 1)^17"), values)
        self.check_error(TooLarge, {"limit": 120}, expand, parse("9*a + 9*a + 0"), values)

    def test_each_step_has_its_limits(self):
        values = {"a": Poly.of_number(10 ** 119), "b": Poly([])}
        self.check_error(TooLarge, {"limit": 120}, expand, parse("a*a*b"), values)
        self.assertEqual((), expand(parse("a*b*a"), values).terms)

    def test_powers(self):
        self.assertEqual(((1, ((0, 10 ** 29),)),), expand(parse("x^" + "1" + "0" * 29), VALUES).terms)
        self.assertEqual(((1, ()),), expand(parse("1^" + "9" * 30), {}).terms)
        self.check_error(TooLarge, {"limit": 16}, expand, parse("2^17"), {})
        self.assertEqual(((65536, ()),), expand(parse("2^16"), {}).terms)

    def test_the_values_are_not_changed(self):
        values = dict(VALUES)
        expand(parse("x + y^2*3"), values)
        self.assertEqual(VALUES, values)


class IdentityTest(WebCase):
    def test_identities(self):
        for left, right in [("(a + b)^2", "a^2 + 2*a*b + b^2"), ("a*b", "b*a"), ("0*x", "0"), ("x^0", "1"), ("3", "1 + 2"),
                            ("(x+1)*(x^4+x^2+1)", "(x^3 + 1)*(x^2 + x + 1)"), ("a*(b + c)", "a*b + a*c"), ("2^3", "8"),
                            ("0^0", "1"), ("x + 0*y", "x")]:
            self.assertIs(True, identity_holds(left, right))
            self.assertIs(True, identity_holds(right, left))

    def test_texts_that_are_no_identities(self):
        for left, right in [("a", "b"), ("a^2", "a"), ("(a + b)^2", "a^2 + b^2"), ("1", "2"), ("x^3 + 2*x", "3*x^2"),
                            ("0", "x"), ("a", "A"), ("a1", "a2"), ("x", "x + 1")]:
            self.assertIs(False, identity_holds(left, right))
            self.assertIs(False, identity_holds(right, left))

    def test_against_numbers(self):
        for seed in range(150):
            left, right = random_text(seed), random_text(seed + 7)
            rows = itertools.product(range(0, 9, 2), repeat=3)
            same = all(value_of(left, dict(zip("xyz", row))) == value_of(right, dict(zip("xyz", row))) for row in rows)
            self.assertEqual(same, identity_holds(left, right))
            self.assertTrue(identity_holds(left, write_tree(parse(left))))

    def test_what_holds_for_webs(self):
        for left, right in [("a*(b + 1)", "b*a + a"), ("(a + 1)^2", "a^2 + 2*a + 1"), ("a*b", "b*a"), ("2*a", "a + a"),
                            ("a*b", "a + b"), ("a^2", "2*a"), ("a*(b + 1)", "a*b + 1")]:
            trees = [parse(left), parse(right)]
            same = []
            for kind in ("box", "strong", "direct"):
                for webs in ((EDGE, path(3)), (EDGE, ONE), (EDGE, EMPTY), (ONE, EDGE)):
                    first, second = [web_of(kind, tree, dict(zip("ab", webs))) for tree in trees]
                    same.append(find_renaming(first, second) is not None)
            self.assertIs(all(same), identity_holds(left, right))

    def test_errors(self):
        self.check_error(InvalidExpression, {"position": 2}, identity_holds, "a+", "b*")
        self.check_error(InvalidExpression, {"position": 1}, identity_holds, "a", "b)")
        self.check_error(TooLarge, {"limit": 400}, identity_holds, "a" * 401, "b)")
        self.check_error(TooLarge, {"limit": 20}, identity_holds, "(" * 21, "+")
        # The second text is parsed before the first one is expanded.
        self.check_error(InvalidExpression, {"position": 0}, identity_holds, "(x + 1)^17", "+")
        self.check_error(TooLarge, {"limit": 16}, identity_holds, "(x + 1)^17", "(x+y+z+1)^16")
        self.check_error(TooLarge, {"limit": 64}, identity_holds, "(x+y+z+1)^16", "(x + 1)^17")
        self.check_error(TooLarge, {"limit": 16}, identity_holds, "1", "(x + 1)^17")

    def test_many_names(self):
        names = [f"a{k}" for k in range(60)]
        self.assertIs(True, identity_holds("+".join(names), " + ".join(names[::-1])))
        self.check_error(TooLarge, {"limit": 64}, identity_holds, "+".join(f"a{k}" for k in range(65)), "1")


class CounterexampleTest(WebCase):
    def plain_counterexample(self, left, right):
        """Return the first row of numbers with different values, by Python's own calculation."""
        names = sorted(set(names_in(parse(left)) + names_in(parse(right))))
        polys = [expand(parse(text), {name: Poly.of_prime(k) for k, name in enumerate(names)}) for text in (left, right)]
        if polys[0].terms == polys[1].terms:
            return None
        greatest = max([e for poly in polys for _, m in poly.terms for _, e in m], default=0)
        for row in itertools.product(range(greatest + 1), repeat=len(names)):
            told = dict(zip(names, row))
            if value_of(left, told) != value_of(right, told):
                return list(zip(names, row))

    def test_example(self):
        self.assertEqual([("x", 3)], counterexample("x^3 + 2*x", "3*x^2"))

    def test_equal_polynomials(self):
        self.assertIsNone(counterexample("(a + b)^2", "a^2 + 2*a*b + b^2"))
        self.assertIsNone(counterexample("1", "1"))
        self.assertIsNone(counterexample("0*x", "0"))
        self.assertIsNone(counterexample("x^6", "x*x^5"))

    def test_the_first_numbers(self):
        self.assertEqual([("a", 0), ("b", 1)], counterexample("a", "b"))
        self.assertEqual([("a", 0), ("c", 1)], counterexample("c + a", "a"))
        self.assertEqual([("a", 0), ("b", 0), ("c", 1)], counterexample("c + a*b", "a*b"))
        self.assertEqual([("x", 2)], counterexample("x^2", "x"))
        self.assertEqual([("x", 1), ("y", 1)], counterexample("x*y", "0"))
        self.assertEqual([("x", 1), ("y", 2)], counterexample("x*y^2", "x*y"))
        self.assertEqual([("B", 0), ("a", 1)], counterexample("B", "a"))
        self.assertEqual([("x", 0)], counterexample("x + 1", "x"))
        self.assertEqual([("x", 6)], counterexample(
            "x^6 + 85*x^4 + 274*x^2", "15*x^5 + 225*x^3 + 120*x"))

    def test_against_plain_search(self):
        tried = 0
        for seed in range(250):
            left, right = random_text(seed), random_text(seed * 3 + 1)
            try:
                found = counterexample(left, right)
            except TooLarge:
                continue
            tried += 1
            self.assertEqual(self.plain_counterexample(left, right), found)
        self.assertGreater(tried, 200)

    def test_without_names(self):
        self.assertEqual([], counterexample("1", "2"))
        self.assertIsNone(counterexample("3", "1 + 2"))

    def test_names_that_the_polynomials_no_longer_contain(self):
        self.assertEqual([("x", 0)], counterexample("0*x", "1"))
        self.assertEqual([("x", 0), ("y", 0)], counterexample("x^0 + y", "y"))
        self.assertEqual([("x", 1), ("y", 0)], counterexample("x + 0*y", "0*x"))
        self.check_error(TooLarge, {"limit": 3}, counterexample, "0*a*b*c*d", "0")
        self.check_error(TooLarge, {"limit": 3}, counterexample, "a*b", "(c + d)^0")
        self.assertIsNone(counterexample("0*a*b*c", "0"))

    def test_the_order_of_the_errors(self):
        self.check_error(InvalidExpression, {"position": 7}, counterexample, "a+b+c+d", "a+b+c+d)")
        self.check_error(InvalidExpression, {"position": 0}, counterexample, "", "!!")
        self.check_error(TooLarge, {"limit": 3}, counterexample, "(a + 1)^17 + b + c + d", "1")
        self.check_error(TooLarge, {"limit": 16}, counterexample, "(a + 1)^17 + b + c + c", "1")
        self.check_error(TooLarge, {"limit": 16}, counterexample, "1", "(a + 1)^17")
        self.check_error(TooLarge, {"limit": 64}, counterexample, "(a + b + c + 1)^16", "(a + 1)^17")

    def test_exponents_beyond_6(self):
        for left, right in [("x^7", "x"), ("x", "x^7"), ("x^7", "x^7"), ("x^7*y", "x^3*x^4*y"), ("1", "x^7*y"),
                            ("x^" + "9" * 30, "x")]:
            self.check_error(TooLarge, {"limit": 6}, counterexample, left, right)
        # Each exponent counts by itself.
        self.assertIsNone(counterexample("x^6*y^6*z^6", "(x*y*z)^6"))
        self.assertEqual([("x", 1), ("y", 1), ("z", 1)], counterexample("x^6*y^6*z^6", "0"))

    def test_longest_searches(self):
        found = self.quickly(counterexample, "x*y*z*(x^5 + 85*x^3 + 274*x)", "x*y*z*(15*x^4 + 225*x^2 + 120)")
        self.assertEqual([("x", 6), ("y", 1), ("z", 1)], found)


if __name__ == "__main__":
    unittest.main()
