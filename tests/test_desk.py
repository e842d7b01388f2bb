"""Points 127 to 133: the entries of a desk, their values and their changes."""

import unittest

from tests.helpers import WebCase, moved, random_row
from webnumbers.books import PrimeBook
from webnumbers.codes import code_of
from webnumbers.desk import Desk, replay
from webnumbers.errors import (
    Circular, HasLoops, InvalidExpression, InvalidKind, InvalidName, NameInUse, NoOddRing, TooLarge, UnknownName, WebError,
)
from webnumbers.polys import Poly
from webnumbers.products import power_of, product, sum_webs
from webnumbers.shapes import full, full_with_loops, path, ring
from webnumbers.webs import EDGE, EMPTY, LOOP, ONE

KINDS = ("box", "strong", "direct")
UNITS = {"box": ONE, "strong": ONE, "direct": LOOP}
HALF = (2, ((0, 0), (0, 1)))
WRONG_NAMES = ("", " ", "1", "1a", "_", "a_b", "a b", " a", "a ", "a-", "abcdefghijklm", "a" * 13, "\xe9", "a\n", "a.b", "a:",
               "\xaa", "a\u0661")


def told(desk):
    """Return all that a desk tells of its entries, their values and its changes."""
    values = {name: None if desk[name] is None else desk[name].terms for name in desk}
    return (list(desk), values, [desk.form_of(name) for name in desk], desk.journal)


def texts(desk):
    """Return the texts of the values."""
    return {name: "none" if desk[name] is None else str(desk[name]) for name in desk}


def desk_of(*lines, kind="box"):
    return replay(kind, list(lines))


class DeskCase(WebCase):
    def check_refused(self, error, more, desk, call, *args):
        """Check that the call raises the error and changes nothing but the book."""
        before = told(desk)
        self.check_error(error, more, call, *args)
        self.assertEqual(before, told(desk))


class MakingTest(DeskCase):
    def test_example(self):
        desk = replay("box", ["web a 2 2", "formula b: a^2 + 3", "equation x: a*x + 1 = a*b + 1"])
        self.assertEqual("p0^2 + 3", str(desk["x"]))
        self.assertEqual("formula b: a^2 + 3", desk.form_of("b"))

    def test_a_new_desk(self):
        for kind in KINDS:
            desk = Desk(kind)
            self.assertEqual(kind, desk.kind)
            self.assertIsInstance(desk.book, PrimeBook)
            self.assertEqual((kind, ()), (desk.book.kind, desk.book.primes))
            self.assertEqual(([], {}, [], ()), told(desk))
            self.assertEqual([], list(desk.steps()))
            self.assertNotIn("a", desk)
        self.assertEqual(20, Desk.MAX_ENTRIES)

    def test_kinds(self):
        for kind in ("levels", "sum", "", "BOX"):
            self.check_error(InvalidKind, {"kind": kind}, Desk, kind)

    def test_desks_are_independent(self):
        first, second = Desk("box"), Desk("box")
        first.set_web("a", ring(3))
        self.assertEqual(([], ()), (list(second), second.book.primes))


class ValuesTest(DeskCase):
    def test_webs(self):
        for kind, web in [("box", sum_webs(EDGE, ring(3))), ("strong", full(6)), ("direct", full_with_loops(6))]:
            desk = Desk(kind)
            self.assertIsNone(desk.set_web("a", web))
            self.assertEqual(PrimeBook(kind).read(web).terms, desk["a"].terms)
            self.assertEqual(desk.book.build(desk["a"]), desk.built("a"))
        desk = Desk("box")
        desk.set_web("a", EMPTY)
        self.assertEqual(((), EMPTY), (desk["a"].terms, desk.built("a")))

    def test_formulas(self):
        desk = Desk("box")
        desk.set_web("a", EDGE)
        desk.set_web("b", ring(3))
        self.assertIsNone(desk.set_formula("f", "(a + b)^2*2 + 1"))
        p, q = Poly.of_prime(0), Poly.of_prime(1)
        self.assertEqual(((p + q) ** 2 * 2 + 1).terms, desk["f"].terms)
        desk.set_formula("g", "f*a")
        self.assertEqual(((p + q) ** 2 * 2 * p + p).terms, desk["g"].terms)
        desk.set_formula("n", "12")
        self.assertEqual(((12, ()),), desk["n"].terms)

    def test_equations(self):
        desk = desk_of("web a 2 2", "web b 3 26")
        self.assertIsNone(desk.set_equation("x", "a*x + b", "a*(a + 2) + b"))
        self.assertEqual("p0 + 2", str(desk["x"]))
        desk.set_equation("y", "y^2 + a*y", "b^2 + a*b")
        self.assertEqual(desk["b"].terms, desk["y"].terms)
        for power in (1, 2, 3, 4):
            desk.set_equation("z", f"z^{power} + 1", f"(a + x)^{power} + 1")
            self.assertEqual("2*p0 + 2", str(desk["z"]))
        desk.set_equation("w", "(w + 1)*(w + 2)*(w + 3)*(w + 4)", "(a + 1)*(a + 2)*(a + 3)*(a + 4)")
        self.assertEqual("p0", str(desk["w"]))
        desk.set_equation("v", "v*a", "0")
        self.assertEqual("0", str(desk["v"]))

    def test_equations_with_no_solution(self):
        desk = desk_of("web a 2 2")
        for left, right in [("x + a", "1"), ("x*a", "1"), ("x^2", "2"), ("2*x", "3"), ("x*(a + 1)", "a^2"), ("a", "1"),
                            ("0*x", "1")]:
            desk.set_equation("x", left, right)
            self.assertIsNone(desk["x"])
            self.assertIsNone(desk.built("x"))

    def test_equations_that_every_polynomial_solves(self):
        desk = desk_of("web a 2 2")
        for left, right in [("a", "a"), ("0*x", "0"), ("x*0 + a", "a"), ("1", "1"), ("x^0", "1"), ("(0*x + 1)^2", "1")]:
            desk.set_equation("x", left, right)
            self.assertIsNone(desk["x"])

    def test_the_unknown_to_the_powers_4_and_5(self):
        desk = desk_of("web a 2 2")
        desk.set_equation("x", "x^4", "a^4")
        self.assertEqual("p0", str(desk["x"]))
        for left in ("x^5", "a*x^5 + x", "(x + 1)^5", "x^3*x^2", "x^" + "9" * 30, "x*(x + a)^4"):
            self.check_refused(TooLarge, {"limit": 4}, desk, desk.set_equation, "x", left, "1")
        # The power is gone before the equation is looked at, or it comes before the errors of the right side.
        desk.set_equation("x", "0*x^5 + x", "3")
        self.assertEqual("3", str(desk["x"]))
        self.check_refused(TooLarge, {"limit": 4}, desk, desk.set_equation, "x", "x^5", "(a + 1)^17")
        self.check_refused(TooLarge, {"limit": 16}, desk, desk.set_equation, "x", "x^4", "(a + 1)^17")
        self.check_refused(TooLarge, {"limit": 16}, desk, desk.set_equation, "x", "(x + 1)^17", "9^16*9^16*9^16*9^16*9^16")
        self.check_refused(TooLarge, {"limit": 120}, desk, desk.set_equation, "x",
                           "x + " + "*".join(["9^16"] * 9), "0")

    def test_the_limits_of_polynomials_hold_for_the_left_side(self):
        many = " + ".join(f"a^{k}" for k in range(1, 16))
        desk = desk_of("web a 2 2")
        desk.set_formula("f", many)
        desk.set_equation("x", "x*f + x^2*f + x^3*f + x^4*f", "4*f")
        self.assertEqual("1", str(desk["x"]))
        self.check_refused(TooLarge, {"limit": 64}, desk, desk.set_equation, "x", "(x + 1)^4*f", "16*f")
        self.check_refused(TooLarge, {"limit": 64}, desk, desk.set_equation, "x", "(x + a + 1)^4*f*0", "0")

    def test_the_new_prime_is_not_in_the_book(self):
        desk = Desk("box")
        desk.set_equation("x", "x + 1", "3")
        self.assertEqual("2", str(desk["x"]))
        desk.set_web("a", EDGE)
        desk.set_web("b", ring(3))
        desk.set_equation("y", "y*a + x*b", "a*b + 2*b")
        self.assertEqual("p1", str(desk["y"]))
        self.assertEqual(2, len(desk.book.primes))
        # Primes that come later do not change the value.
        desk.set_web("c", ring(5))
        self.assertEqual("p1", str(desk["y"]))
        desk.book.read(path(3))
        desk.set_equation("z", "z*a", "a*c")
        self.assertEqual("p2", str(desk["z"]))

    def test_values_none(self):
        desk = desk_of("web a 2 2", "equation x: 2*x = 3", "formula f: x + a", "formula g: f*0", "equation y: y + x = 1",
                       "equation z: z = g", "formula h: a")
        self.assertEqual({"a": "p0", "x": "none", "f": "none", "g": "none", "y": "none", "z": "none", "h": "p0"}, texts(desk))
        # Nothing is expanded for these, so their errors do not show.
        desk.set_formula("f", "(a + 1)^17*x")
        desk.set_equation("y", "y^5 + x", "(a + 1)^17")
        self.assertEqual("none", texts(desk)["f"])
        self.check_refused(TooLarge, {"limit": 16}, desk, desk.set_equation, "x", "2*x", "4")
        desk.set_formula("f", "a*x")
        self.check_refused(TooLarge, {"limit": 4}, desk, desk.set_equation, "x", "2*x", "4")
        desk.drop("y")
        desk.set_equation("x", "2*x", "4")
        self.assertEqual({"a": "p0", "x": "2", "f": "2*p0", "g": "0", "z": "0", "h": "p0"}, texts(desk))

    def test_the_own_name_of_an_equation(self):
        desk = desk_of("web a 2 2", "equation x: x*x = a*a", "equation y: x*y = a*x")
        self.assertEqual({"a": "p0", "x": "p0", "y": "p0"}, texts(desk))
        desk.set_equation("y", "a", "a")
        self.assertIsNone(desk["y"])
        # The unknown may have a value that is None already.
        desk.set_equation("y", "y", "a")
        self.assertEqual("p0", str(desk["y"]))

    def test_replaced_entries_change_other_values(self):
        desk = desk_of("web a 2 2", "formula f: a + 1", "formula g: f^2", "equation x: x*f = g")
        self.assertEqual("p0^2 + 2*p0 + 1", texts(desk)["g"])
        desk.set_formula("a", "7")
        self.assertEqual({"a": "7", "f": "8", "g": "64", "x": "8"}, texts(desk))
        desk.set_web("a", (3, ()))
        self.assertEqual({"a": "3", "f": "4", "g": "16", "x": "4"}, texts(desk))
        desk.set_formula("f", "0")
        self.assertEqual({"a": "3", "f": "0", "g": "0", "x": "none"}, texts(desk))
        desk.set_equation("g", "g + a", "5")
        self.assertEqual({"a": "3", "f": "0", "g": "2", "x": "none"}, texts(desk))

    def test_built(self):
        for kind in KINDS:
            desk = Desk(kind)
            part = HALF if kind == "direct" else EDGE
            desk.set_web("a", part)
            desk.set_formula("f", "a^2 + 2")
            self.assertEqual(sum_webs(power_of(kind, part, 2), UNITS[kind], UNITS[kind]), desk.built("f"))
            desk.set_formula("g", "a^7")
            self.check_error(TooLarge, {"limit": 64}, desk.built, "g")
            desk.set_formula("g", "a^6")
            self.assertEqual(64, desk.built("g")[0])
            desk.set_formula("g", "0")
            self.assertEqual(EMPTY, desk.built("g"))


class ErrorsOfSettingTest(DeskCase):
    def every_setter(self, desk):
        """Return the calls that set a web, a formula and an equation, with proper contents."""
        web = HALF if desk.kind == "direct" else EDGE
        return [lambda name: desk.set_web(name, web), lambda name: desk.set_formula(name, "1"),
                lambda name: desk.set_equation(name, "2", "1 + 1"), lambda name: desk.__setitem__(name, web),
                lambda name: desk.__setitem__(name, "1 + 1")]

    def full_desk(self, kind="box"):
        desk = Desk(kind)
        for k in range(20):
            desk.set_formula(f"n{k}", str(k))
        return desk

    def test_names(self):
        for kind in KINDS:
            desk = Desk(kind)
            desk.set_formula("a", "1")
            for call in self.every_setter(desk):
                for name in WRONG_NAMES:
                    self.check_refused(InvalidName, {"name": name}, desk, call, name)
                for name in ("a", "B", "abcdefghijkl", "a1", "Z9z0123456ab"):
                    call(name)
                    desk.undo()

    def test_wrong_names_come_before_all_else(self):
        desk = self.full_desk()
        self.check_refused(InvalidName, {"name": "1x"}, desk, desk.set_web, "1x", LOOP)
        self.check_refused(InvalidName, {"name": ""}, desk, desk.set_formula, "", "+")
        self.check_refused(InvalidName, {"name": "a b"}, desk, desk.set_equation, "a b", "+", "+")

    def test_twenty_entries(self):
        for kind in KINDS:
            desk = self.full_desk(kind)
            for call in self.every_setter(desk)[:2]:
                self.check_refused(TooLarge, {"limit": 20}, desk, call, "a")
            self.check_refused(TooLarge, {"limit": 20}, desk, desk.set_web, "a", (1, ((0, 0),)))
            self.check_refused(TooLarge, {"limit": 20}, desk, desk.set_formula, "a", "+")
            self.check_refused(TooLarge, {"limit": 20}, desk, desk.set_equation, "a", "a" * 401, "1")
            # A name that has an entry is not one more.
            desk.set_formula("n7", "n8 + 1")
            desk.set_web("n9", EMPTY)
            desk.drop("n0")
            desk.set_formula("a", "5")
            self.assertEqual(20, len(list(desk)))

    def test_errors_of_reading(self):
        desk = Desk("box")
        desk.set_web("a", EDGE)
        self.check_refused(HasLoops, {"node": 1}, desk, desk.set_web, "a", (2, ((1, 1),)))
        self.check_refused(TooLarge, {"limit": 9}, desk, desk.set_web, "b", path(10))
        self.check_refused(HasLoops, {"node": 0}, desk, desk.__setitem__, "b", LOOP)
        self.assertEqual((EDGE,), desk.book.primes)
        desk = Desk("direct")
        self.check_refused(NoOddRing, {"node": 0}, desk, desk.set_web, "a", EDGE)
        self.check_refused(NoOddRing, {"node": 1}, desk, desk.set_web, "a", sum_webs(LOOP, ring(4)))

    def test_errors_of_parsing(self):
        desk = Desk("box")
        self.check_refused(InvalidExpression, {"position": 2}, desk, desk.set_formula, "a", "b+")
        self.check_refused(TooLarge, {"limit": 400}, desk, desk.set_formula, "a", "(" * 401)
        self.check_refused(TooLarge, {"limit": 20}, desk, desk.set_formula, "a", "(" * 21)
        self.check_refused(InvalidExpression, {"position": 0}, desk, desk.set_formula, "a", "")
        self.check_refused(InvalidExpression, {"position": 1}, desk, desk.set_equation, "a", "b)", "+")
        self.check_refused(InvalidExpression, {"position": 0}, desk, desk.set_equation, "a", "b", "+")
        self.check_refused(TooLarge, {"limit": 20}, desk, desk.set_equation, "a", "a", "(" * 22)

    def test_written_texts_of_more_than_400_characters(self):
        desk = desk_of("formula a: 1")
        short = "+".join(["a"] * 100) + "+123"
        self.assertEqual(403, len(short.replace("+", " + ")))
        self.check_refused(TooLarge, {"limit": 400}, desk, desk.set_formula, "b", short)
        self.check_refused(TooLarge, {"limit": 400}, desk, desk.set_equation, "b", "b", short)
        self.check_refused(TooLarge, {"limit": 400}, desk, desk.set_equation, "b", short, "b")
        # The errors of parsing come first, unknown names later.
        self.check_refused(InvalidExpression, {"position": 0}, desk, desk.set_equation, "b", short, "+")
        self.check_refused(TooLarge, {"limit": 400}, desk, desk.set_formula, "b", short.replace("a", "q"))
        self.check_refused(TooLarge, {"limit": 400}, desk, desk.set_equation, "b", "q", short)
        just = "+".join(["a"] * 100) + "*1"
        desk.set_formula("b", just)
        self.assertEqual(399 + len("formula b: "), len(desk.form_of("b")))
        desk.set_formula("b", "+".join(["a"] * 99) + "+1234")
        self.assertEqual(400 + len("formula b: "), len(desk.form_of("b")))

    def test_unknown_names(self):
        desk = desk_of("formula a: 1")
        for text, name in [("b", "b"), ("a + c*b", "c"), ("a^2*(a + z) + y", "z"), ("n + n", "n"), ("A", "A")]:
            self.check_refused(UnknownName, {"name": name}, desk, desk.set_formula, "f", text)
            self.check_refused(UnknownName, {"name": name}, desk, desk.set_equation, "f", text, "q + p")
            self.check_refused(UnknownName, {"name": name}, desk, desk.set_equation, "f", "a*f", text)
        self.check_refused(UnknownName, {"name": "r"}, desk, desk.set_equation, "f", "f + r", "q")
        # They come before names that depend on themselves, and before the errors of values.
        self.check_refused(UnknownName, {"name": "q"}, desk, desk.set_formula, "f", "f + q")
        self.check_refused(UnknownName, {"name": "q"}, desk, desk.set_equation, "f", "f", "f + q")
        self.check_refused(UnknownName, {"name": "q"}, desk, desk.set_formula, "f", "2^17 + q")

    def test_names_that_depend_on_themselves(self):
        desk = desk_of("formula a: 1", "formula b: a", "formula c: b + a", "equation x: x*a = c")
        for name, text in [("a", "a"), ("a", "2*a + 1"), ("a", "b"), ("a", "c"), ("a", "1 + x"), ("b", "c"), ("b", "x"),
                           ("c", "x"), ("f", "f"), ("x", "x + 1"), ("a", "0*x")]:
            self.check_refused(Circular, {"name": name}, desk, desk.set_formula, name, text)
            self.check_refused(Circular, {"name": name}, desk, desk.set_equation, name, "1", text)
            if text not in ("a", "2*a + 1", "f", "x + 1"):
                self.check_refused(Circular, {"name": name}, desk, desk.set_equation, name, text + " + " + name, "1")
        # The own name of an equation on its left side is the unknown.
        desk.set_equation("a", "a + 1", "2")
        desk.set_equation("f", "f", "1")
        # A name that depends on itself comes before the errors of values.
        self.check_refused(Circular, {"name": "a"}, desk, desk.set_formula, "a", "(b + 1)^17")
        self.assertEqual({"a": "1", "b": "1", "c": "2", "f": "1", "x": "2"}, texts(desk))

    def test_an_equation_depends_on_others_only(self):
        desk = desk_of("equation x: x = 1", "equation y: y*x = 2*x")
        self.check_refused(Circular, {"name": "x"}, desk, desk.set_equation, "x", "x*y", "2")
        desk.set_equation("y", "y*y", "4")
        desk.set_equation("x", "x*y", "2")
        self.assertEqual({"x": "1", "y": "2"}, texts(desk))

    def test_errors_of_values(self):
        desk = desk_of("web a 2 2", "formula f: a^2", "formula g: f*a", "formula h: 9^16")
        self.check_refused(TooLarge, {"limit": 16}, desk, desk.set_formula, "q", "(a + 1)^17")
        self.check_refused(TooLarge, {"limit": 120}, desk, desk.set_formula, "q", "*".join(["h"] * 8))
        # A value of another entry raises an error.
        desk.set_formula("k", "f^17")
        self.check_refused(TooLarge, {"limit": 16}, desk, desk.set_formula, "f", "a + 1")
        self.check_refused(TooLarge, {"limit": 16}, desk, desk.set_web, "a", sum_webs(EDGE, EDGE))
        self.check_refused(TooLarge, {"limit": 16}, desk, desk.set_equation, "f", "f", "2")
        desk.set_web("a", ring(5))
        self.assertEqual("p1^34", texts(desk)["k"])

    def test_the_first_error_of_the_values(self):
        # The values of b and c raise errors. The order of the steps decides, not that of the changes.
        short, long = "(a + 0)^17", "*".join(["a^16"] * 9)
        for one, other, limit in [(short, long, 16), (long, short, 120)]:
            for lines in ([f"formula b: {one}", f"formula c: {other}"], [f"formula c: {other}", f"formula b: {one}"]):
                desk = desk_of("formula a: 1", *lines)
                self.check_refused(TooLarge, {"limit": limit}, desk, desk.set_formula, "a", "10^15")
        desk = desk_of("formula z: 1", "formula b: " + "*".join(["z^16"] * 9), "formula a: z^17 + b")
        self.check_refused(TooLarge, {"limit": 120}, desk, desk.set_formula, "z", "10^15")

    def test_primes_of_refused_changes_stay_in_the_book(self):
        desk = desk_of("web a 2 2", "formula f: a^17")
        self.check_refused(TooLarge, {"limit": 16}, desk, desk.set_web, "a", sum_webs(ring(3), ring(5)))
        self.assertEqual((EDGE, ring(3), ring(5)), desk.book.primes)
        desk.set_web("b", ring(5))
        self.assertEqual("p2", texts(desk)["b"])


class OrderTest(DeskCase):
    def test_steps(self):
        desk = desk_of("formula z: 1", "formula a: z + 1", "formula m: 3", "equation b: b*m = a*m", "formula c: b + a")
        self.assertEqual(["z", "a", "m", "b", "c"], list(desk.steps()))
        self.assertEqual(["a", "b", "c", "m", "z"], list(desk))
        desk = desk_of("formula d: 1", "formula c: 2", "formula b: d*c", "formula a: b")
        self.assertEqual(["c", "d", "b", "a"], list(desk.steps()))
        desk.set_formula("c", "d")
        self.assertEqual(["d", "c", "b", "a"], list(desk.steps()))
        desk.set_formula("b", "7")
        self.assertEqual(["b", "a", "d", "c"], list(desk.steps()))

    def test_steps_of_entries_in_any_order(self):
        lines = ["formula p: 1", "formula q: 2", "equation x: x + q = p + 5", "web w 2 2", "formula a: x*w", "formula b: 9"]
        orders = [[0, 1, 2, 3, 4, 5], [5, 3, 1, 0, 2, 4], [1, 0, 2, 5, 3, 4]]
        found = [list(desk_of(*[lines[k] for k in order]).steps()) for order in orders]
        self.assertEqual([["w", "p", "q", "x", "a", "b"]] * 3, found)

    def test_character_codes(self):
        desk = desk_of("formula b: 1", "formula B: 1", "formula a1: 1", "formula aa: 1", "formula a: 1", "formula aB: 1")
        self.assertEqual(["B", "a", "a1", "aB", "aa", "b"], list(desk))
        self.assertEqual(["B", "a", "a1", "aB", "aa", "b"], list(desk.steps()))

    def test_a_long_chain(self):
        desk = desk_of("formula a19: 1", *[f"formula a{k}: a{k + 1} + 1" for k in range(18, -1, -1)])
        self.assertEqual([f"a{k}" for k in range(19, -1, -1)], list(desk.steps()))
        self.assertEqual("20", texts(desk)["a0"])


class AskingTest(DeskCase):
    def test_unknown_names(self):
        desk = desk_of("web a 2 2")
        for name in ("b", "A", "", "1x", "a " * 20):
            for call in (desk.__getitem__, desk.built, desk.form_of, desk.used_by, desk.drop):
                self.check_refused(UnknownName, {"name": name}, desk, call, name)
            self.assertIs(False, name in desk)
        self.assertIs(True, "a" in desk)

    def test_used_by(self):
        desk = desk_of("web a 2 2", "formula c: a", "formula b: a*a", "equation x: a*x = c", "formula d: x")
        self.assertEqual(("b", "c", "x"), desk.used_by("a"))
        self.assertEqual(("x",), desk.used_by("c"))
        self.assertEqual(("d",), desk.used_by("x"))
        self.assertEqual((), desk.used_by("d"))
        desk.set_equation("c", "c*a", "a")
        self.assertEqual(("b", "c", "x"), desk.used_by("a"))
        desk.set_formula("c", "3")
        self.assertEqual(("b", "x"), desk.used_by("a"))

    def test_form_of(self):
        desk = Desk("box")
        desk.set_web("a", ring(3))
        desk.set_formula("f", " ((a))*( a+2 )^3 ")
        desk.set_equation("x", "(x*a)+0", "a*(a)")
        self.assertEqual(f"web a 3 {code_of(ring(3))}", desk.form_of("a"))
        self.assertEqual("formula f: a*(a + 2)^3", desk.form_of("f"))
        self.assertEqual("equation x: x*a + 0 = a*a", desk.form_of("x"))
        desk.set_web("f", EMPTY)
        self.assertEqual("web f 0 0", desk.form_of("f"))
        great = sum_webs(*[full(9)] * 7)
        desk.set_web("g", great)
        self.assertEqual(f"web g 63 {code_of(great)}", desk.form_of("g"))

    def test_assignment(self):
        desk = Desk("box")
        desk["a"] = EDGE
        desk["f"] = "a^2 + 1"
        self.assertEqual(("web a 2 2", "formula f: a^2 + 1"), desk.journal)
        self.check_refused(Circular, {"name": "a"}, desk, desk.__setitem__, "a", "f")
        desk["f"] = ring(3)
        self.assertEqual("web f 3 26", desk.form_of("f"))

    def test_the_web_is_kept_as_it_is(self):
        web = product("box", EDGE, ring(3))
        for seed in range(3):
            other = moved(web, random_row(seed, 6))
            desk = Desk("box")
            desk.set_web("a", other)
            self.assertEqual(f"web a 6 {code_of(other)}", desk.form_of("a"))

    def test_iteration(self):
        desk = desk_of("formula b: 1", "formula a: b")
        self.assertEqual([("a", 1), ("b", 1)], [(name, desk[name].total) for name in desk])
        self.assertEqual(["a", "b"], sorted(desk))


class DropTest(DeskCase):
    def test_drop(self):
        desk = desk_of("web a 2 2", "formula f: a + 1", "formula g: 2")
        self.assertIsNone(desk.drop("f"))
        self.assertEqual({"a": "p0", "g": "2"}, texts(desk))
        self.assertEqual("drop f", desk.journal[-1])
        desk.drop("a")
        self.assertEqual(((), ("g",)), (desk.used_by("g"), tuple(desk)))
        desk.set_formula("a", "g")
        self.assertEqual({"a": "2", "g": "2"}, texts(desk))

    def test_names_in_use(self):
        desk = desk_of("web a 2 2", "formula f: a + 1", "equation x: x + a = f + a", "formula g: x")
        self.check_refused(NameInUse, {"name": "a", "users": ("f", "x")}, desk, desk.drop, "a")
        self.check_refused(NameInUse, {"name": "f", "users": ("x",)}, desk, desk.drop, "f")
        self.check_refused(NameInUse, {"name": "x", "users": ("g",)}, desk, desk.drop, "x")
        desk.drop("g")
        # The equation contains its own name, but does not depend on it.
        desk.drop("x")
        desk.drop("f")
        desk.drop("a")
        self.assertEqual([], list(desk))
        self.check_refused(UnknownName, {"name": "a"}, desk, desk.drop, "a")


class JournalTest(DeskCase):
    def test_lines(self):
        desk = Desk("box")
        desk.set_web("a", EDGE)
        desk.set_formula("b", "a+1")
        desk.set_web("a", ring(3))
        desk.set_equation("c", "c", "(a)")
        desk.drop("b")
        self.assertEqual(("web a 2 2", "formula b: a + 1", "web a 3 26", "equation c: c = a", "drop b"), desk.journal)
        self.assertIs(tuple, desk.journal.__class__)

    def test_refused_changes_have_no_line(self):
        desk = desk_of("formula a: 1")
        for call in (lambda: desk.drop("b"), lambda: desk.set_formula("a", "+"), lambda: desk.set_web("1", EDGE)):
            with self.assertRaises(WebError):
                call()
        self.assertEqual(("formula a: 1",), desk.journal)

    def test_the_journal_that_was_read_does_not_change(self):
        desk = desk_of("formula a: 1")
        before = desk.journal
        desk.set_formula("b", "2")
        self.assertEqual(("formula a: 1",), before)


if __name__ == "__main__":
    unittest.main()
