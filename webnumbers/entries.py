"""The entries of a desk: webs, formulas and equations."""

from webnumbers.codes import code_of
from webnumbers.equations import MAX_DEGREE, solve
from webnumbers.errors import NoBound, TooLarge
from webnumbers.expressions import name_row, write_tree
from webnumbers.identities import expand
from webnumbers.polys import Poly


class WebEntry:
    """A web, with the polynomial that the book of the desk has read."""

    def __init__(self, web, poly):
        self.web = web
        self.poly = poly

    def needed_names(self, name):
        """Return the names on which the entry with the name depends directly, from left to right."""
        return []

    def evaluate(self, name, values, prime):
        """Return the value of the entry with the name; values are those of other names, and the prime is a new one."""
        return self.poly

    def written(self, name):
        """Return the line that gives the name this entry."""
        return f"web {name} {self.web[0]} {code_of(self.web)}"


class FormulaEntry:
    """The tree of an expression."""

    def __init__(self, tree):
        self.tree = tree

    def needed_names(self, name):
        """Return the names on which the entry with the name depends directly, from left to right."""
        return name_row(self.tree)

    def evaluate(self, name, values, prime):
        """Return the value of the entry with the name; values are those of other names, and the prime is a new one."""
        return expand(self.tree, values)

    def written(self, name):
        """Return the line that gives the name this entry."""
        return f"formula {name}: {write_tree(self.tree)}"


class EquationEntry:
    """Two trees; the name of the entry is the unknown in the left one."""

    def __init__(self, left, right):
        self.left = left
        self.right = right

    def needed_names(self, name):
        """Return the names on which the entry with the name depends directly, from left to right."""
        return [other for other in name_row(self.left) if other != name] + name_row(self.right)

    def evaluate(self, name, values, prime):
        """Return the value of the entry with the name; values are those of other names, and the prime is a new one."""
        left = expand(self.left, {**values, name: Poly.of_prime(prime)})
        coefficients = coefficients_in(left, prime)
        target = expand(self.right, values)
        try:
            return solve(coefficients, target)
        except NoBound:
            return None

    def written(self, name):
        """Return the line that gives the name this entry."""
        return f"equation {name}: {write_tree(self.left)} = {write_tree(self.right)}"


def coefficients_in(poly, prime):
    """Return the polynomials by which the powers of the prime, from 0 on, are multiplied in the polynomial."""
    rows = [[] for _ in range(MAX_DEGREE + 1)]
    for count, monomial in poly.terms:
        exponent = sum([inner for number, inner in monomial if number == prime])
        if exponent > MAX_DEGREE:
            raise TooLarge(MAX_DEGREE)
        rows[exponent].append((count, tuple([pair for pair in monomial if pair[0] != prime])))
    return [Poly(row) for row in rows]
