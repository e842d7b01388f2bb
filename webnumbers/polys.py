"""Polynomials of primes."""

from webnumbers.errors import InvalidPoly, TooLarge
from webnumbers.monomials import is_monomial, monomial_degree
from webnumbers.terms import (
    add_terms,
    checked_terms,
    divide_terms,
    is_lasting,
    multiply_terms,
    power_terms,
    raw_sum,
    value_of_terms,
    written_term,
)


def check_entries(entries):
    """Raise InvalidPoly for the first entry with a negative count or without a monomial."""
    for place, (count, monomial) in enumerate(entries):
        if count < 0 or not is_monomial(monomial):
            raise InvalidPoly(place)


def terms_in(value):
    """Return the terms of the operand, a polynomial or an integer."""
    if isinstance(value, int):
        return Poly.of_number(value).terms
    return value.terms


class Poly:
    """A polynomial: a tuple of terms with different monomials, in descending order."""

    MAX_POWER = 16

    def __init__(self, terms):
        check_entries(terms)
        self.terms = checked_terms(raw_sum(terms, ()))

    @staticmethod
    def of_number(number):
        """Return the polynomial that is the integer."""
        return Poly([(number, ())])

    @staticmethod
    def of_prime(number):
        """Return the polynomial that is the prime with the number."""
        return Poly([(1, ((number, 1),))])

    @property
    def total(self):
        """Return the sum of the counts."""
        return sum([count for count, _ in self.terms])

    @property
    def height(self):
        """Return the greatest degree of a monomial, 0 for the polynomial 0."""
        return max([monomial_degree(monomial) for _, monomial in self.terms], default=0)

    @property
    def lead(self):
        """Return the first term, None for the polynomial 0."""
        return self.terms[0] if self.terms else None

    def __add__(self, other):
        return Poly(add_terms(self.terms, terms_in(other)))

    def __radd__(self, other):
        return Poly(add_terms(terms_in(other), self.terms))

    def __mul__(self, other):
        return Poly(multiply_terms(self.terms, terms_in(other)))

    def __rmul__(self, other):
        return Poly(multiply_terms(terms_in(other), self.terms))

    def __floordiv__(self, other):
        return Poly(divide_terms(self.terms, other.terms))

    def __pow__(self, other):
        return self.power(other)

    def power(self, exponent):
        """Return the power with the exponent, which is 0 or more."""
        if exponent > self.MAX_POWER and not is_lasting(self.terms):
            raise TooLarge(self.MAX_POWER)
        return Poly(power_terms(self.terms, exponent))

    def __call__(self, values):
        """Return the value of the polynomial if values[k] replaces the prime k."""
        return value_of_terms(self.terms, values)

    def __str__(self):
        if not self.terms:
            return "0"
        return " + ".join([written_term(term) for term in self.terms])
