"""Equations between polynomials with one unknown."""

from webnumbers.dividing import number_root
from webnumbers.errors import NoBound, TooLarge
from webnumbers.monomials import join_monomials, monomial_key, part_monomials, power_monomial, root_monomial
from webnumbers.polys import Poly
from webnumbers.terms import part_terms, power_number, subtract_terms

MAX_DEGREE = 4


def solve(coefficients, target):
    """Return the polynomial X for which c_0 + c_1 * X + c_2 * X ** 2 + .. equals the target, or None."""
    if len(coefficients) > MAX_DEGREE + 1:
        raise TooLarge(MAX_DEGREE)
    leads = [(k, c.lead) for k, c in enumerate(coefficients) if k > 0 and c.terms]
    if not leads:
        if coefficients[0].terms == target.terms:
            raise NoBound()
        return None
    left = what_is_left(coefficients, target, [])
    if not left:
        return None if left is None else Poly([])
    return solve_with(coefficients, target, leads, left[0])


def what_is_left(coefficients, target, found):
    """Return the terms of the target less the value for the terms found, or None if that is no polynomial."""
    unknown = Poly(found)
    value = Poly([])
    try:
        for coefficient in coefficients[::-1]:
            value = value * unknown + coefficient
    except TooLarge:
        return None
    return subtract_terms(target.terms, value.terms)


def solve_with(coefficients, target, leads, lead):
    """Return the solution other than 0, or None, where lead is the first term of the target less c_0."""
    first = first_term(leads, lead)
    if first is None:
        return None
    slope = slope_term(leads, lead, first)
    found = [first]
    left = what_is_left(coefficients, target, found)
    while left:
        term = part_terms(left[0], slope)
        if term is None or monomial_key(term[1]) >= monomial_key(found[-1][1]):
            return None
        found.append(term)
        left = what_is_left(coefficients, target, found)
    return None if left is None else Poly(found)


def first_term(leads, lead):
    """Return the first term of the unknown, or None."""
    for exponent, (_, monomial) in leads:
        part = part_monomials(lead[1], monomial)
        base = None if part is None else root_monomial(part, exponent)
        if base is not None and greatest_reached(leads, base) == lead[1]:
            count = number_root(reaching(leads, base, lead[1]), lead[0])
            return None if count is None else (count, base)
    return None


def reached_by(exponent, monomial, base):
    """Return the product of the monomial and the power of the base."""
    return join_monomials(monomial, power_monomial(base, exponent))


def greatest_reached(leads, base):
    """Return the greatest monomial of c_k * X ** k for all k, where the base is the first monomial of X."""
    return max([reached_by(exponent, term[1], base) for exponent, term in leads], key=monomial_key)


def reaching(leads, base, monomial):
    """Return the pairs of the exponent k and the first count of c_k for those c_k * X ** k that reach the monomial."""
    return [(exponent, term[0]) for exponent, term in leads if reached_by(exponent, term[1], base) == monomial]


def slope_term(leads, lead, first):
    """Return the first term of the sum of k * c_k * X ** (k - 1), where first is the first term of X."""
    count, base = first
    parts = reaching(leads, base, lead[1])
    slope = sum([k * factor * power_number(count, k - 1) for k, factor in parts])
    return (slope, part_monomials(lead[1], base))
