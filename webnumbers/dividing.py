"""Roots of polynomials, and what divides all terms of a polynomial."""

from math import gcd

from webnumbers.errors import NoBound, NoRoot, TooLarge
from webnumbers.monomials import common_monomial, power_monomial, root_monomial
from webnumbers.polys import Poly
from webnumbers.terms import MAX_EXPONENT, part_terms, power_number, power_terms, subtract_terms


def root(poly, degree):
    """Return the polynomial whose power with the degree is the given one."""
    if degree > MAX_EXPONENT:
        raise TooLarge(MAX_EXPONENT)
    found = []
    left = poly.terms
    while left:
        term = next_root_term(found, left[0], degree)
        left = None
        if term is not None:
            found.append(term)
            left = left_by_power(poly.terms, found, degree)
        if left is None:
            raise NoRoot(degree)
    return Poly(found)


def next_root_term(found, lead, degree):
    """Return the term of the root that follows those found, where lead is the first term that they leave, or None."""
    if not found:
        return root_term(lead, degree)
    count, monomial = found[0]
    slope = degree * power_number(count, degree - 1)
    return part_terms(lead, (slope, power_monomial(monomial, degree - 1)))


def root_term(term, degree):
    """Return the term whose power with the degree is the given one, or None."""
    count = number_root([(degree, 1)], term[0])
    monomial = root_monomial(term[1], degree)
    if count is None or monomial is None:
        return None
    return (count, monomial)


def number_root(parts, goal):
    """Return the integer n from 1 on for which the sum of count * n ** exponent is the goal, or None.

    The parts are pairs of an exponent and a count, both from 1 on; so the sum grows with n.
    """
    low = 1
    high = 1 << (goal.bit_length() // min([exponent for exponent, _ in parts]) + 1)
    # The integer is at least low and less than high.
    while high - low > 1:
        middle = (low + high) // 2
        if sum_of_powers(parts, middle) > goal:
            high = middle
        else:
            low = middle
    return low if sum_of_powers(parts, low) == goal else None


def sum_of_powers(parts, number):
    """Return the sum of the counts times the powers of the number."""
    return sum([count * power_number(number, exponent) for exponent, count in parts])


def left_by_power(terms, found, degree):
    """Return what the power of the terms found leaves of the given terms, or None if it exceeds them."""
    try:
        power = power_terms(found, degree)
    except TooLarge:
        return None
    return subtract_terms(terms, power)


def scaled_split(poly):
    """Return the greatest integer and the greatest monomial that divide all terms, and the polynomial that is left."""
    if not poly.terms:
        raise NoBound()
    shared, monomial = poly.lead
    for count, other in poly.terms:
        shared = gcd(shared, count)
        monomial = common_monomial(monomial, other)
    rest = [part_terms(term, (shared, monomial)) for term in poly.terms]
    return (shared, monomial, Poly(rest))
