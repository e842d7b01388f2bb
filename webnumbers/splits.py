"""Splits: polynomials as products of two or more polynomials."""

from webnumbers.errors import NoBound, NotDivisible, TooLarge
from webnumbers.monomials import monomial_key
from webnumbers.polys import Poly
from webnumbers.terms import divide_terms

MAX_TOTAL = 8
MAX_HEIGHT = 6
ONE_TERMS = ((1, ()),)


def check_split(p):
    """Raise the error of a polynomial whose splits are not asked for."""
    if not p.terms:
        raise NoBound()
    if p.total > MAX_TOTAL:
        raise TooLarge(MAX_TOTAL)
    if p.height > MAX_HEIGHT:
        raise TooLarge(MAX_HEIGHT)


def splits(p):
    """Return the list of the pairs of polynomials other than 1 whose product is the given one."""
    check_split(p)
    found = {}
    for divisor in small_divisors(p.terms):
        quotient = quotient_terms(p.terms, divisor)
        if quotient is not None and ONE_TERMS not in (divisor, quotient):
            found[(min(divisor, quotient), max(divisor, quotient))] = True
    return [(Poly(q), Poly(r)) for q, r in sorted(found)]


def small_divisors(terms):
    """Return terms with the total 1 or 2, among them all that divide the terms."""
    # The first and the last term of a product are the products of the first and of the last terms.
    firsts = monomial_divisors(terms[0][1])
    lasts = monomial_divisors(terms[-1][1])
    shared = [monomial for monomial in firsts if monomial in lasts]
    singles = [((count, monomial),) for count in (1, 2) for monomial in shared]
    pairs = [(first, last) for first in firsts for last in lasts if monomial_key(first) > monomial_key(last)]
    return singles + [((1, first), (1, last)) for first, last in pairs]


def monomial_divisors(monomial):
    """Return the list of all monomials that divide the monomial."""
    found = [()]
    for number, exponent in monomial:
        found = [(*part, (number, k)) if k else part for part in found for k in range(exponent + 1)]
    return found


def quotient_terms(first, second):
    """Return the terms of the quotient, or None."""
    try:
        return divide_terms(first, second)
    except NotDivisible:
        return None


def full_splits(p):
    """Return the list of all lists of polynomials without splits whose product is the given one."""
    return [[Poly(terms) for terms in row] for row in full_rows(p, {})]


def full_rows(p, known):
    """Return the ascending list of the full splits as tuples of terms; known holds those that were found before."""
    if p.terms == ONE_TERMS:
        return [()]
    if p.terms not in known:
        pairs = splits(p)
        rows = [joined for q, r in pairs for joined in joined_rows(full_rows(q, known), full_rows(r, known))]
        known[p.terms] = sorted(set(rows)) if pairs else [(p.terms,)]
    return known[p.terms]


def joined_rows(first, second):
    """Return the rows that have the entries of a row of the first and of a row of the second list, ascending."""
    return [tuple(sorted(row + other)) for row in first for other in second]


def web_splits(book, web):
    """Return the list of the pairs of webs that the book builds for the splits of the web's polynomial."""
    pairs = splits(book.read(web))
    return [(book.build(q), book.build(r)) for q, r in pairs]
