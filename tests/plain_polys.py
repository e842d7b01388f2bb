"""Slow but plain polynomials that the tests compare with those of the package.

A plain polynomial is a dict of counts by monomials; a monomial is a frozen set of pairs.
"""

import itertools
import random

from webnumbers.polys import Poly


def plain(terms):
    """Return the plain polynomial with the terms."""
    found = {}
    for count, monomial in terms:
        key = frozenset(monomial)
        found[key] = found.get(key, 0) + count
    return {key: count for key, count in found.items() if count}


def terms_of_plain(value):
    """Return the terms in descending order: first by the degree, then by the exponents of the primes 0, 1, 2 .."""
    many = 1 + max((number for key in value for number, _ in key), default=0)

    def place(key):
        row = [0] * many
        for number, exponent in key:
            row[number] = exponent
        return (sum(row), row)

    return tuple((value[key], tuple(sorted(key))) for key in sorted(value, key=place, reverse=True))


def plain_sum(first, second):
    return {key: first.get(key, 0) + second.get(key, 0) for key in [*first, *second]}


def plain_product(first, second):
    found = {}
    for one, other in itertools.product(first, second):
        exponents = {}
        for number, exponent in [*one, *other]:
            exponents[number] = exponents.get(number, 0) + exponent
        key = frozenset(exponents.items())
        found[key] = found.get(key, 0) + first[one] * second[other]
    return found


def plain_power(value, exponent):
    result = {frozenset(): 1}
    for _ in range(exponent):
        result = plain_product(result, value)
    return result


def random_poly(seed, most=5, primes=3, count=4, exponent=3):
    """Return a polynomial that the seed determines."""
    chooser = random.Random(seed)
    terms = []
    for _ in range(chooser.randint(0, most)):
        row = [chooser.randint(0, exponent) for _ in range(primes)]
        terms.append((chooser.randint(1, count), tuple((k, e) for k, e in enumerate(row) if e)))
    return Poly(terms)
