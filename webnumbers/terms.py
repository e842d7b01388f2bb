"""Terms: the counts and monomials of which polynomials consist.

Functions whose names begin with `raw` do not check the limits of polynomials, which concern results only.
"""

from webnumbers.errors import InvalidPoly, NoBound, NotDivisible, TooLarge
from webnumbers.monomials import join_monomials, monomial_key, part_monomials, power_monomial

MAX_TERMS = 64
MAX_DIGITS = 120
MAX_EXPONENT = 64


def terms_of(counts):
    """Return the terms with the counts, a dict by monomials; counts of 0 are left out."""
    kept = [monomial for monomial in counts if counts[monomial]]
    return tuple([(counts[monomial], monomial) for monomial in sorted(kept, key=monomial_key, reverse=True)])


def is_long(number):
    """Tell whether the integer has more than MAX_DIGITS digits."""
    # Written as a string, a very long integer would be refused by Python.
    return number >= 10 ** 60 * 10 ** 60


def is_long_term(term):
    """Tell whether an integer of the term has more than MAX_DIGITS digits."""
    count, monomial = term
    return is_long(count) or any(is_long(number) or is_long(exponent) for number, exponent in monomial)


def checked_terms(terms):
    """Return the terms. Raise TooLarge if no polynomial may have them."""
    if len(terms) > MAX_TERMS:
        raise TooLarge(MAX_TERMS)
    if any(is_long_term(term) for term in terms):
        raise TooLarge(MAX_DIGITS)
    return terms


def raw_sum(first, second):
    """Return the terms of the sum, in which monomials may occur several times on either side."""
    counts = {}
    for count, monomial in [*first, *second]:
        counts[monomial] = counts.get(monomial, 0) + count
    return terms_of(counts)


def raw_product(first, second):
    """Return the terms of the product."""
    counts = {}
    for count, monomial in first:
        for other, factor in second:
            joined = join_monomials(monomial, factor)
            counts[joined] = counts.get(joined, 0) + count * other
    return terms_of(counts)


def add_terms(first, second):
    """Return the terms of the sum."""
    return checked_terms(raw_sum(first, second))


def multiply_terms(first, second):
    """Return the terms of the product."""
    return checked_terms(raw_product(first, second))


def subtract_terms(first, second):
    """Return the terms of the difference, or None if a count would be negative."""
    counts = {}
    for count, monomial in first:
        counts[monomial] = count
    for count, monomial in second:
        left = counts.get(monomial, 0) - count
        if left < 0:
            return None
        counts[monomial] = left
    return terms_of(counts)


def part_terms(first, second):
    """Return the first term divided by the second one, or None if the count or the monomial is not divisible."""
    if first[0] % second[0]:
        return None
    monomial = part_monomials(first[1], second[1])
    if monomial is None:
        return None
    return (first[0] // second[0], monomial)


def divide_terms(first, second):
    """Return the terms of the quotient."""
    if not first and not second:
        raise NoBound()
    found = []
    left = first
    while left:
        term = part_terms(left[0], second[0]) if second else None
        rest = None if term is None else subtract_terms(left, raw_product([term], second))
        if rest is None:
            raise NotDivisible(left[0][1])
        found.append(term)
        left = rest
    return checked_terms(tuple(found))


def power_number(number, exponent):
    """Return the power of the integer with an exponent that is at most MAX_EXPONENT."""
    result = 1
    for _ in range(exponent):
        result = result * number
    return result


def is_lasting(terms):
    """Tell whether all powers are within the limits of terms and counts: those of 0 and of a single monomial."""
    return not terms or (len(terms) == 1 and terms[0][0] == 1)


def power_terms(terms, exponent):
    """Return the terms of the power."""
    if terms and is_lasting(terms):
        return checked_terms(((1, power_monomial(terms[0][1], exponent)),))
    result = ((1, ()),)
    # All powers of 0 but the first one are equal.
    for _ in range(exponent if terms else min(exponent, 1)):
        result = raw_product(result, terms)
        # More factors never leave fewer terms, and too many terms count more than long integers.
        if len(result) > MAX_TERMS:
            raise TooLarge(MAX_TERMS)
    return checked_terms(result)


def check_primes(terms, many):
    """Raise InvalidPoly for the first term with a prime whose number is not less than many."""
    for place, (_, monomial) in enumerate(terms):
        if any(number >= many for number, _ in monomial):
            raise InvalidPoly(place)


def value_of_terms(terms, values):
    """Return the sum of the terms in which values[k] replaces the prime k."""
    check_primes(terms, len(values))
    if any(exponent > MAX_EXPONENT for _, monomial in terms for _, exponent in monomial):
        raise TooLarge(MAX_EXPONENT)
    return sum([value_of_term(term, values) for term in terms])


def value_of_term(term, values):
    """Return the value of one term."""
    result, monomial = term
    for number, exponent in monomial:
        result = result * power_number(values[number], exponent)
    return result


def written_term(term):
    """Return the text of the term."""
    count, monomial = term
    words = [f"p{number}" if exponent == 1 else f"p{number}^{exponent}" for number, exponent in monomial]
    if count != 1 or not words:
        words = [str(count), *words]
    return "*".join(words)
