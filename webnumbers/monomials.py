"""Monomials: products of primes, written as the ascending pairs of their numbers and exponents."""


def is_monomial(value):
    """Tell whether the value, which may be of any kind, is a monomial."""
    if not isinstance(value, tuple):
        return False
    latest = -1
    for pair in value:
        if not is_number_pair(pair) or pair[0] <= latest or pair[1] < 1:
            return False
        latest = pair[0]
    return True


def is_number_pair(value):
    """Tell whether the value is a tuple of two integers."""
    if not isinstance(value, tuple) or len(value) != 2:
        return False
    return isinstance(value[0], int) and isinstance(value[1], int)


def monomial_of(exponents):
    """Return the monomial with the exponents, a dict by the numbers of the primes; exponents of 0 are left out."""
    return tuple([(number, exponents[number]) for number in sorted(exponents) if exponents[number]])


def join_monomials(first, second):
    """Return the product of two monomials."""
    exponents = dict(first)
    for number, exponent in second:
        exponents[number] = exponents.get(number, 0) + exponent
    return monomial_of(exponents)


def part_monomials(first, second):
    """Return the first monomial divided by the second one, or None."""
    exponents = dict(first)
    for number, exponent in second:
        left = exponents.get(number, 0) - exponent
        if left < 0:
            return None
        exponents[number] = left
    return monomial_of(exponents)


def root_monomial(monomial, degree):
    """Return the monomial whose power with the degree is the given one, or None."""
    if any(exponent % degree for _, exponent in monomial):
        return None
    return tuple([(number, exponent // degree) for number, exponent in monomial])


def power_monomial(monomial, exponent):
    """Return the power of the monomial."""
    return monomial_of({number: inner * exponent for number, inner in monomial})


def common_monomial(first, second):
    """Return the greatest monomial that divides both."""
    exponents = dict(second)
    return monomial_of({number: min(exponent, exponents.get(number, 0)) for number, exponent in first})


def monomial_degree(monomial):
    """Return the sum of the exponents."""
    return sum([exponent for _, exponent in monomial])


def monomial_key(monomial):
    """Return the tuple by which monomials are ordered."""
    return (monomial_degree(monomial), tuple([(-number, exponent) for number, exponent in monomial]))
