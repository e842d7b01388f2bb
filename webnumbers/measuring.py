"""What the webs of polynomials measure, and webs that are divided by way of their polynomials."""

from webnumbers.dividing import root
from webnumbers.measures import join_measures, measure
from webnumbers.monomials import common_monomial
from webnumbers.pieces import check_connected
from webnumbers.polys import Poly
from webnumbers.products import unit
from webnumbers.terms import check_primes


def measure_poly(book, poly, modulus):
    """Return the numbers of nodes, of ties and of components of the web of the polynomial, modulo the modulus."""
    primes = book.primes
    check_primes(poly.terms, len(primes))
    nodes = 0
    ties = 0
    for count, monomial in poly.terms:
        together = measure(unit(book.kind))
        for number, exponent in monomial:
            part = power_measure(book.kind, measure(primes[number]), exponent, modulus)
            together = join_reduced(book.kind, together, part, modulus)
        nodes += count * together[0]
        ties += count * together[1]
    # The products of primes are connected, so each term counts as many components as its count tells.
    return (nodes % modulus, ties % modulus, poly.total % modulus)


def join_reduced(kind, first, second, modulus):
    """Return the measure of the product of two webs with the measures, modulo the modulus."""
    return tuple([number % modulus for number in join_measures(kind, first, second)])


def power_measure(kind, base, exponent, modulus):
    """Return the measure of the power of a web with the base as its measure, modulo the modulus."""
    result = measure(unit(kind))
    # The exponent may be long: its binary digits tell which squares belong to the power.
    while exponent:
        if exponent % 2:
            result = join_reduced(kind, result, base, modulus)
        base = join_reduced(kind, base, base, modulus)
        exponent = exponent // 2
    return result


def web_quotient(book, a, b):
    """Return a web whose product with b is of the same sort as a."""
    dividend = book.read(a)
    divisor = book.read(b)
    return book.build(dividend // divisor)


def web_root(book, web, degree):
    """Return a web whose power with the degree is of the same sort as the web."""
    return book.build(root(book.read(web), degree))


def common_factor(book, a, b):
    """Return the greatest web that divides both connected webs."""
    check_connected(a)
    check_connected(b)
    first = book.read(a)
    second = book.read(b)
    return book.build(Poly([(1, common_monomial(first.lead[1], second.lead[1]))]))
