"""Identities: whether two expressions have the same value whatever their names stand for."""

from webnumbers.errors import TooLarge, UnknownName
from webnumbers.expressions import name_row, parse
from webnumbers.polys import Poly
from webnumbers.powers import map_row

MAX_NAMES = 3
MAX_TRIED = 6


def expand(tree, values):
    """Return the polynomial that the tree stands for if each name stands for its value."""
    for name in name_row(tree):
        if name not in values:
            raise UnknownName(name)
    return value_of_tree(tree, values)


def value_of_tree(tree, values):
    """Return the polynomial of the tree, in which all names have values."""
    if tree[0] == "number":
        return Poly.of_number(tree[1])
    if tree[0] == "name":
        return values[tree[1]]
    if tree[0] == "power":
        return value_of_tree(tree[1], values).power(tree[2])
    items = [value_of_tree(item, values) for item in tree[1]]
    result = items[0]
    for item in items[1:]:
        result = result + item if tree[0] == "sum" else result * item
    return result


def all_names(left, right):
    """Return the sorted list of the names in the two trees."""
    return sorted(set(name_row(left) + name_row(right)))


def expand_both(left, right):
    """Return the polynomials of the two trees if their names stand for different primes, in their order."""
    values = {name: Poly.of_prime(place) for place, name in enumerate(all_names(left, right))}
    first = expand(left, values)
    return (first, expand(right, values))


def identity_holds(left, right):
    """Tell whether the two texts stand for the same polynomial."""
    left_tree = parse(left)
    first, second = expand_both(left_tree, parse(right))
    return first.terms == second.terms


def counterexample(left, right):
    """Return the first numbers for the names that give the two texts different values, or None."""
    left_tree = parse(left)
    right_tree = parse(right)
    names = all_names(left_tree, right_tree)
    if len(names) > MAX_NAMES:
        raise TooLarge(MAX_NAMES)
    first, second = expand_both(left_tree, right_tree)
    greatest = greatest_exponent(first.terms + second.terms)
    if greatest > MAX_TRIED:
        raise TooLarge(MAX_TRIED)
    if first.terms == second.terms:
        return None
    return list(zip(names, first_difference(first, second, greatest + 1, len(names))))


def greatest_exponent(terms):
    """Return the greatest exponent of a single prime, 0 if there is none."""
    return max([exponent for _, monomial in terms for _, exponent in monomial], default=0)


def first_difference(first, second, base, length):
    """Return the first row of numbers less than the base for which the two polynomials have different values."""
    number = 0
    row = map_row(base, length, number)
    # Different polynomials in which all exponents are less than the base have different values for such a row.
    while first(row) == second(row):
        number += 1
        row = map_row(base, length, number)
    return row
