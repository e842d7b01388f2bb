"""Points 100 to 102: monomials."""

import itertools
import random
import unittest

from webnumbers.monomials import (
    common_monomial, is_monomial, join_monomials, monomial_key, part_monomials, root_monomial,
)

GREAT = 10 ** 119


def every_monomial(primes, limit):
    """Return all monomials of the first primes with exponents up to the limit."""
    rows = itertools.product(range(limit + 1), repeat=primes)
    return [tuple((k, e) for k, e in enumerate(row) if e) for row in rows]


def exponents(monomial, many=6):
    row = [0] * many
    for number, exponent in monomial:
        row[number] = exponent
    return row


def of_row(row):
    return tuple((k, e) for k, e in enumerate(row) if e)


MONOMIALS = every_monomial(3, 2) + [((1, 4),), ((0, 6), (3, 2)), ((2, 1), (5, 12)), ((4, 1),)]


class IsMonomialTest(unittest.TestCase):
    def test_monomials(self):
        for value in MONOMIALS + [(), ((0, 1),), ((GREAT, GREAT),), ((0, 1), (1, 1), (2, 1)), ((3, 1), (7, 2))]:
            self.assertIs(True, is_monomial(value))
        self.assertIs(True, is_monomial(tuple((k, 1) for k in range(500))))

    def test_values_of_other_kinds(self):
        for value in (None, 0, 1, -5, GREAT, "", "p0", "ab", b"ab", 0.5, [], {}, set(), [(0, 1)], {0: 1}, object,
                      range(2), frozenset()):
            self.assertIs(False, is_monomial(value))

    def test_entries_that_are_no_pairs(self):
        for entry in (None, 0, "ab", "", [0, 1], (), (0,), (0, 1, 2), ((0, 1),), ((0, 1), (1, 1)), {0: 1}, range(2)):
            self.assertIs(False, is_monomial((entry,)))
            self.assertIs(False, is_monomial(((0, 1), entry)))
            self.assertIs(False, is_monomial((entry, (7, 1))))

    def test_pairs_without_two_integers(self):
        for pair in ((0, None), (None, 1), ("0", 1), (0, "1"), (0.0, 1), (0, 1.0), ((0,), 1), (0, (1,)), ([0], 1)):
            self.assertIs(False, is_monomial((pair,)))
            self.assertIs(False, is_monomial(((0, 1), pair)))

    def test_numbers_ascend(self):
        self.assertIs(False, is_monomial(((1, 1), (0, 1))))
        self.assertIs(False, is_monomial(((1, 1), (1, 1))))
        self.assertIs(False, is_monomial(((0, 1), (2, 1), (1, 1))))
        self.assertIs(False, is_monomial(((0, 1), (2, 1), (2, 3))))
        self.assertIs(False, is_monomial(((-1, 1),)))
        self.assertIs(False, is_monomial(((-2, 1), (3, 1))))

    def test_exponents_are_at_least_one(self):
        for exponent in (0, -1, -GREAT):
            self.assertIs(False, is_monomial(((0, exponent),)))
            self.assertIs(False, is_monomial(((0, 1), (1, exponent))))


class CalculatingTest(unittest.TestCase):
    def test_join(self):
        for a, b in itertools.product(MONOMIALS, MONOMIALS):
            expected = of_row([x + y for x, y in zip(exponents(a), exponents(b))])
            self.assertEqual(expected, join_monomials(a, b))
            self.assertIs(tuple, join_monomials(a, b).__class__)

    def test_part(self):
        for a, b in itertools.product(MONOMIALS, MONOMIALS):
            row = [x - y for x, y in zip(exponents(a), exponents(b))]
            self.assertEqual(None if min(row) < 0 else of_row(row), part_monomials(a, b))
            self.assertEqual(a, part_monomials(join_monomials(a, b), b))
        self.assertEqual((), part_monomials(((0, 3),), ((0, 3),)))
        self.assertEqual(((1, 2),), part_monomials(((0, 3), (1, 4)), ((0, 3), (1, 2))))
        self.assertIsNone(part_monomials((), ((9, 1),)))

    def test_root(self):
        for monomial in MONOMIALS:
            for degree in range(1, 8):
                row = exponents(monomial)
                found = None if any(e % degree for e in row) else of_row([e // degree for e in row])
                self.assertEqual(found, root_monomial(monomial, degree))
        self.assertEqual((), root_monomial((), 10 ** 30))
        self.assertEqual(((2, 3),), root_monomial(((2, 3 * GREAT),), GREAT))
        self.assertIsNone(root_monomial(((0, 4), (1, 6)), 4))

    def test_common(self):
        for a, b in itertools.product(MONOMIALS, MONOMIALS):
            expected = of_row([min(x, y) for x, y in zip(exponents(a), exponents(b))])
            self.assertEqual(expected, common_monomial(a, b))

    def test_great_integers(self):
        one = ((3, GREAT), (GREAT, 5))
        self.assertEqual(((3, 2 * GREAT), (GREAT, 10)), join_monomials(one, one))
        self.assertEqual((), part_monomials(one, one))
        self.assertEqual(((GREAT, 2),), common_monomial(one, ((4, 1), (GREAT, 2))))

    def test_results_are_monomials(self):
        for a, b in itertools.product(MONOMIALS, MONOMIALS):
            for value in (join_monomials(a, b), common_monomial(a, b), part_monomials(join_monomials(a, b), a)):
                self.assertTrue(is_monomial(value))


class OrderTest(unittest.TestCase):
    def test_keys(self):
        self.assertEqual((0, ()), monomial_key(()))
        self.assertEqual((5, ((0, 2), (-3, 3))), monomial_key(((0, 2), (3, 3))))
        self.assertEqual((GREAT, ((-7, GREAT),)), monomial_key(((7, GREAT),)))

    def test_the_order(self):
        # First the degree, then the exponents of the primes 0, 1, 2 and so on decide.
        def plain_key(monomial):
            return (sum(exponents(monomial)), exponents(monomial))

        shuffled = list(MONOMIALS)
        random.Random(5).shuffle(shuffled)
        self.assertEqual(sorted(shuffled, key=plain_key), sorted(shuffled, key=monomial_key))

    def test_multiplying_keeps_the_order(self):
        for a, b, c in itertools.product(every_monomial(2, 2), every_monomial(2, 2), MONOMIALS):
            before = monomial_key(a) < monomial_key(b)
            after = monomial_key(join_monomials(a, c)) < monomial_key(join_monomials(b, c))
            self.assertEqual(before, after)


if __name__ == "__main__":
    unittest.main()
