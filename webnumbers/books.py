"""Books that number the primes of one kind."""

from webnumbers.boxes import box_factors
from webnumbers.directs import direct_factors
from webnumbers.errors import InvalidKind, NoOddRing, TooLarge
from webnumbers.monomials import monomial_of
from webnumbers.pieces import components, pieces, sides
from webnumbers.polys import Poly
from webnumbers.products import product_of, sum_webs
from webnumbers.renamings import MAX_RENAMED
from webnumbers.roots import is_same_sort
from webnumbers.strongs import strong_factors
from webnumbers.terms import check_primes, power_number
from webnumbers.webs import check_simple, check_size, induced

BOOK_KINDS = ("box", "strong", "direct")
# Each prime has at least two nodes, so a power with this exponent has too many nodes for a web.
GREAT_EXPONENT = 7


def check_readable(kind, web):
    """Raise the error of a web that has no polynomial of this kind."""
    if kind != "direct":
        check_simple(web)
        return
    for nodes in components(web):
        if sides(induced(web, nodes)) is not None:
            raise NoOddRing(nodes[0])


def factors_of(kind, web):
    """Return the prime factors of the connected web."""
    if kind == "box":
        return box_factors(web)
    if kind == "strong":
        return strong_factors(web)
    return direct_factors(web)


def check_prime(web):
    """Raise TooLarge if the web has too many nodes to be compared with primes."""
    if web[0] > MAX_RENAMED:
        raise TooLarge(MAX_RENAMED)


class PrimeBook:
    """The primes of one kind, numbered in the order in which they were read."""

    def __init__(self, kind):
        if kind not in BOOK_KINDS:
            raise InvalidKind(kind)
        self.kind = kind
        self._primes = []

    @property
    def primes(self):
        """Return the tuple of the primes by their numbers."""
        return tuple(self._primes)

    def __iter__(self):
        return iter(self._primes)

    def place_of(self, web):
        """Return the number of the prime that is of the same sort as the web, or None."""
        check_prime(web)
        for place, prime in enumerate(self._primes):
            if is_same_sort(prime, web):
                return place
        return None

    def read(self, web):
        """Return the polynomial of the web; primes that are not in the book yet receive the next numbers."""
        check_readable(self.kind, web)
        products = [factors_of(self.kind, piece) for piece in pieces(web)]
        for factors in products:
            for factor in factors:
                check_prime(factor)
        return Poly([(1, self._monomial_of(factors)) for factors in products])

    def _monomial_of(self, factors):
        """Return the product of the numbers of the factors."""
        exponents = {}
        for factor in factors:
            number = self._number_of(factor)
            exponents[number] = exponents.get(number, 0) + 1
        return monomial_of(exponents)

    def _number_of(self, factor):
        """Return the number of the factor, which is the next prime if the book has none of its sort."""
        place = self.place_of(factor)
        if place is None:
            self._primes.append(factor)
            return len(self._primes) - 1
        return place

    def build(self, poly):
        """Return the web of the polynomial."""
        check_primes(poly.terms, len(self._primes))
        check_size(sum([count * self._size_of(monomial) for count, monomial in poly.terms]))
        webs = []
        for count, monomial in poly.terms:
            factors = [self._primes[number] for number, exponent in monomial for _ in range(exponent)]
            webs.extend([product_of(self.kind, *factors)] * count)
        return sum_webs(*webs)

    def _size_of(self, monomial):
        """Return the number of nodes of the web of the monomial, or some other number that is too large."""
        size = 1
        for number, exponent in monomial:
            size = size * power_number(self._primes[number][0], min(exponent, GREAT_EXPONENT))
        return size
