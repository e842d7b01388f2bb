"""The prime factors of direct products."""

from math import gcd

from webnumbers.boxes import box_coordinates
from webnumbers.groups import check_odd, direct_groups, mixed_row
from webnumbers.shapes import full_with_loops
from webnumbers.skeletons import skeleton
from webnumbers.twins import blown_up, thin, twin_classes
from webnumbers.webs import image


def common_divisor(numbers):
    """Return the greatest common divisor of the numbers, 0 for none."""
    result = 0
    for number in numbers:
        result = gcd(result, number)
    return result


def prime_divisors(number):
    """Return the ascending list of the prime numbers whose product is the number."""
    found = []
    divisor = 2
    while number > 1:
        if number % divisor:
            divisor += 1
        else:
            found.append(divisor)
            number = number // divisor
    return found


def full_part(web):
    """Return the greatest common divisor of the sizes of the twin classes."""
    check_odd(web)
    return common_divisor(thin(web)[1])


def group_facts(web):
    """Return for each group the row of the places of the classes of twins and the row of the counts of the places."""
    groups = direct_groups(web)
    thinned, sizes = thin(web)
    coordinates = box_coordinates(skeleton(thinned))
    shared = common_divisor(sizes)
    facts = []
    for group in groups:
        row = mixed_row(coordinates, group)
        # The nodes that the row contains are those that it leaves where they are.
        layer = sorted(set(row))
        places = [layer.index(node) for node in row]
        facts.append((places, place_counts(places, sizes, len(layer), shared)))
    return facts


def place_counts(places, sizes, many, shared):
    """Return the counts of the places: the common divisors of their sizes, divided by the one that all sizes share."""
    counts = [0] * many
    for place, size in zip(places, sizes):
        counts[place] = gcd(counts[place], size)
    return tuple([count // shared for count in counts])


def direct_factors(web):
    """Return the prime factors of the web, first those that are full webs with loops."""
    facts = group_facts(web)
    thinned, sizes = thin(web)
    factors = [full_with_loops(number) for number in prime_divisors(common_divisor(sizes))]
    for places, counts in facts:
        factors.append(blown_up(image(thinned, places, len(counts)), counts))
    return factors


def direct_coordinates(web):
    """Return the tuples of the coordinates of all nodes."""
    facts = group_facts(web)
    primes = prime_divisors(full_part(web))
    found = [()] * web[0]
    for place, nodes in enumerate(twin_classes(web)):
        chosen = [(counts, places[place]) for places, counts in facts]
        # A full web is like a group with one place only.
        columns = [((number,), 0) for number in primes] + chosen
        for rank, node in enumerate(nodes):
            found[node] = entries_of(columns, rank)
    return found


def entries_of(columns, rank):
    """Return the coordinates of the node with the rank among its twins.

    A column is the row of the counts of a factor and the place that the twins have in it.
    """
    entries = []
    for counts, place in columns[::-1]:
        entries.append(sum(counts[:place]) + rank % counts[place])
        rank = rank // counts[place]
    return tuple(entries[::-1])


def is_direct_prime(web):
    """Tell whether the web has exactly one prime factor."""
    return len(direct_factors(web)) == 1
