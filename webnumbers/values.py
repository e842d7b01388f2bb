"""Which entries of a desk depend on others, and the values of all entries."""


def needed_by(entries, name):
    """Return the ascending list of the names on which the entry with the name depends directly."""
    return sorted(set(entries[name].needed_names(name)))


def users_of(entries, name):
    """Return the ascending tuple of the names whose entries depend directly on the name."""
    return tuple([other for other in sorted(entries) if name in entries[other].needed_names(other)])


def depends_on_itself(entries, name):
    """Tell whether the entry with the name depends on the name."""
    reached = needed_by(entries, name)
    place = 0
    while place < len(reached):
        reached.extend([other for other in needed_by(entries, reached[place]) if other not in reached])
        place += 1
    return name in reached


def names_in_order(entries):
    """Return the list of the names in the order in which their values are computed."""
    found = []
    for name in sorted(entries):
        add_in_order(entries, name, found)
    return found


def add_in_order(entries, name, found):
    """Append to the names found those on which the name depends, and then the name, unless they are there."""
    if name in found:
        return
    for other in needed_by(entries, name):
        add_in_order(entries, other, found)
    found.append(name)


def values_of(entries, prime):
    """Return the values of all entries; the number of the prime is not used in any of them."""
    values = {}
    for name in names_in_order(entries):
        entry = entries[name]
        if any(values[other] is None for other in entry.needed_names(name)):
            values[name] = None
        else:
            values[name] = entry.evaluate(name, values, prime)
    return values
