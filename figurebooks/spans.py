"""The few places whose values tell all rows of a system, and the few lists that make many."""

from math import gcd

from figurebooks.vectors import front_of, lessened


def spanning_places(system):
    """Return, ascending, the places whose values are no sum of multiples of those at lesser places.

    The multiples may be fractions. A sum of rows that is 0 at all these places is always 0, and the
    first place where it is not 0 is one of them.
    """
    base = system.base
    places = []
    reduced = []
    level = [(0, system.starts)]
    while level:
        kept = []
        for place, values in level:
            if taken_in(values, reduced):
                kept.append((place, values))
        places.extend([place for place, _ in kept])
        # Where the values at n are made by those at lesser places, so are the ones at base * n + figure.
        level = [
            (base * place + figure, system.stepped(values, figure))
            for place, values in kept
            for figure in range(base)
            if base * place + figure > place
        ]
    return places


def independent(lists):
    """Return as few lists as can be of which all lists are sums of multiples, that may be fractions."""
    reduced = []
    for values in lists:
        taken_in(values, reduced)
    return reduced


def taken_in(values, reduced):
    """Add to lists what is new in values, if these are no sum of multiples; tell whether that is so."""
    # As many lists as there are numbers in each make all that there can be.
    if len(reduced) < len(values):
        rest = eliminated(values, reduced)
        if any(rest):
            reduced.append(rest)
            return True
    return False


def eliminated(values, reduced):
    """Return a multiple of values, less multiples of lists, that is 0 at the front of each list."""
    rest = list(values)
    for told in reduced:
        front = front_of(told)
        if rest[front] != 0:
            rest = lessened([told[front] * value for value in rest], rest[front], told)
            rest = _shortened(rest)
    return rest


def _shortened(values):
    """Return values divided by what divides them all, which keeps them from growing."""
    common = 0
    for value in values:
        common = gcd(common, value)
    if common == 0:
        return values
    return [value // common for value in values]
