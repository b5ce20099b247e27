"""Lattices: all sums of integer multiples of some lists of integers of one length.

A lattice is kept as its plain lists: at the front of each, its first number that is not 0, stands
one that is greater than 0, behind the front of the list above it; and the numbers above it in other
lists are from 0 to one less than it. A lattice has only one such list of lists.
"""

from figurebooks.vectors import front_of, lessened


def divided(values, lists):
    """Return the multiples of plain lists to take from values, and the rest, all 0 in the lattice."""
    multiples = []
    rest = list(values)
    for told in lists:
        front = front_of(told)
        multiple = rest[front] // told[front]
        multiples.append(multiple)
        rest = lessened(rest, multiple, told)
    return multiples, rest


def widened(lists, values):
    """Return the plain lists of the lattice of plain lists and one list more."""
    merged = []
    rest = list(values)
    for told in lists:
        front = front_of(told)
        if front_of(rest) == front:
            above, rest = _combined(told, rest, front)
            merged.append(above)
        else:
            merged.append(told)
    if any(rest):
        merged = sorted(merged + [rest], key=front_of)
    return _made_plain(merged)


def _combined(told, values, front):
    """Return two lists that make the same sums as two others, the second one with 0 at the front."""
    above, below = told, values
    while below[front] != 0:
        above, below = below, lessened(above, above[front] // below[front], below)
    return above, below


def _made_plain(lists):
    """Return the plain lists of a lattice from lists with ascending fronts."""
    plain_lists = []
    for told in reversed(lists):
        positive = told
        if told[front_of(told)] < 0:
            positive = [-value for value in told]
        _, rest = divided(positive, plain_lists)
        plain_lists = [rest] + plain_lists
    return plain_lists
