"""Where rows part, and which rows are alike for ever."""

from figurebooks.checks import check_bases
from figurebooks.comparing import compared


def parting(row, other_row):
    """Return the first place where two rows are unlike and their difference there, None if they are alike."""
    check_bases([row, other_row])
    places, lists = compared([row, other_row])
    for place, value, other_value in zip(places, lists[0], lists[1]):
        if value != other_value:
            return place, value - other_value
    return None


def are_alike(row, other_row):
    """Tell whether the values of two rows are equal at all places."""
    return parting(row, other_row) is None


def classes(rows):
    """Return the lists of the indices of alike rows, ascending, ordered by their first ones."""
    check_bases(rows)
    _, lists = compared(rows)
    alike = {}
    for index, values in enumerate(lists):
        alike.setdefault(tuple(values), []).append(index)
    return list(alike.values())
