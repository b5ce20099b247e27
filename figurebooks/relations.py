"""Relations of rows: the sums of their multiples that are always 0."""

from figurebooks.checks import check_bases
from figurebooks.comparing import compared
from figurebooks.lattices import widened
from figurebooks.vectors import unit_of


def relations(rows):
    """Return the plain lists of all lists whose products with the rows add up to 0 at all places."""
    check_bases(rows)
    places, lists = compared(rows)
    made = []
    for index, values in enumerate(lists):
        made = widened(made, values + unit_of(index, len(rows)))
    # Behind the values stand the multiples that make them: where all values are 0, these are a relation.
    return [told[len(places):] for told in made if not any(told[:len(places)])]
