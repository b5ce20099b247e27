"""Where rows end, and from where on two rows are equal."""

from figurebooks.checks import check_bases
from figurebooks.kin import shortest
from figurebooks.spans import independent, taken_in
from figurebooks.systems import united
from figurebooks.vectors import weighted_sum


def last_place(row):
    """Return the last place whose value is not 0, -1 if there is none, None if there is no last one."""
    return _last_place_of(row.book.system, row.coefficients)


def alike_from(row, other_row):
    """Return the least place from which on two rows are equal, None if there is none."""
    check_bases([row, other_row])
    system = united([row.book.system, other_row.book.system])
    last = _last_place_of(system, row.coefficients + [-number for number in other_row.coefficients])
    if last is None:
        return None
    return last + 1


def _last_place_of(system, weights):
    """Return the last place of the sum of the rows of a system with given weights."""
    if any([weighted_sum(weights, values) for values in _values_far_out(system)]):
        return None
    told, multiples = shortest(system, weights)
    if not multiples:
        return -1
    place = 0
    values = told.starts
    for parts in reversed(_parts_by_depth(told, multiples)):
        figure = _last_figure(told, values, parts)
        place = told.base * place + figure
        values = told.stepped(values, figure)
    return place


def _values_far_out(system):
    """Return few lists whose sums of multiples are those of the values at places that are as great as may be."""
    figures = range(system.base)
    far = []
    level = [system.stepped(system.starts, figure) for figure in figures if figure > 0]
    while level:
        kept = [values for values in level if taken_in(values, far)]
        level = [system.stepped(values, figure) for values in kept for figure in figures]
    # These are of all places but 0. Of those with a figure more there are as many lists or less; where
    # there are as many, a figure more does not change what they make any more.
    count = len(far) + 1
    while len(far) < count:
        count = len(far)
        far = independent([system.stepped(values, figure) for values in far for figure in figures])
    return far


def _parts_by_depth(system, weights):
    """Return, for each number of last figures taken away, few weights that make all parts of a row that ends.

    There are as many numbers as figures that its last place can have. All kin of such a row end, at as
    many last places as the plain book has rows; and with a last place, it without its last figure is
    one, too. So with all places that lead to it, and with 0, there are no more than there are rows.
    """
    depths = [[weights]]
    for _ in range(len(weights) - 1):
        parts = [
            system.parted(part, figure) for part in depths[-1] for figure in range(system.base)
        ]
        depths.append(independent(parts))
    return depths[:-1]


def _last_figure(system, values, parts):
    """Return the greatest figure behind which some part is not 0, with the values ahead of it."""
    return max([
        figure for figure in range(system.base)
        if any([weighted_sum(part, system.stepped(values, figure)) for part in parts])
    ])
