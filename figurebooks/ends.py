"""Where rows end, and from where on two rows are equal."""

from figurebooks.checks import check_bases
from figurebooks.kin import shortest
from figurebooks.spans import independent
from figurebooks.systems import united
from figurebooks.vectors import weighted_sum


def last_place(row):
    """Return the last place whose value is not 0, -1 if there is none, None if there is no last one."""
    return _last_place_of(row.book.system, row.coefficients)


def alike_from(row, other_row):
    """Return the least place from which on two rows are equal, None if there is none."""
    check_bases([row, other_row])
    system = united([row.book.system, other_row.book.system])
    last = _last_place_of(system, row.coefficients + [-number for number in other_row.coefficients])
    if last is None:
        return None
    return last + 1


def _last_place_of(system, weights):
    """Return the last place of the sum of the rows of a system with given weights."""
    told, multiples = shortest(system, weights)
    if not multiples:
        return -1
    depths = _parts_by_depth(told, multiples)
    if not all([_is_at_nought_alone(told, part) for part in depths[-1]]):
        return None
    place = 0
    values = told.starts
    for parts in reversed(depths[:-1]):
        figure = _last_figure(told, values, parts)
        place = told.base * place + figure
        values = told.stepped(values, figure)
    return place


def _parts_by_depth(system, weights):
    """Return, for each number of last figures taken away, few weights that make all parts of a row.

    The last number is one less than that of the rows. All kin of a row that ends do end, at as many
    last places as there are rows; and with a last place, it without its last figure is one, too. So
    all of these have at most so many figures, and the last parts are 0 behind place 0.
    """
    depths = [[weights]]
    for _ in range(len(weights) - 1):
        parts = [
            system.parted(part, figure) for part in depths[-1] for figure in range(system.base)
        ]
        depths.append(independent(parts))
    return depths


def _is_at_nought_alone(system, weights):
    """Tell whether a sum of the rows of a plain book is 0 behind place 0."""
    # The figure 0 must lead to the sum itself: then each figure ahead of noughts is read at the end.
    others = [system.parted(weights, figure) for figure in range(1, system.base)]
    return system.parted(weights, 0) == weights and not any([any(part) for part in others])


def _last_figure(system, values, parts):
    """Return the greatest figure behind which some part is not 0, with the values ahead of it."""
    return max([
        figure for figure in range(system.base)
        if any([weighted_sum(part, system.stepped(values, figure)) for part in parts])
    ])
