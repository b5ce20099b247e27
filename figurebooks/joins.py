"""Joins: rows that are made of other rows. All of them are plain."""

from figurebooks.checks import check_bases, check_number, check_positive
from figurebooks.errors import InvalidFigure, InvalidNumber
from figurebooks.forms import plain_of
from figurebooks.kin import shortest
from figurebooks.systems import System, shifted, united


def added(row, other_row):
    """Return the row of the sums of the values of two rows."""
    check_bases([row, other_row])
    system = united([row.book.system, other_row.book.system])
    return plain_of(system, row.coefficients + other_row.coefficients)


def scaled(row, number):
    """Return the row of the values of a row times a number."""
    return plain_of(row.book.system, [number * coefficient for coefficient in row.coefficients])


def product(row, other_row):
    """Return the row of the products of the values of two rows."""
    check_bases([row, other_row])
    system, weights = _short(row)
    other_system, other_weights = _short(other_row)
    starts = [start * other for start in system.starts for other in other_system.starts]
    steps = [
        [
            _product_terms(terms, other_terms, len(other_weights))
            for terms in step
            for other_terms in other_step
        ]
        for step, other_step in zip(system.steps, other_system.steps)
    ]
    return plain_of(System(starts, steps), [weight * other for weight in weights for other in other_weights])


def part(row, figure):
    """Return the row of the values of a row at the places that end with a figure."""
    if not 0 <= figure < row.book.base:
        raise InvalidFigure(figure)
    system = row.book.system
    return plain_of(system, system.parted(row.coefficients, figure))


def woven(rows):
    """Return the row whose part for each figure is the row with this index."""
    if not rows or len(rows) != rows[0].book.base:
        raise InvalidNumber(len(rows))
    check_bases(rows)
    shorts = [_short(row) for row in rows]
    system = united([told for told, _ in shorts])
    # Behind the rows that are woven stands the one that is woven of them.
    steps = []
    behind = 0
    for step, (_, weights) in zip(system.steps, shorts):
        terms = [(weight, behind + index) for index, weight in enumerate(weights)]
        steps.append(list(step) + [terms])
        behind += len(weights)
    return plain_of(System(list(system.starts) + [rows[0].value_at(0)], steps), [0] * behind + [1])


def thinned(row, factor, first):
    """Return the row whose value at place n is that of a row at place factor * n + first."""
    check_positive(factor)
    check_number(first)
    return _thinned(row, factor, first)


def moved(row, steps):
    """Return the row whose value at place n is that of a row at place n + steps."""
    check_number(steps)
    return _thinned(row, 1, steps)


def _short(row):
    """Return the system of the plain book of a row, and the multiples that make the row."""
    return shortest(row.book.system, row.coefficients)


def _product_terms(terms, other_terms, count):
    """Return the terms of the product of two rows; those with one row of the first stand together."""
    return [
        (coefficient * other_coefficient, index * count + other_index)
        for coefficient, index in terms
        for other_coefficient, other_index in other_terms
    ]


def _thinned(row, factor, first):
    """Return the row whose value at place n is that of a row at place factor * n + first."""
    system, weights = _short(row)
    carries = _carries(system.base, factor, first)
    starts = [start for carry in carries for start in system.values_at(carry)]
    steps = []
    for figure in range(system.base):
        # The place factor * (base * n + figure) + carry is base * (factor * n + next carry) + read figure.
        step = []
        for carry in carries:
            following, read = divmod(factor * figure + carry, system.base)
            step.extend(shifted(system.steps[read], carries.index(following) * len(weights)))
        steps.append(step)
    return plain_of(System(starts, steps), weights + [0] * (len(starts) - len(weights)))


def _carries(base, factor, first):
    """Return all that is ever carried to the figures ahead, the first place itself ahead of all."""
    carries = [first]
    done = 0
    while done < len(carries):
        for figure in range(base):
            following = (factor * figure + carries[done]) // base
            if following not in carries:
                carries.append(following)
        done += 1
    return carries
