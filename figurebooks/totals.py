"""Totals: the sums of the values of a row over stretches of places."""

from figurebooks.checks import check_number
from figurebooks.errors import InvalidStretch
from figurebooks.forms import plain_of
from figurebooks.systems import System
from figurebooks.vectors import weighted_sum


def total_between(row, low, high):
    """Return the sum of the values of a row at the places from low to high."""
    check_number(low)
    if high < low:
        raise InvalidStretch((low, high))
    system = _with_totals(row.book.system)
    weights = _total_weights(row)
    above = weighted_sum(weights, system.values_at(high + 1))
    return above - weighted_sum(weights, system.values_at(low))


def totals_of(row):
    """Return the plain row whose value at each place is the sum of the values at all lesser places."""
    return plain_of(_with_totals(row.book.system), _total_weights(row))


def _with_totals(system):
    """Return a system with the rows of another one, and behind them their totals at lesser places."""
    indices = range(len(system.starts))
    steps = []
    for figure, step in enumerate(system.steps):
        steps.append(list(step) + [_total_terms(system, index, figure) for index in indices])
    return System(list(system.starts) + [0] * len(system.starts), steps)


def _total_terms(system, index, figure):
    """Return the terms, for a last figure, of the total of a row at lesser places."""
    # The places below base * n + figure are those of lesser n with any figure, and n with a lesser figure.
    count = len(system.starts)
    lesser = [
        (coefficient, count + other) for step in system.steps for coefficient, other in step[index]
    ]
    return lesser + [term for step in system.steps[:figure] for term in step[index]]


def _total_weights(row):
    """Return the weights of the total of a row in the system with totals of its book."""
    return [0] * len(row.coefficients) + row.coefficients
