"""Repeats: how a row goes on when a block of figures is written again and again."""

from figurebooks.checks import check_number, check_positive
from figurebooks.errors import InvalidFigure
from figurebooks.spans import eliminated
from figurebooks.vectors import unit_of, weighted_sum


def repeated(row, head, block, times):
    """Return the value at the place with the figures of head and behind them, so many times, a block."""
    _check_figures(row, head, block)
    check_number(times)
    return _first_repeated(row, head, block, times + 1)[times]


def far_rest(row, head, block, times, modulus):
    """Return the remainder, by a modulus, of the value at a place as `repeated` takes it."""
    _check_figures(row, head, block)
    check_number(times)
    check_positive(modulus)
    system = row.book.system
    indices = range(len(row.coefficients))
    values = system.values_at(head)
    # What the block makes of the values of the rows is told by what it makes of 1 for one row alone.
    made = [system.read_on(unit_of(index, len(indices)), block) for index in indices]
    left = times
    while left > 0:
        if left % 2 == 1:
            values = _combined(made, values, modulus)
        made = [_combined(made, told, modulus) for told in made]
        left = left // 2
    return weighted_sum(row.coefficients, values) % modulus


def recurrence(row, head, block):
    """Return the shortest list by which the values for so many times make each following one."""
    _check_figures(row, head, block)
    count = len(row.coefficients)
    # As many values as there are rows tell how all of them go on, from any number of times on.
    values = _first_repeated(row, head, block, 2 * count)
    reduced = []
    while True:
        times = len(reduced)
        # Behind the values stand the multiples that make them: where all values are 0, these tell how
        # those from here on are made of the earlier ones.
        rest = eliminated(values[times:times + count] + unit_of(times, count + 1), reduced)
        if not any(rest[:count]):
            # Nothing is left over: where integers make each value, those of the shortest list are some, too.
            own = rest[count + times]
            return [-multiple // own for multiple in reversed(rest[count:count + times])]
        reduced.append(rest)


def _check_figures(row, head, block):
    """Raise an error for a negative head, then for a block without figures or with one that there is not."""
    check_number(head)
    if not block:
        raise InvalidFigure(None)
    for number, figure in enumerate(block):
        if not 0 <= figure < row.book.base:
            raise InvalidFigure(number)


def _first_repeated(row, head, block, number):
    """Return the list of the values of a row for the first numbers of times, so many."""
    system = row.book.system
    values = system.values_at(head)
    found = []
    for _ in range(number):
        found.append(weighted_sum(row.coefficients, values))
        values = system.read_on(values, block)
    return found


def _combined(made, values, modulus):
    """Return the sum of lists times the values at the same indices, by a modulus."""
    return [weighted_sum(line, values) % modulus for line in zip(*made)]
