"""Books: a base and named rows, told by one formula for each last figure of a place."""

from figurebooks.checks import check_base, is_letter
from figurebooks.errors import InvalidFormula, InvalidName, Unsound
from figurebooks.systems import System


class Book:
    """A base and named rows of integers. A book never changes."""

    def __init__(self, base, rows):
        """Make a book of a list of tuples (name, start, formulas), after the Book check."""
        check_base(base)
        _check_names(rows)
        _check_formulas(base, rows)
        _check_starts(rows)
        self._base = base
        self._names = [name for name, _, _ in rows]
        self._starts = [start for _, start, _ in rows]
        self._formulas = [_copied(formulas) for _, _, formulas in rows]
        self._system = System(
            self._starts,
            [_step_of(self._names, self._formulas, figure) for figure in range(base)],
        )

    @property
    def base(self):
        """The base, 2, 3 or 4."""
        return self._base

    @property
    def names(self):
        """The names of the named rows, in their sequence."""
        return list(self._names)

    @property
    def system(self):
        """The named rows without their names, in their sequence."""
        return self._system

    def index_of(self, name):
        """Return where a named row stands among the named rows."""
        if name not in self._names:
            raise InvalidName(name)
        return self._names.index(name)

    def start_of(self, name):
        """Return the value of a named row at place 0."""
        return self._starts[self.index_of(name)]

    def formulas_of(self, name):
        """Return the formulas of a named row, as they were passed."""
        return _copied(self._formulas[self.index_of(name)])

    def __eq__(self, other):
        return (
            isinstance(other, Book)
            and self._base == other._base
            and self._names == other._names
            and self._starts == other._starts
            and self._formulas == other._formulas
        )


def _check_names(rows):
    """Raise `InvalidName(name)` for the first name that is no letter or occurred before."""
    earlier = []
    for name, _, _ in rows:
        if not is_letter(name) or name in earlier:
            raise InvalidName(name)
        earlier.append(name)


def _check_formulas(base, rows):
    """Raise `InvalidFormula(name)` for the first row with formulas that cannot be used."""
    names = [name for name, _, _ in rows]
    for name, _, formulas in rows:
        if len(formulas) != base or not _are_known(formulas, names):
            raise InvalidFormula(name)


def _are_known(formulas, names):
    """Tell whether formulas refer only to the given names."""
    return all([name in names for terms in formulas for _, name in terms])


def _check_starts(rows):
    """Raise `Unsound(name)` for the first row whose start its formula does not make."""
    # Place 0 is base * 0 + 0, so the formula for the figure 0 must lead from the starts to the starts.
    starts = {name: start for name, start, _ in rows}
    for name, start, formulas in rows:
        if start != sum([coefficient * starts[other] for coefficient, other in formulas[0]]):
            raise Unsound(name)


def _copied(formulas):
    """Return a new list of new lists of the same terms."""
    return [list(terms) for terms in formulas]


def _step_of(names, formulas, figure):
    """Return for each row its terms for a figure, with indices of the names in place of the names."""
    return [
        [(coefficient, names.index(name)) for coefficient, name in parts[figure]]
        for parts in formulas
    ]
