"""Systems: any number of rows without names that are told by one another."""

from figurebooks.figures import figures_of


class System:
    """Rows told by their starts and, for each last figure, by terms. A system never changes."""

    def __init__(self, starts, steps):
        """Make a system; `steps[figure][index]` is the list of the terms (coefficient, index) of a row."""
        self._starts = tuple(starts)
        self._steps = tuple([tuple([tuple(terms) for terms in step]) for step in steps])

    @property
    def starts(self):
        """The tuple of the values at place 0."""
        return self._starts

    @property
    def steps(self):
        """The tuple of the terms for each figure, each a tuple of the terms of each row."""
        return self._steps

    @property
    def base(self):
        """The base of the places."""
        return len(self._steps)

    def stepped(self, values, figure):
        """Return the values of the rows at place base * n + figure from those at place n."""
        return [
            sum([coefficient * values[index] for coefficient, index in terms])
            for terms in self._steps[figure]
        ]

    def read_on(self, values, figures):
        """Return the values of the rows at a place, with some figures more, from those without these."""
        for figure in figures:
            values = self.stepped(values, figure)
        return values

    def values_at(self, place):
        """Return the values of the rows at a place."""
        return self.read_on(list(self._starts), figures_of(place, len(self._steps)))

    def parted(self, weights, figure):
        """Return the weights of the part, for a last figure, of the sum of the rows with given weights."""
        parts = [0] * len(weights)
        for weight, terms in zip(weights, self._steps[figure]):
            for coefficient, index in terms:
                parts[index] += weight * coefficient
        return parts


def united(systems):
    """Return one system with the rows of several ones of one base, in their sequence."""
    starts = []
    moved = []
    for system in systems:
        moved.append([shifted(step, len(starts)) for step in system.steps])
        starts.extend(list(system.starts))
    return System(starts, [[terms for step in parts for terms in step] for parts in zip(*moved)])


def shifted(step, distance):
    """Return the terms of rows with all indices moved on."""
    return [[(coefficient, index + distance) for coefficient, index in terms] for terms in step]
