"""The kin of a row: all sums of integer multiples of its parts."""

from figurebooks.lattices import divided, widened
from figurebooks.spans import spanning_places
from figurebooks.systems import System
from figurebooks.vectors import front_of, weighted_sum


class Kin:
    """The kin of the row of a system that has given weights.

    Each kin has a list: its values at the spanning places, which tell it, and behind them its weights.
    The first plain lists of the lattice of these lists are those of the rows of the plain book. Lists
    below them are those of weights of a row that is always 0.
    """

    def __init__(self, system, weights):
        """Gather the row, its parts, the parts of these and so on, until nothing new comes."""
        self._system = system
        self._places = spanning_places(system)
        self._values = [system.values_at(place) for place in self._places]
        self._lists = []
        waiting = [weights]
        while waiting:
            fresh = self._gathered(waiting)
            waiting = [
                system.parted(found, figure) for found in fresh for figure in range(system.base)
            ]
        self._nodes = self._found_nodes()

    def nodes(self):
        """Return the ascending list of the nodes."""
        return list(self._nodes)

    def plain_system(self):
        """Return the system of the rows of the plain book, in their sequence."""
        told = self._lists[:len(self._nodes)]
        # Where there is a node, the first spanning place is 0.
        starts = [values[0] for values in told]
        weights = [values[len(self._places):] for values in told]
        steps = [
            [self._terms_of(self._system.parted(own, figure)) for own in weights]
            for figure in range(self._system.base)
        ]
        return System(starts, steps)

    def multiples_of(self, weights):
        """Return the multiples of the rows of the plain book that make the kin with given weights."""
        multiples, _ = divided(self._list_of(weights), self._lists)
        return multiples[:len(self._nodes)]

    def _terms_of(self, weights):
        """Return the terms of the kin with given weights, without those that add nothing."""
        multiples = self.multiples_of(weights)
        return [(multiple, index) for index, multiple in enumerate(multiples) if multiple != 0]

    def _gathered(self, waiting):
        """Take in all of the weights that wait, and return new ones that make what was not known."""
        fresh = []
        for weights in waiting:
            # What remains is as good as the weights themselves, and does not grow from part to part.
            _, rest = divided(self._list_of(weights), self._lists)
            if any(rest):
                self._lists = widened(self._lists, rest)
                fresh.append(rest[len(self._places):])
        return fresh

    def _list_of(self, weights):
        """Return the list of the kin with given weights."""
        return [weighted_sum(weights, values) for values in self._values] + list(weights)

    def _found_nodes(self):
        """Return the spanning places at which a plain list has its front."""
        fronts = [front_of(told) for told in self._lists]
        return [self._places[front] for front in fronts if front < len(self._places)]


def shortest(system, weights):
    """Return the system of the rows of the plain book of a row, and the multiples that make the row."""
    kin = Kin(system, weights)
    return kin.plain_system(), kin.multiples_of(weights)
