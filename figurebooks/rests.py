"""Remainders: which ones the values of a row have, where they first come, and how often."""

from figurebooks.checks import check_number, check_positive
from figurebooks.errors import InvalidRest
from figurebooks.figures import figures_of
from figurebooks.kin import shortest
from figurebooks.vectors import weighted_sum


class Walk:
    """All that the places of a row lead to by remainders.

    The remainders of the rows of the plain book at a place are a stand: a figure more leads from it to
    the same stand wherever it comes. So there are few stands, however far the row goes.
    """

    def __init__(self, row, modulus):
        """Walk from place 0 to ever greater places, but not on from where a known stand comes again."""
        system, weights = shortest(row.book.system, row.coefficients)
        self._modulus = modulus
        self._stands = [self._stand_of(system.starts)]
        self._numbers = {self._stands[0]: 0}
        self._places = [0]
        self._moves = []
        while len(self._moves) < len(self._stands):
            self._moves.append(self._moves_from(system, len(self._moves)))
        self._rests = [weighted_sum(weights, stand) % modulus for stand in self._stands]

    def first_of(self, rest):
        """Return the first place with a remainder, None if there is none."""
        # The places of the stands ascend, as do those that are led to from ascending places.
        for place, own in zip(self._places, self._rests):
            if own == rest:
                return place
        return None

    def rests(self):
        """Return the ascending list of all remainders that come."""
        return sorted(set(self._rests))

    def count_of(self, rest, figures):
        """Return how many places up to the one with the figures have a remainder."""
        # The stand of the place itself, as far as its figures are read, and of all lesser ones how
        # many have each stand; with noughts ahead all of these have the same number of figures.
        own = 0
        lesser = [0] * len(self._moves)
        for figure in figures:
            counts = [0] * len(self._moves)
            for moves, count in zip(self._moves, lesser):
                for stand in moves:
                    counts[stand] += count
            for stand in self._moves[own][:figure]:
                counts[stand] += 1
            own = self._moves[own][figure]
            lesser = counts
        lesser[own] += 1
        return sum([count for count, told in zip(lesser, self._rests) if told == rest])

    def _moves_from(self, system, number):
        """Return the numbers of the stands to which each figure leads from a stand."""
        moves = []
        for figure in range(system.base):
            stand = self._stand_of(system.stepped(self._stands[number], figure))
            if stand not in self._numbers:
                self._numbers[stand] = len(self._stands)
                self._stands.append(stand)
                self._places.append(system.base * self._places[number] + figure)
            moves.append(self._numbers[stand])
        return moves

    def _stand_of(self, values):
        """Return the remainders of values."""
        return tuple([value % self._modulus for value in values])


def first_rest(row, modulus, rest):
    """Return the first place whose value has a remainder by a modulus, None if there is none."""
    _check_rest(modulus, rest)
    return Walk(row, modulus).first_of(rest)


def count_rest(row, modulus, rest, number):
    """Return how many of the places from 0 to a number have a remainder by a modulus."""
    _check_rest(modulus, rest)
    check_number(number)
    return Walk(row, modulus).count_of(rest, figures_of(number, row.book.base))


def rests_of(row, modulus):
    """Return the ascending list of all remainders by a modulus that ever come."""
    check_positive(modulus)
    return Walk(row, modulus).rests()


def _check_rest(modulus, rest):
    """Raise an error for a modulus that is less than 1, then for what is no remainder by it."""
    check_positive(modulus)
    if not 0 <= rest < modulus:
        raise InvalidRest(rest)
