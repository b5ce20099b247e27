"""Lists of integers of one length, and their sums."""


def unit_of(index, count):
    """Return the list of so many numbers that is 1 at an index and 0 elsewhere."""
    return [int(other == index) for other in range(count)]


def weighted_sum(weights, values):
    """Return the sum of the products of weights and values at the same indices of two lists."""
    return sum([weight * value for weight, value in zip(weights, values)])


def lessened(values, multiple, others):
    """Return the list of values less a multiple of another list."""
    return [value - multiple * other for value, other in zip(values, others)]


def front_of(values):
    """Return the index of the first number that is not 0, or the length if there is none."""
    for index, value in enumerate(values):
        if value != 0:
            return index
    return len(values)
