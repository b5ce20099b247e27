"""The figures with which numbers are written."""


def figures_of(number, base):
    """Return the figures of a number that is not negative, the highest first; 0 has none."""
    figures = []
    while number > 0:
        number, figure = divmod(number, base)
        figures.append(figure)
    return figures[::-1]
