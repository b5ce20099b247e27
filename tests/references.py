"""Plain forms, ranks and lattices, worked out without the program by slower and plainer means."""

from fractions import Fraction

LETTERS = "abcdefghijklmnopqrstuvwxyz"


def walked(base, rows, number):
    """Return for each name the list of the first values of the named row, as the words of [4] tell it."""
    lists = {name: [start] for name, start, _ in rows}
    for place in range(1, number):
        for name, _, formulas in rows:
            terms = formulas[place % base]
            lists[name].append(sum(factor * lists[other][place // base] for factor, other in terms))
    return lists


def walked_sum(base, rows, coefficients, number):
    """Return the list of the first values of the row with these coefficients."""
    lists = walked(base, rows, number)
    told = [lists[name] for name, _, _ in rows]
    return [
        sum(coefficient * values[place] for coefficient, values in zip(coefficients, told))
        for place in range(number)
    ]


def hermite(lists):
    """Return the plain lists of all sums of integer multiples of lists, column after column."""
    left = [list(values) for values in lists]
    done = []
    for column in range(len(left[0]) if left else 0):
        while sum(values[column] != 0 for values in left) > 1:
            least = min((v for v in left if v[column] != 0), key=lambda v: abs(v[column]))
            left = [v if v is least else minus(v, v[column] // least[column], least) for v in left]
        chosen = [values for values in left if values[column] != 0]
        left = [values for values in left if values[column] == 0]
        for values in chosen:
            top = values if values[column] > 0 else [-value for value in values]
            done = [minus(above, above[column] // top[column], top) for above in done] + [top]
    return done


def minus(values, multiple, others):
    """Return values less a multiple of others."""
    return [value - multiple * other for value, other in zip(values, others)]


def front(values):
    """Return the index of the first number that is not 0."""
    return [index for index, value in enumerate(values) if value != 0][0]


def multiples_in(values, plain_lists):
    """Return the multiples of plain lists that make values; fail if there are none."""
    multiples = []
    for told in plain_lists:
        multiple, over = divmod(values[front(told)], told[front(told)])
        assert over == 0
        values = minus(values, multiple, told)
        multiples.append(multiple)
    assert not any(values)
    return multiples


def rank(lists):
    """Return the rank of lists of integers over the fractions."""
    left = [[Fraction(value) for value in values] for values in lists]
    found = 0
    while left:
        values = left.pop()
        if any(values):
            found += 1
            at = front(values)
            left = [minus(other, other[at] / values[at], values) for other in left]
    return found


def reference_form(base, rows, coefficients):
    """Return nodes, rows and coefficients of the plain book and the plain row, by walking.

    Where a book has so many rows, a sum of rows that is 0 at the first base ** (so many - 1)
    places is always 0; as many places more show what the formulas have to make.
    """
    window = base ** len(rows)
    depth = 0
    plain_lists = hermite([walked_sum(base, rows, coefficients, window)])
    while True:
        depth += 1
        long = walked_sum(base, rows, coefficients, window * base ** depth)
        parts = [long[rest::base ** depth] for rest in range(base ** depth)]
        wider = hermite(plain_lists + parts)
        if wider == plain_lists:
            break
        plain_lists = wider
    names = LETTERS[:len(plain_lists)]
    short = [values[:window // base] for values in plain_lists]
    form = []
    for name, values in zip(names, plain_lists):
        made = [multiples_in(values[figure::base], short) for figure in range(base)]
        formulas = [[(m, other) for m, other in zip(multiples, names) if m != 0] for multiples in made]
        form.append((name, values[0], formulas))
    own = walked_sum(base, rows, coefficients, window)
    return [front(values) for values in plain_lists], form, multiples_in(own, plain_lists)
