"""Other writings of one row: unlike books, and coefficients, that give the same values.

A writing is a tuple (base, rows, coefficients), as `Book` and `Row` take them.
"""

from figurebooks.books import Book
from figurebooks.rows import Row


def row_of(base, rows, coefficients):
    """Return the row of a writing."""
    return Row(Book(base, rows), coefficients)


def relettered(rows, letters):
    """Write named rows with other names."""
    names = {row[0]: letter for row, letter in zip(rows, letters)}
    return [
        (names[name], start, [[(factor, names[other]) for factor, other in terms] for terms in formulas])
        for name, start, formulas in rows
    ]


def renamed(base, rows, coefficients):
    """Write the row with other names."""
    return base, relettered(rows, "mbzaylcxkdwj"), coefficients


def turned(base, rows, coefficients):
    """Write the row with the named rows in another sequence."""
    return base, rows[1:][::-1] + rows[:1], coefficients[1:][::-1] + coefficients[:1]


def summed(base, rows, coefficients, one, other, multiple):
    """Write the row with a sum, of one named row and a multiple of another, in the place of the one."""
    def replaced(terms):
        extra = [(-factor * multiple, rows[other][0]) for factor, name in terms if name == rows[one][0]]
        return list(terms) + extra

    told = [(name, start, [replaced(terms) for terms in formulas]) for name, start, formulas in rows]
    more = [[(multiple * factor, name) for factor, name in terms] for terms in told[other][2]]
    told[one] = (
        rows[one][0],
        rows[one][1] + multiple * rows[other][1],
        [terms + extra for terms, extra in zip(told[one][2], more)],
    )
    sums = list(coefficients)
    sums[other] -= multiple * coefficients[one]
    return base, told, sums


def doubled(base, rows, coefficients, one):
    """Write the row with a named row and a copy of it, so that some sum of named rows is always 0."""
    name = rows[one][0]
    copy = free_letter(rows)

    def replaced(terms):
        less = [(factor - 1, other) if other == name else (factor, other) for factor, other in terms]
        return less + [(1, copy) for _, other in terms if other == name]

    told = [(other, start, [replaced(terms) for terms in formulas]) for other, start, formulas in rows]
    copied = (copy, told[one][1], told[one][2])
    sums = list(coefficients)
    sums[one] -= 2
    return base, told + [copied], sums + [2]


def with_idle(base, rows, coefficients):
    """Write the row in a book with named rows that play no part in it."""
    idle = free_letter(rows)
    mixed = [[(1, idle)]] + [[(3, idle)] + [(2, name) for name, _, _ in rows]] * (base - 1)
    first = (idle, 5, mixed)
    other = free_letter(rows + [first])
    return base, [first] + rows + [(other, 0, [[]] + [[(1, idle)]] * (base - 1))], [0] + coefficients + [0]


def free_letter(rows):
    """Return a letter that is no name of a row."""
    return [letter for letter in "ntgvqpaxy" if letter not in [row[0] for row in rows]][0]


def writings_of(base, rows, coefficients):
    """Return many writings of one row."""
    found = [(base, rows, coefficients)]
    found += [renamed(*found[0]), turned(*found[0]), with_idle(*found[0])]
    for one in range(len(rows)):
        found.append(doubled(*found[0], one))
        for other in range(len(rows)):
            if other != one:
                found += [summed(*found[0], one, other, multiple) for multiple in (1, -3)]
    found += [turned(*renamed(*writing)) for writing in found[-3:]]
    found += [with_idle(*found[-1]), doubled(*with_idle(*found[-2]), 1)]
    return found
