"""Books for the tests, and values worked out from formulas without the program."""

import random

ONES = (2, [
    ("o", 0, [[(1, "o")], [(1, "o"), (1, "e")]]),
    ("e", 1, [[(1, "e")], [(1, "e")]]),
])
STERN = (2, [
    ("s", 0, [[(1, "s")], [(1, "s"), (1, "t")]]),
    ("t", 1, [[(1, "s"), (1, "t")], [(1, "t")]]),
])
# A name twice in a formula, a coefficient 0, an empty formula, a start below 0.
MIXED = (3, [
    ("q", -7, [[(2, "q"), (-1, "q")], [(0, "z"), (3, "u")], [(-9, "q"), (4, "z"), (1, "u")]]),
    ("u", 1, [[(1, "u")], [], [(1, "u"), (1, "u"), (-5, "z")]]),
    ("z", 0, [[], [(1, "q")], [(0, "q")]]),
])
FOURS = (4, [
    ("a", 2, [[(2, "b")], [(1, "a"), (1, "a"), (1, "a")], [], [(-1, "c"), (9, "a")]]),
    ("b", 1, [[(1, "b")], [(1, "b"), (1, "c")], [(1, "b"), (2, "c")], [(0, "a")]]),
    ("c", -3, [[(-5, "b"), (1, "a")], [(1, "c")], [(7, "b"), (-2, "c")], [(1, "c")]]),
])
BOOKS = [ONES, STERN, MIXED, FOURS]


def place_book(base):
    """Return what makes a book whose row p has at each place this place itself."""
    place_formulas = [[(base, "p"), (figure, "u")] for figure in range(base)]
    return base, [("p", 0, place_formulas), ("u", 1, [[(1, "u")]] * base)]


def value_of(base, rows, name, place, known=None):
    """Return the value of a named row at a place, as the words of [4] tell it."""
    known = {} if known is None else known
    if (name, place) not in known:
        start, formulas = [(row[1], row[2]) for row in rows if row[0] == name][0]
        known[name, place] = start if place == 0 else sum(
            coefficient * value_of(base, rows, other, place // base, known)
            for coefficient, other in formulas[place % base]
        )
    return known[name, place]


def sum_of(base, rows, coefficients, place):
    """Return the value at a place of the row with these coefficients."""
    known = {}
    names = [row[0] for row in rows]
    return sum(
        coefficient * value_of(base, rows, name, place, known)
        for coefficient, name in zip(coefficients, names)
    )


def telling_places(base):
    """Return places that are small, next to powers of the base, or of thirty digits."""
    places = list(range(70))
    power = 1
    while power <= 10 ** 30:
        places += [power - 1, power, power + 1]
        power *= base
    places += [10 ** 29, 10 ** 30 - 1, 10 ** 30, 123456789012345678901234567890]
    places += [314159265358979323846264338327, 999999999999999999999999999998]
    return places


def sound_book(seed, base):
    """Return what makes a book with many terms, the same one for each seed."""
    choice = random.Random(seed)
    names = "kwxy"
    starts = {name: choice.randint(-9, 9) for name in names}
    starts["u"] = 1
    rows = [("u", 1, [[(1, "u")]] + [[] for _ in range(base - 1)])]
    for name in names:
        formulas = [
            [(choice.randint(-9, 9), choice.choice(names)) for _ in range(choice.randint(0, 6))]
            for _ in range(base)
        ]
        # The first formula has to make the start: what is missing comes from the start 1 of u.
        made = sum(coefficient * starts[other] for coefficient, other in formulas[0])
        formulas[0] = formulas[0] + [(starts[name] - made, "u")]
        rows.append((name, starts[name], formulas))
    return base, rows


def coarse_book(seed, base, count):
    """Return what makes a book whose rows differ by much, so that sums of them leave many numbers out."""
    choice = random.Random(seed)
    names = "hijklm"[:count]
    factors = [-6, -4, -3, -2, 2, 3, 4, 6]
    rows = []
    for name in names:
        formulas = [
            [(choice.choice(factors), choice.choice(names)) for _ in range(choice.randint(0, 2))]
            for _ in range(base - 1)
        ]
        rows.append((name, choice.randint(0, 9), [[(1, name)]] + formulas))
    return base, rows


def coarse_coefficients(seed, count):
    """Return coefficients for a book, the same ones for each seed."""
    choice = random.Random(1000 + seed)
    return [choice.randint(-9, 9) for _ in range(count)]


def chain_book(base, count, factor=1, last_factor=0):
    """Return what makes a book whose rows lead to one another by the greatest figure.

    With the factors 1 and 0 the row with index k is 1 where the greatest figure stands at exactly
    count - 1 - k places of the number, and 0 elsewhere.
    """
    names = "abcdefghijklmnopqrstuvwxyz"[-count:]
    rows = []
    for index, name in enumerate(names):
        still = [[(1, name)]] * (base - 1)
        if index < count - 1:
            rows.append((name, 0, still + [[(factor, names[index + 1])]]))
        else:
            rows.append((name, 1, still + [[(last_factor, name)]]))
    return base, rows


def ring_book(base, count):
    """Return what makes a book whose row with index k is 1 where the greatest figure stands at
    count - 1 - k places of the number, or count, or twice count more, and so on, and 0 elsewhere."""
    names = "abcdefghijklmnopqrstuvwxyz"[:count]
    return base, [
        (name, int(index == count - 1), [[(1, name)]] * (base - 1) + [[(1, names[(index + 1) % count])]])
        for index, name in enumerate(names)
    ]


def alone_book(base, place):
    """Return what makes a book whose first row is 1 at a place alone: the rows read its figures one by one."""
    prefixes = [place]
    while prefixes[-1] > 0:
        prefixes.append(prefixes[-1] // base)
    names = "zyxwvutsrqponmlkjihgfedcba"[:len(prefixes)]
    rows = []
    for index, (name, prefix) in enumerate(zip(names, prefixes)):
        shorter = names[min(index + 1, len(names) - 1)]
        formulas = [[(1, shorter)] if figure == prefix % base else [] for figure in range(base)]
        rows.append((name, int(prefix == 0), formulas))
    return base, rows


def falling_book(seed, base, count):
    """Return what makes a book whose rows refer to rows ahead of them alone, behind one that is 1 at place 0."""
    choice = random.Random(seed)
    names = "jklmno"[:count]
    rows = [("j", 1, [[(1, "j")]] + [[]] * (base - 1))]
    starts = {"j": 1}
    for index, name in enumerate(names[1:], 1):
        formulas = [
            [(choice.randint(-9, 9), choice.choice(names[:index])) for _ in range(choice.randint(0, 2))]
            for _ in range(base)
        ]
        # The row just ahead is read by some figure that is not 0, so that each row ends further out.
        formulas[choice.randint(1, base - 1)].append((choice.choice([-2, -1, 1, 3]), names[index - 1]))
        starts[name] = sum(factor * starts[other] for factor, other in formulas[0])
        rows.append((name, starts[name], formulas))
    return base, rows
