"""Whether functions are independent, by rows of numbers that are cleared without the package."""

from tests import reckoning
from tests.samples import tops


def rank(p, rows):
    """How many of some rows of numbers are independent."""
    rows, found = [list(row) for row in rows], 0
    for column in range(len(rows[0]) if rows else 0):
        able = [row for row in rows[found:] if row[column]]
        if not able:
            continue
        at = rows.index(able[0], found)
        rows[found], rows[at] = rows[at], rows[found]
        turn = pow(rows[found][column], -1, p)
        for by in range(found + 1, len(rows)):
            times = rows[by][column] * turn
            if times:
                rows[by] = [(one - times * other) % p for one, other in zip(rows[by], rows[found])]
        found += 1
    return found


def rank_of_functions(p, functions):
    """How many of some functions are independent over the numbers."""
    bottom = [1]
    for one in functions:
        shared = reckoning.common(p, one.bottom(), bottom)
        bottom = reckoning.times(p, bottom, reckoning.quotient(p, one.bottom(), shared))
    rows = []
    for one in functions:
        top, side, low = tops(one)
        above = reckoning.quotient(p, bottom, low)
        rows.append((reckoning.times(p, top, above), reckoning.times(p, side, above)))
    sizes = [max([len(row[part]) for row in rows], default=0) for part in (0, 1)]
    return rank(p, [[number for part in (0, 1) for number in row[part] + [0] * (sizes[part] - len(row[part]))]
                    for row in rows])
