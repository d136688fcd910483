"""Lists of numbers modulo a prime as the rows of a table: the sums of columns, and the products of tables."""

from curveheads.polynomials import inverse


def null_lists(p, rows, size):
    """Independent lists of numbers by which the columns of rows of a size sum to nought: all are sums of them."""
    rows, heads = cleared_rows(p, rows, size)
    found = []
    for free in range(size):
        if free not in heads:
            numbers = [0] * size
            numbers[free] = 1
            for row, head in zip(rows, heads):
                numbers[head] = -row[free] % p
            found.append(numbers)
    return found


def cleared_rows(p, rows, size):
    """Rows with the same null lists, and the columns at which the first of them alone have a 1."""
    heads = []
    for column in range(size):
        done = len(heads)
        able = [at for at in range(done, len(rows)) if rows[at][column] != 0]
        if able:
            turn = inverse(p, rows[able[0]][column])
            lead = [number * turn % p for number in rows[able[0]]]
            others = [rows[at] for at in range(len(rows)) if at != able[0]]
            cleared = [row_less(p, row, lead, row[column]) for row in others]
            rows = cleared[:done] + [lead] + cleared[done:]
            heads.append(column)
    return rows, heads


def row_less(p, row, lead, times):
    """A row less another one so many times."""
    if times == 0:
        return row
    return [(left - times * right) % p for left, right in zip(row, lead)]


def numbers_summing(p, rows, size, wanted):
    """Numbers by which the columns of rows of a size sum to a wanted list, None if there are none."""
    wider = [[*row, -number % p] for row, number in zip(rows, wanted)]
    found = null_lists(p, wider, size + 1)
    # The list that takes the wanted one itself, once, comes last; if there is none, no list takes it.
    if not found or found[-1][size] == 0:
        return None
    return found[-1][:size]


def null_sums(p, tuples):
    """Independent lists of numbers by which tuples of polynomials, all of one size, sum to noughts."""
    sizes = [max([len(part) for part in parts]) for parts in zip(*tuples)]
    columns = [[number for part, size in zip(parts, sizes) for number in part + [0] * (size - len(part))]
               for parts in tuples]
    return null_lists(p, [list(row) for row in zip(*columns)], len(tuples))


def table_product(p, one, other):
    """The product of two square tables of one size."""
    columns = [list(column) for column in zip(*other)]
    return [[sum([left * right for left, right in zip(row, column)]) % p for column in columns] for row in one]


def table_power(p, table, count):
    """A square table taken so many times as a factor."""
    size = len(table)
    found = [[int(row == column) for column in range(size)] for row in range(size)]
    while count > 0:
        if count % 2 == 1:
            found = table_product(p, found, table)
        table = table_product(p, table, table)
        count = count // 2
    return found
