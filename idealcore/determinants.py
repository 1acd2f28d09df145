"""Determinants of rows of polynomials, which are tables: dicts from codes of monomials to integers."""
from idealcore.packed import settled


def determinant(field, rows, size):
    """The determinant of a square of rows, by its minors of the first rows.

    A row is a pair (start, tables): what stands from a column on, all other places of the row being zero.  The
    starts ascend.  A minor stands under the columns that it has, told by the bits of an integer.
    """
    minors = {0: {0: 1}}
    for index, (start, tables) in enumerate(rows):
        if index + 1 < len(rows):
            left_behind = (1 << rows[index + 1][0]) - 1
        else:
            left_behind = (1 << size) - 1
        # A column that no later row reaches must have been taken.
        wider = widened_minors(minors, start, tables)
        minors = {used: settled(field, wider[used]) for used in wider if used & left_behind == left_behind}
    return minors.get((1 << size) - 1, {})


def widened_minors(minors, start, tables):
    """The minors with one more row."""
    wider = {}
    for used, minor in minors.items():
        for step, table in enumerate(tables):
            column = start + step
            above = used >> column
            if table and above & 1 == 0:
                sign = 1 if ones_of(above) & 1 == 0 else -1
                add_product(wider.setdefault(used | 1 << column, {}), minor, table, sign)
    return wider


def ones_of(bits):
    """How many bits of an integer are 1."""
    count = 0
    while bits:
        count += bits & 1
        bits = bits >> 1
    return count


def add_product(total, one, other, sign):
    """Adds the product of two tables, with a sign, to a table."""
    for code, n in one.items():
        for more, times in other.items():
            at = code + more
            total[at] = total.get(at, 0) + sign * n * times
