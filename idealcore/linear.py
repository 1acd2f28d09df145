"""Linear algebra with rows of integers.

A row is a dict from columns to integers, modulo a prime or over the fractions; multiples of a row tell the same.
The columns are integers from 0 on.  Marks, which are columns below 0, tell what a row is made of.
"""
from idealcore.fields import inverse_modulo
from idealcore.packed import common_divisor, settled

# Modulo a prime a row is kept as one integer with so many bits for each column, so that a multiple of another one is
# added at once.  They are enough for the sum of some million multiples, and what is added is never negative.
WIDTH = 32
MASK = 2 ** 32 - 1

# So many columns are put together first: shifts of long integers take long.
LOT = 32
LOT_MASK = (1 << 1024) - 1


class Echelon:
    """Rows that are independent in the columns from 0 on, each by a column that no later one has."""

    def __init__(self, field):
        self.field = field
        self.rows = {}

    def put(self, row):
        """Keeps a row that does not depend on those that are kept.

        Returns None then, otherwise its rest, which has marks alone and tells how it depends on them.
        """
        left = self.rest_modulo(row) if self.field else self.rest(row)
        column = min([column for column in left if column >= 0], default=None)
        if column is None:
            return left
        if self.field:
            factor = inverse_modulo(left[column], self.field)
            self.rows[column] = bits_of({at: n * factor % self.field for at, n in left.items()})
        else:
            self.rows[column] = left
        return None

    def rest(self, row):
        """What is left of a row over the fractions if the columns of those that are kept are cancelled."""
        left = settled(0, row)
        for column, kept in self.rows.items():
            if left.get(column, 0):
                left = cancelled(left, left[column], kept, kept[column])
        return settled(0, left)

    def rest_modulo(self, row):
        """The same modulo a prime."""
        left = bits_of(settled(self.field, row))
        for column, kept in self.rows.items():
            n = (left >> WIDTH * slot_of(column) & MASK) % self.field
            if n:
                left += (self.field - n) * kept
        return settled(self.field, row_of_bits(left))


def slot_of(column):
    """Where a column stands among the bits: marks stand between the others."""
    return 2 * column if column >= 0 else -2 * column - 1


def bits_of(row):
    """A row, none of whose integers is negative, as one integer."""
    lots = {}
    for column, n in row.items():
        lot, slot = divmod(slot_of(column), LOT)
        lots[lot] = lots.get(lot, 0) + (n << WIDTH * slot)
    return sum([bits << WIDTH * LOT * lot for lot, bits in lots.items()])


def row_of_bits(bits):
    """The row of such an integer."""
    row = {}
    left, start = bits, 0
    while left:
        lot = left & LOT_MASK
        for slot in range(start, start + LOT):
            row[-(slot + 1) // 2 if slot & 1 else slot // 2] = lot >> WIDTH * (slot - start) & MASK
        left = left >> WIDTH * LOT
        start += LOT
    return row


def cancelled(row, n, other, first):
    """A multiple of a row, less one of another, such that the integers n and first cancel each other."""
    total = {at: number * first for at, number in row.items()}
    for at, number in other.items():
        total[at] = total.get(at, 0) - n * number
    common = common_divisor(total, 0)
    return {at: number // common for at, number in total.items()} if common > 1 else total


def rank(field, rows):
    """How many of some rows are independent."""
    echelon = Echelon(field)
    for row in rows:
        echelon.put(row)
    return len(echelon.rows)
