"""Monomials as single integers, so that they are multiplied, compared and divided fast.

To the base 2 ** 48, the code of a monomial has, from its highest places down, the sums of the products of
each row of the order and the exponents, and below them the exponents themselves.  So the code of a product
is the sum of the codes, and the greater monomial has the greater code.  The places are wide enough for
exponents far above those that a computation can reach.
"""

WIDTH = 48
PLACE = 2 ** 48
MASK = 2 ** 48 - 1


def single_rows(many):
    """The rows that compare the exponents one after another."""
    return [tuple([1 if k == place else 0 for k in range(many)]) for place in range(many)]


def falling_rows(many, first, last):
    """The rows that compare the variables from first to last - 1 as in "degrevlex".

    For equal degrees, a smaller exponent at the last variable is a greater sum of the others.
    """
    return [tuple([1 if first <= k <= end else 0 for k in range(many)]) for end in reversed(range(first, last))]


def rows_of(many, order):
    """The rows of an order, none of them with a negative integer."""
    if order == "lex":
        return tuple(single_rows(many))
    if order == "deglex":
        return tuple([(1,) * many] + single_rows(many))
    if order == "degrevlex":
        return tuple(falling_rows(many, 0, many))
    if order[0] == "block":
        return tuple(falling_rows(many, 0, order[1]) + falling_rows(many, order[1], many))
    return tuple([order[1]] + falling_rows(many, 0, many))


class Coding:
    """How the monomials in so many variables over a field are told by integers, by the rows of an order."""

    def __init__(self, field, many, rows):
        self.field = field
        self.many = many
        self.rows = rows
        self.shifts = [WIDTH * (many - 1 - k) for k in range(many)]
        self.units = [self.unit(place) for place in range(many)]
        # The highest bit of each exponent: none of them reaches it, so a subtraction that would borrow clears it.
        self.guard = sum([PLACE // 2 << shift for shift in self.shifts])

    def unit(self, place):
        """The code of a variable."""
        total = 0
        for row in self.rows:
            total = total * PLACE + row[place]
        return (total << WIDTH * self.many) + (1 << self.shifts[place])

    def code(self, monomial):
        """The code of a monomial."""
        total = 0
        for exponent, unit in zip(monomial, self.units):
            total += exponent * unit
        return total

    def exponents(self, code):
        """The monomial of a code."""
        return tuple([(code >> shift) & MASK for shift in self.shifts])

    def divides(self, one, other):
        """Whether the monomial of the code one divides that of the code other."""
        return ((other | self.guard) - one) & self.guard == self.guard

    def lcm(self, one, other):
        """The code of the least common multiple."""
        return self.code([max(a, b) for a, b in zip(self.exponents(one), self.exponents(other))])


def plain_coding(coding):
    """The coding of the same monomials by "degrevlex", in which bases tend to be small."""
    return Coding(coding.field, coding.many, rows_of(coding.many, "degrevlex"))


def lifted_coding(coding):
    """The coding of the monomials with one more variable, behind the others, by degrees first."""
    many = coding.many + 1
    return Coding(coding.field, many, ((1,) * many,) + tuple([row + (0,) for row in coding.rows]))


def lowered(coding, high, code):
    """The code of a monomial of the lifted coding without the additional variable."""
    return coding.code(high.exponents(code)[:-1])
