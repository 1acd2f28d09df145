"""Monomials as single integers, so that they are multiplied, compared and divided fast.

To the base 2 ** 48, the code of a monomial has, from its highest places down, the sums of the products of
each row of the order and the exponents, and below them the exponents themselves.  So the code of a product
is the sum of the codes, and the greater monomial has the greater code.  The places are wide enough for
exponents far above those that a computation can reach.
"""

WIDTH = 48
PLACE = 2 ** 48
MASK = 2 ** 48 - 1


def single_rows(many):
    """The rows that compare the exponents one after another."""
    return [tuple([1 if k == place else 0 for k in range(many)]) for place in range(many)]


def falling_rows(many, places):
    """The rows that compare the variables at some places, in this order, as in "degrevlex".

    For equal degrees, a smaller exponent at the last variable is a greater sum of the others.
    """
    found = []
    for end in reversed(range(len(places))):
        chosen = places[:end + 1]
        found.append(tuple([1 if k in chosen else 0 for k in range(many)]))
    return found


def rows_of(many, order):
    """The rows of an order, none of them with a negative integer."""
    if order == "lex":
        return tuple(single_rows(many))
    if order == "deglex":
        return tuple([(1,) * many] + single_rows(many))
    places = list(range(many))
    if order == "degrevlex":
        return tuple(falling_rows(many, places))
    if order[0] == "block":
        return block_rows(many, places[:order[1]])
    return tuple([order[1]] + falling_rows(many, places))


def block_rows(many, first):
    """The rows that compare the variables at the places first and then those at all others, as in "degrevlex"."""
    others = [place for place in range(many) if place not in first]
    return tuple(falling_rows(many, first) + falling_rows(many, others))


class Coding:
    """How the monomials in so many variables over a field are told by integers, by the rows of an order.

    The grades are the degrees of the variables, 1 if none are told.  The variables at the places marks tell the
    place of a term of a vector: monomials in which they differ have no common multiple.
    """

    def __init__(self, field, many, rows, grades=None, marks=()):
        self.field = field
        self.many = many
        self.rows = rows
        self.grades = (1,) * many if grades is None else grades
        self.marks = marks
        self.shifts = [WIDTH * (many - 1 - k) for k in range(many)]
        self.units = [self.unit(place) for place in range(many)]
        self.marked = sum([MASK << self.shifts[k] for k in marks])
        # The highest bit of each exponent: none of them reaches it, so a subtraction that would borrow clears it.
        self.guard = sum([PLACE // 2 << shift for shift in self.shifts])

    def unit(self, place):
        """The code of a variable."""
        total = 0
        for row in self.rows:
            total = total * PLACE + row[place]
        return (total << WIDTH * self.many) + (1 << self.shifts[place])

    def code(self, monomial):
        """The code of a monomial."""
        total = 0
        for exponent, unit in zip(monomial, self.units):
            total += exponent * unit
        return total

    def exponents(self, code):
        """The monomial of a code."""
        return tuple([(code >> shift) & MASK for shift in self.shifts])

    def divides(self, one, other):
        """Whether the monomial of the code one divides that of the code other."""
        return ((other | self.guard) - one) & self.guard == self.guard

    def lcm(self, one, other):
        """The code of the least common multiple."""
        return self.code([max(a, b) for a, b in zip(self.exponents(one), self.exponents(other))])

    def grade(self, monomial):
        """The degree of a monomial, by the grades."""
        return sum([exponent * grade for exponent, grade in zip(monomial, self.grades)])

    def is_apart(self, one, other):
        """Whether two monomials stand for terms at unlike places."""
        return (one ^ other) & self.marked != 0


class Lift:
    """The coding of the same monomials with one more variable, behind the others, by degrees first.

    With powers of this variable, the monomials of a polynomial are given one degree.
    """

    def __init__(self, coding):
        rows = (coding.grades + (1,),) + tuple([row + (0,) for row in coding.rows])
        self.low = coding
        self.high = Coding(coding.field, coding.many + 1, rows, rows[0], coding.marks)
        # The place of the degree is the highest one, that of the additional variable the lowest one.
        self.top = WIDTH * (len(rows) + coding.many)
        self.middle = (1 << self.top - WIDTH) - 1

    def lifted(self, value):
        """A packed polynomial with powers of the additional variable, such that there is one degree only."""
        rows = [(code, self.low.grade(self.low.exponents(code)), n) for code, n in value[0].items()]
        top = max([grade for _, grade, _ in rows], default=0)
        return ({(top << self.top) + (code << WIDTH) + (top - grade): n for code, grade, n in rows}, value[1])

    def lowered(self, code):
        """The code of a monomial without the additional variable."""
        return (code >> WIDTH) & self.middle

    def degree(self, code):
        """The degree of a monomial with the additional variable."""
        return code >> self.top

    def last_of_degree(self, code):
        """A code that is greater than those of all monomials of the same degree."""
        return (self.degree(code) + 1 << self.top) - 1


def plain_coding(coding):
    """The coding of the same monomials by "degrevlex", in which bases tend to be small."""
    return Coding(coding.field, coding.many, rows_of(coding.many, "degrevlex"))
