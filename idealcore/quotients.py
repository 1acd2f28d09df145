"""Finite quotient rings, by linear algebra.

A vector is a packed row: a pair (dict from indexes to integers, a positive integer by which they are divided).  How
vectors are multiplied by the variables is told by a list of rows for each variable: the vectors that the products
with the ones with a single 1 are.
"""
from heapq import heappop, heappush

from idealcore.coding import plain_coding
from idealcore.errors import NotFinite, TooMany
from idealcore.linear import Echelon
from idealcore.packed import combination, unpacked
from idealcore.plain import plain_reducers
from idealcore.reducing import reducer_of

MOST_DIMENSION = 60


def applied(field, rows, vector):
    """The sum of rows, which are vectors, times the numbers of a vector."""
    table, below = vector
    return combination(field, [(n, below, 0, rows[index]) for index, n in table.items()])


def marked(vector, index):
    """The row of a vector with 1 at a mark."""
    table, below = vector
    row = {at: n for at, n in table.items()}
    row[-1 - index] = below
    return row


def powers_relation(field, start, rows):
    """The products of a vector and the powers of what rows tell, and integers by which they sum up to zero.

    There are as few of them as there can be.
    """
    echelon = Echelon(field)
    powers = [start]
    relation = echelon.put(marked(start, 0))
    while relation is None:
        powers.append(applied(field, rows, powers[-1]))
        relation = echelon.put(marked(powers[-1], len(powers) - 1))
    return (powers, [relation.get(-1 - k, 0) for k in range(len(powers))])


class VectorIdeal:
    """The ideal of the polynomials whose product with a vector is zero: B. Buchberger, H. M. Moeller, 1982.

    Monomials are looked at in ascending order: one whose vector does not depend on those of the standard monomials
    so far is a standard one, too, the others are leading monomials.  The reducers are those of the reduced basis;
    the echelon keeps the vectors of the standard monomials, marked by their indexes.
    """

    def __init__(self, coding, rows, start):
        self.coding = coding
        self.codes = []
        self.vectors = []
        self.reducers = []
        self.echelon = Echelon(coding.field)
        self.search(rows, start)

    def search(self, rows, start):
        """Looks at all monomials that no leading monomial divides."""
        queue = [(0, 0, 0)]
        last = -1
        while queue:
            code, index, place = heappop(queue)
            if code == last or self.is_divisible(code):
                continue
            last = code
            vector = applied(self.coding.field, rows[place], self.vectors[index]) if code else start
            if self.take(code, vector):
                for at, unit in enumerate(self.coding.units):
                    heappush(queue, (code + unit, len(self.codes) - 1, at))

    def is_divisible(self, code):
        """Whether a leading monomial so far divides a monomial."""
        return any([self.coding.divides(reducer[0][0], code) for reducer in self.reducers])

    def take(self, code, vector):
        """Keeps a monomial with its vector, or the polynomial that it leads; returns whether it is a standard one."""
        relation = self.echelon.put(marked(vector, len(self.codes)))
        if relation is None:
            self.codes.append(code)
            self.vectors.append(vector)
            return True
        codes = self.codes + [code]
        self.reducers.append(reducer_of(self.coding.field, {codes[-1 - mark]: n for mark, n in relation.items()})[0])
        return False

    def standard_sum(self, vector):
        """The sum of numbers times standard monomials, packed, that has a vector, which must depend on theirs."""
        relation = self.echelon.put(marked(vector, len(self.codes)))
        below = relation[-1 - len(self.codes)]
        sign = -1 if below > 0 else 1
        table = {self.codes[-1 - mark]: sign * n for mark, n in relation.items() if -1 - mark < len(self.codes)}
        return (table, abs(below))


class Quotient:
    """A finite quotient ring, by the reducers of the reduced basis of its ideal.

    The codes are those of the standard monomials, ascending; a vector tells the sum of numbers times them.
    """

    def __init__(self, coding, reducers):
        self.coding = coding
        self.reducers = reducers
        self.codes = standard_codes(coding, reducers)
        self.indexes = {code: index for index, code in enumerate(self.codes)}
        self.parents = [self.parent(code) for code in self.codes[1:]]
        forms = self.border_forms()
        self.rows = [[forms[code + unit] for code in self.codes] for unit in coding.units]

    def first_place(self, code):
        """The first variable of a monomial."""
        return [place for place, exponent in enumerate(self.coding.exponents(code)) if exponent][0]

    def parent(self, code):
        """The index of the standard monomial whose product with a variable another one is, and the variable."""
        place = self.first_place(code)
        return (self.indexes[code - self.coding.units[place]], place)

    def border_forms(self):
        """The vectors of the normal forms of the standard monomials and their products with variables."""
        products = [code + unit for code in self.codes for unit in self.coding.units]
        tails = {reducer[0][0]: reducer for reducer in self.reducers}
        forms = {}
        for code in sorted(set(self.codes + products)):
            if code in self.indexes:
                forms[code] = ({self.indexes[code]: 1}, 1)
            elif code in tails:
                tail = {self.indexes[at]: n for at, n in tails[code][1:]}
                forms[code] = combination(self.coding.field, [(-1, tails[code][0][1], 0, (tail, 1))])
            else:
                forms[code] = self.form_behind(code, forms)
        return forms

    def form_behind(self, code, forms):
        """The vector of a product of a variable and a monomial that is no standard one, but has a vector."""
        for unit in self.coding.units:
            if self.coding.divides(unit, code) and code - unit in forms and code - unit not in self.indexes:
                table, below = forms[code - unit]
                parts = [(n, below, 0, forms[self.codes[index] + unit]) for index, n in table.items()]
                return combination(self.coding.field, parts)
        return None

    def one(self):
        """The vector of 1, which is zero if there are no standard monomials."""
        return ({0: 1}, 1) if self.codes else ({}, 1)

    def times(self, vector, place):
        """The product of a vector and a variable."""
        return applied(self.coding.field, self.rows[place], vector)

    def form(self, value):
        """The vector of the normal form of a packed polynomial."""
        known = {0: self.one()}
        for code in value[0]:
            self.add_form(code, known)
        return combination(self.coding.field, [(n, value[1], 0, known[code]) for code, n in value[0].items()])

    def add_form(self, code, known):
        """Puts the vector of a monomial to those that are known, with those of the factors on the way to it."""
        path = []
        while code not in known:
            path.append(self.first_place(code))
            code -= self.coding.units[path[-1]]
        for place in reversed(path):
            known[code + self.coding.units[place]] = self.times(known[code], place)
            code += self.coding.units[place]

    def multiples(self, vector):
        """The products of a vector and each standard monomial, in order."""
        found = [vector] if self.codes else []
        for index, place in self.parents:
            found.append(self.times(found[index], place))
        return found

    def polynomial(self, vector):
        """The polynomial of a vector."""
        return unpacked(self.coding, ({self.codes[index]: n for index, n in vector[0].items()}, vector[1]))


def standard_codes(coding, reducers, most=None):
    """The standard monomials of a finite quotient ring, ascending, at most so many if this is told."""
    heads = [reducer[0][0] for reducer in reducers]
    found = []
    queue = [0]
    last = -1
    while queue and (most is None or len(found) < most):
        code = heappop(queue)
        if code > last and not any([coding.divides(head, code) for head in heads]):
            found.append(code)
            for unit in coding.units:
                heappush(queue, code + unit)
        last = code
    return found


def leave_finite(coding, reducers):
    """Whether the quotient ring by the ideal of the reducers of a basis is finite."""
    heads = [coding.exponents(reducer[0][0]) for reducer in reducers]
    return all([any([sum(head) == head[place] for head in heads]) for place in range(coding.many)])


def plain_quotient(coding, polys):
    """The quotient ring by the ideal of polynomials, in the order "degrevlex": NotFinite, TooMany(60)."""
    plain = plain_coding(coding)
    reducers = plain_reducers(coding, polys)
    if not leave_finite(plain, reducers):
        raise NotFinite("the quotient ring is not finite")
    if len(standard_codes(plain, reducers, MOST_DIMENSION + 1)) > MOST_DIMENSION:
        raise TooMany(MOST_DIMENSION)
    return Quotient(plain, reducers)


def reducers_in(coding, quotient):
    """The reducers of the reduced basis in another order: J. Faugere, P. Gianni, D. Lazard, T. Mora, 1993."""
    if quotient.coding.rows == coding.rows:
        return quotient.reducers
    return VectorIdeal(coding, quotient.rows, quotient.one()).reducers


def quotient_in(coding, polys):
    """The quotient ring by the ideal of polynomials, in the order of the ring: NotFinite, TooMany(60)."""
    quotient = plain_quotient(coding, polys)
    if quotient.coding.rows == coding.rows:
        return quotient
    return Quotient(coding, reducers_in(coding, quotient))
