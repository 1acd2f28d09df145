"""Polynomials as functions on all points over a prime field.

Modulo the field's polynomials, each polynomial is one whose exponents are below the prime: it is folded.
"""
from heapq import heappop, heappush

from idealcore.fields import inverse_modulo
from idealcore.linear import Echelon


def folded_exponent(prime, exponent):
    """The exponent below the prime with which a power of a variable has the same values."""
    return exponent if exponent < prime else (exponent - 1) % (prime - 1) + 1


def folded(coding, value):
    """The packed polynomial with exponents below the prime that has the same values as another one."""
    total = {}
    for code, n in value[0].items():
        at = coding.code([folded_exponent(coding.field, exponent) for exponent in coding.exponents(code)])
        total[at] = (total.get(at, 0) + n) % coding.field
    return ({code: n for code, n in total.items() if n}, 1)


def field_polynomials(coding):
    """The field's polynomial of each variable, packed."""
    return [({coding.field * unit: 1, unit: coding.field - 1}, 1) for unit in coding.units]


def zeros_of(coding, values):
    """The list of the points at which folded polynomials are zero, ascending."""
    tables = [{coding.exponents(code): n for code, n in table.items()} for table, _ in values]
    return zeros_behind(coding.field, coding.many, (), tables)


def zeros_behind(prime, many, start, tables):
    """The zeros that begin with some numbers, which have been put into the tables; these are left with the others."""
    if len(start) == many:
        return [] if any(tables) else [start]
    found = []
    for number in range(prime):
        powers = [1]
        for _ in range(prime - 1):
            powers.append(powers[-1] * number % prime)
        found += zeros_behind(prime, many, start + (number,), [put_in_first(prime, table, powers) for table in tables])
    return found


def put_in_first(prime, table, powers):
    """The table that is left if a number, told by its powers, is put in the place of the first variable."""
    total = {}
    for exponents, n in table.items():
        rest = exponents[1:]
        total[rest] = (total.get(rest, 0) + n * powers[exponents[0]]) % prime
    return {exponents: n for exponents, n in total.items() if n}


class UnitSearch:
    """The search for folded cofactors of folded generators, whose sum of products is 1 at all points.

    Products of monomials and generators are looked at by ascending monomials, and kept as rows, whose columns are
    the folded monomials.  The label of each row, in the order of the marks, is the code of the monomial and the index
    of the generator.  The row of 1 is the first one: once a product depends on it, 1 is a sum of products.
    """

    def __init__(self, coding, generators):
        self.coding = coding
        self.generators = generators
        self.columns = {}
        self.labels = [(0, -1)]
        self.echelon = Echelon(coding.field)
        self.echelon.put({self.column_of(0): 1, -1: 1})
        self.dependent = []

    def column_of(self, code):
        """The column of a folded monomial."""
        return self.columns.setdefault(code, len(self.columns))

    def row(self, code, index):
        """The row of the product of a monomial and a generator."""
        product = {code + at: n for at, n in self.generators[index][0].items()}
        table, _ = folded(self.coding, (product, 1))
        row = {self.column_of(at): n for at, n in table.items()}
        row[-1 - len(self.labels)] = 1
        return row

    def is_needless(self, code, index):
        """Whether a product follows from one with a smaller monomial that depends on those ahead of it."""
        return any([k == index and self.coding.divides(other, code) for other, k in self.dependent])

    def cofactors(self):
        """The cofactors, packed; there must be some."""
        queue = [(0, index) for index, (table, _) in enumerate(self.generators) if table]
        last = (0, -1)
        while queue:
            code, index = heappop(queue)
            if (code, index) == last or self.is_needless(code, index):
                continue
            last = (code, index)
            relation = self.echelon.put(self.row(code, index))
            self.labels.append(last)
            if relation is None:
                for unit, exponent in zip(self.coding.units, self.coding.exponents(code)):
                    if exponent + 1 < self.coding.field:
                        heappush(queue, (code + unit, index))
            elif relation.get(-1, 0):
                return self.factors_of(relation)
            else:
                self.dependent.append(last)
        return None

    def factors_of(self, relation):
        """The cofactors that a relation with 1 tells."""
        prime = self.coding.field
        factor = -inverse_modulo(relation[-1], prime)
        tables = [{} for _ in self.generators]
        for mark, n in relation.items():
            code, index = self.labels[-1 - mark]
            if index >= 0:
                tables[index][code] = n * factor % prime
        return [(table, 1) for table in tables]
