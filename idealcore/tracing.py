"""Cofactors: how the polynomials of an ideal come from its generators.

They are found by a basis in the order "degrevlex", whichever the order of the ring is: whether a polynomial is
in an ideal does not depend on the order, and in this one the cofactors tend to be small.
"""
from idealcore.coding import plain_coding
from idealcore.completion import found_basis
from idealcore.packed import combination, packed, sum_of_terms, unpacked
from idealcore.reducing import divided


class Tracer:
    """The ideal of generators, prepared for questions which polynomials are in it.

    All polynomials are packed.  A row is a list of cofactors, one for each generator.
    """

    def __init__(self, plain, generators):
        self.plain = plain
        self.many = len(generators)
        self.found = found_basis(plain, generators)

    def division(self, value):
        """The rest, or its first term, and the steps of the division of a polynomial by the basis."""
        return divided(self.plain, value, self.found.reducers, hasty=True)

    def holds(self, value):
        """Whether a polynomial is in the ideal."""
        rest, _ = self.division(value)
        return not rest

    def row(self, value):
        """The row of a polynomial, None if it is not in the ideal."""
        rest, steps = self.division(value)
        if rest:
            return None
        parts = [(self.found.sources[index], code, n, d) for index, code, n, d in steps]
        return self.mixed_row(parts, self.rows_of_sources([source for source, _, _, _ in parts]))

    def rows_of_sources(self, wanted):
        """A dict with the rows of at least the wanted sources."""
        history = self.found.history
        needed = {source: True for source in wanted}
        for index in reversed(range(len(history))):
            if self.many + index in needed:
                for source, _, _, _ in history[index]:
                    needed[source] = True
        rows = {}
        for source in sorted(list(needed)):
            if source < self.many:
                rows[source] = self.unit_row(source)
            else:
                rows[source] = self.mixed_row(history[source - self.many], rows)
        return rows

    def unit_row(self, place):
        """The row of a generator."""
        return [({0: 1}, 1) if index == place else ({}, 1) for index in range(self.many)]

    def mixed_row(self, parts, rows):
        """The row of the sum of n / d times a monomial times a source, for parts (source, code, n, d)."""
        row = []
        for index in range(self.many):
            chosen = [(n, d, code, rows[source][index]) for source, code, n, d in parts if rows[source][index][0]]
            row.append(combination(self.plain.field, chosen))
        return row


def tracer_of(coding, polys):
    """The tracer of the ideal of polynomials of the ring."""
    plain = plain_coding(coding)
    return Tracer(plain, [packed(plain, p) for p in polys])


def cofactors(coding, tracer, value):
    """The tuple of the cofactors, polynomials of the ring, of a packed one; None if it is not in the ideal."""
    row = tracer.row(value)
    if row is None:
        return None
    found = []
    for factor in row:
        terms = unpacked(tracer.plain, factor)
        # What is sorted by the order "degrevlex" is put into the order of the ring, and marks of places are dropped.
        found.append(sum_of_terms(coding, [(number, monomial[:coding.many]) for number, monomial in terms]))
    return tuple(found)
