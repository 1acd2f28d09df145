"""Cofactors: how the polynomials of an ideal come from its generators.

They are found by a basis in the order "degrevlex", whichever the order of the ring is: whether a polynomial is
in an ideal does not depend on the order, and in this one the cofactors tend to be small.
"""
from idealcore.coding import plain_coding
from idealcore.completion import found_basis
from idealcore.packed import combination, packed, sum_of_terms, unpacked
from idealcore.reducing import divided


class Tracer:
    """The ideal of generators, prepared for questions which polynomials are in it.

    A row is a list of cofactors, packed polynomials, one for each generator.
    """

    def __init__(self, coding, polys):
        self.coding = coding
        self.plain = plain_coding(coding)
        self.many = len(polys)
        self.found = found_basis(self.plain, [packed(self.plain, p) for p in polys])

    def division(self, p):
        """The rest, or its first term, and the steps of the division of a polynomial by the basis."""
        return divided(self.plain, packed(self.plain, p), self.found.reducers, hasty=True)

    def holds(self, p):
        """Whether a polynomial is in the ideal."""
        rest, _ = self.division(p)
        return not rest

    def cofactors(self, p):
        """The tuple of the cofactors of a polynomial, None if it is not in the ideal."""
        rest, steps = self.division(p)
        if rest:
            return None
        parts = [(self.found.sources[index], code, n, d) for index, code, n, d in steps]
        rows = self.rows_of_sources([source for source, _, _, _ in parts])
        row = self.mixed_row(parts, rows)
        # What is sorted by the order "degrevlex" is put into the order of the ring.
        return tuple([sum_of_terms(self.coding, unpacked(self.plain, value)) for value in row])

    def rows_of_sources(self, wanted):
        """A dict with the rows of at least the wanted sources."""
        history = self.found.history
        needed = {source: True for source in wanted}
        for index in reversed(range(len(history))):
            if self.many + index in needed:
                for source, _, _, _ in history[index]:
                    needed[source] = True
        rows = {}
        for source in sorted(list(needed)):
            if source < self.many:
                rows[source] = self.unit_row(source)
            else:
                rows[source] = self.mixed_row(history[source - self.many], rows)
        return rows

    def unit_row(self, place):
        """The row of a generator."""
        return [({0: 1}, 1) if index == place else ({}, 1) for index in range(self.many)]

    def mixed_row(self, parts, rows):
        """The row of the sum of n / d times a monomial times a source, for parts (source, code, n, d)."""
        row = []
        for index in range(self.many):
            chosen = [(n, d, code, rows[source][index]) for source, code, n, d in parts if rows[source][index][0]]
            row.append(combination(self.plain.field, chosen))
        return row
