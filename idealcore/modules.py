"""Vectors as packed polynomials, so that modules are computed as ideals are.

The place of a term of a vector is told by marks, more variables behind those of the ring, in which terms at unlike
places differ: the index of the place, what is left of it to the last one, whether the place stands ahead, and
the degree of the place.  The first two are such that no term divides one at another place.
"""
from idealcore.coding import Coding
from idealcore.packed import combination, packed, unpacked

MARKS = 4


class Places:
    """How vectors of a rank are packed.

    Terms at the places that stand ahead, so many first ones, are greater than all others; among others the
    monomials are compared first and then the places, the smaller index being greater.  The degrees are those of the
    places, 0 if none are told.
    """

    def __init__(self, coding, rank, ahead=0, degrees=None):
        many = coding.many
        self.many = many
        self.rank = rank
        grades = [0] * rank if degrees is None else degrees
        self.marks = [(k, rank - 1 - k, 1 if k < ahead else 0, grades[k]) for k in range(rank)]
        rows = [row + (0,) * MARKS for row in coding.rows] + [(0,) * many + (0, 1, 0, 0)]
        if ahead:
            rows = [(0,) * many + (0, 0, 1, 0)] + rows
        behind = tuple(range(many, many + MARKS))
        self.coding = Coding(coding.field, many + MARKS, tuple(rows), (1,) * many + (0, 0, 0, 1), behind)

    def packed_vector(self, vector):
        """The packed form of a vector."""
        terms = []
        for p, marks in zip(vector, self.marks):
            terms += [(number, monomial + marks) for number, monomial in p]
        return packed(self.coding, terms)

    def vector(self, terms):
        """The vector of terms with marks, which descend."""
        found = [[] for _ in range(self.rank)]
        for number, monomial in terms:
            found[monomial[self.many]].append((number, monomial[:self.many]))
        return tuple([tuple(row) for row in found])

    def unpacked_vector(self, value):
        """The vector of a packed one."""
        return self.vector(unpacked(self.coding, value))

    def place_of(self, code):
        """The index of the place of a term."""
        return self.coding.exponents(code)[self.many]

    def unmarked(self, code):
        """The monomial of a term."""
        return self.coding.exponents(code)[:self.many]


def vectors_with_units(places, rank, vectors):
    """The packed forms of vectors, each with 1 at a place of its own behind those of the rank."""
    coding = places.coding
    found = []
    for index, vector in enumerate(vectors):
        unit = coding.code((0,) * places.many + places.marks[rank + index])
        found.append(combination(coding.field, [(1, 1, 0, places.packed_vector(vector)), (1, 1, unit, ({0: 1}, 1))]))
    return found
