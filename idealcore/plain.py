"""Ideals in the order "degrevlex", in which bases tend to be small, and the way back to the order of the ring."""
from idealcore.coding import plain_coding
from idealcore.completion import reduced_basis
from idealcore.packed import packed, recoded
from idealcore.reducing import monic, table_of


def packed_plainly(coding, polys):
    """The packed forms, in the order "degrevlex", of the polynomials that are not zero."""
    plain = plain_coding(coding)
    return [packed(plain, p) for p in polys if p]


def plain_reducers(coding, polys):
    """The reducers of the reduced basis, in the order "degrevlex", of the ideal of polynomials."""
    return reduced_basis(plain_coding(coding), packed_plainly(coding, polys))


def few_values(coding, polys):
    """Generators of the ideal of polynomials, packed: those of the reduced basis, if these are not more."""
    own = packed_plainly(coding, polys)
    reducers = reduced_basis(plain_coding(coding), own)
    return own if len(own) < len(reducers) else [table_of(reducer) for reducer in reducers]


def basis_of_values(coding, values):
    """The reduced basis, in the order of the ring, of the ideal of polynomials that are packed in "degrevlex"."""
    plain = plain_coding(coding)
    reducers = reduced_basis(plain, values)
    if coding.rows != plain.rows:
        reducers = reduced_basis(coding, [recoded(plain, coding, table_of(reducer)) for reducer in reducers])
    return tuple([monic(coding, reducer) for reducer in reducers])
