"""The order "degrevlex", in which bases tend to be small, and the way from it to other orders.

From a basis in this order it is known how many leading monomials of each degree one in another order must have.
"""
from idealcore.coding import plain_coding
from idealcore.completion import completed_basis, found_basis, ready_basis, reduced_among, reduced_basis
from idealcore.packed import packed, recoded
from idealcore.reducing import monic, table_of
from idealcore.tally import generated_numbers


def packed_plainly(coding, polys):
    """The packed forms, in the order "degrevlex", of the polynomials that are not zero."""
    plain = plain_coding(coding)
    return [packed(plain, p) for p in polys if p]


def plain_reducers(coding, polys):
    """The reducers of the reduced basis, in the order "degrevlex", of the ideal of polynomials."""
    return reduced_basis(plain_coding(coding), packed_plainly(coding, polys))


def few_values(coding, polys):
    """Generators of the ideal of polynomials, packed: those of the reduced basis, if these are not more."""
    own = packed_plainly(coding, polys)
    return fewer(own, reduced_basis(plain_coding(coding), own))


def fewer(values, reducers):
    """Generators of an ideal, packed, or those of its reduced basis, if these are not more."""
    return values if len(values) < len(reducers) else [table_of(reducer) for reducer in reducers]


def basis_by(plain, coding, reducers):
    """The reducers of a basis by another coding of the same monomials, from those of one in "degrevlex"."""
    values = [recoded(plain, coding, table_of(reducer)) for reducer in reducers]
    return found_basis(coding, values, generated_numbers(plain, reducers)).reducers


def reduced_basis_by(plain, coding, values):
    """The reducers of the reduced basis of packed polynomials, by way of "degrevlex" if they are no basis."""
    ready = ready_basis(coding, values)
    if ready is not None:
        return reduced_among(coding, ready.reducers)
    if plain.rows == coding.rows:
        return reduced_among(coding, completed_basis(coding, values).reducers)
    return in_order(plain, coding, reduced_basis(plain, [recoded(coding, plain, value) for value in values]))


def in_order(plain, coding, reducers):
    """The reducers of the reduced basis by a coding, from those of a basis in "degrevlex"."""
    if plain.rows == coding.rows:
        return reduced_among(plain, reducers)
    return reduced_among(coding, basis_by(plain, coding, reducers))


def basis_of_reducers(coding, reducers):
    """The reduced basis, in the order of the ring, of the ideal of a basis in "degrevlex"."""
    return tuple([monic(coding, reducer) for reducer in in_order(plain_coding(coding), coding, reducers)])


def basis_of_values(coding, values):
    """The reduced basis, in the order of the ring, of the ideal of polynomials that are packed in "degrevlex"."""
    return basis_of_reducers(coding, reduced_basis(plain_coding(coding), values))
