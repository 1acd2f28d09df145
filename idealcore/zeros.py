"""Finite quotient rings."""
from idealcore.checks import check_generators, check_polynomial, check_ring
from idealcore.coding import plain_coding
from idealcore.fields import make_number
from idealcore.packed import packed
from idealcore.plain import plain_reducers
from idealcore.quotients import leave_finite, plain_quotient, powers_relation, quotient_in


def is_finite(ring, polys):
    """Whether the quotient ring by the ideal of generators is finite."""
    coding = check_ring(ring)
    check_generators(coding, polys)
    return leave_finite(plain_coding(coding), plain_reducers(coding, polys))


def quotient_basis(ring, polys):
    """All standard monomials, ascending."""
    coding = check_ring(ring)
    check_generators(coding, polys)
    return tuple([coding.exponents(code) for code in quotient_in(coding, polys).codes])


def times_matrix(ring, polys, p):
    """For each standard monomial the numbers of the normal form of its product with a polynomial."""
    coding = check_ring(ring)
    check_generators(coding, polys)
    check_polynomial(coding, p)
    quotient = quotient_in(coding, polys)
    vectors = quotient.multiples(quotient.form(packed(coding, p)))
    return tuple([numbers_of(coding.field, vector, len(vectors)) for vector in vectors])


def numbers_of(field, vector, size):
    """The tuple of the numbers of a vector."""
    table, below = vector
    return tuple([make_number(field, table.get(index, 0), below) for index in range(size)])


def least_polynomial(ring, polys, p):
    """The numbers of the polynomial of least degree that is in the ideal if another one is put in."""
    coding = check_ring(ring)
    check_generators(coding, polys)
    check_polynomial(coding, p)
    quotient = plain_quotient(coding, polys)
    rows = quotient.multiples(quotient.form(packed(quotient.coding, p)))
    _, relation = powers_relation(coding.field, quotient.one(), rows)
    return tuple([make_number(coding.field, n, relation[-1]) for n in relation])
