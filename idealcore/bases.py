"""Bases of ideals."""
from idealcore.checks import MOST_DIVISORS, check_generators, check_integer_in, check_polynomials, check_ring
from idealcore.checks import check_two_polynomials
from idealcore.coding import plain_coding
from idealcore.completion import is_complete
from idealcore.division import cofactors_and_rest
from idealcore.exponents import monomials_up_to
from idealcore.packed import packed, unpacked
from idealcore.plain import reduced_basis_by
from idealcore.reducing import monic, reducers_of, s_value


def s_polynomial(ring, p, q):
    """The S-polynomial of two polynomials."""
    coding = check_two_polynomials(ring, p, q)
    return unpacked(coding, s_packed(coding, p, q))


def s_packed(coding, p, q):
    """The S-polynomial of two polynomials, packed."""
    reducers = own_reducers(coding, (p, q))
    if len(reducers) < 2:
        return ({}, 1)
    value, _ = s_value(coding, reducers[0], reducers[1])
    return value


def own_reducers(coding, polys):
    """The reducers of those polynomials that are not zero."""
    return [reducer for reducer, _, _, _ in reducers_of(coding.field, [packed(coding, p) for p in polys])]


def basis_gap(ring, polys):
    """The first pair of indexes for which the division of the S-polynomial leaves a rest, with this rest."""
    coding = check_ring(ring)
    check_polynomials(coding, polys, MOST_DIVISORS)
    if are_basis(coding, polys):
        return None
    for i in range(len(polys)):
        for j in range(i + 1, len(polys)):
            _, rest = cofactors_and_rest(coding, s_packed(coding, polys[i], polys[j]), polys)
            if rest:
                return (i, j, rest)
    return None


def is_basis(ring, polys):
    """Whether polynomials are a basis of their ideal."""
    coding = check_ring(ring)
    check_polynomials(coding, polys, MOST_DIVISORS)
    return are_basis(coding, polys)


def are_basis(coding, polys):
    """Whether polynomials are a basis."""
    return is_complete(coding, own_reducers(coding, polys))


def reducers_of_ideal(coding, polys):
    """The reducers of the reduced basis of the ideal of some polynomials."""
    return reduced_basis_by(plain_coding(coding), coding, [packed(coding, p) for p in polys])


def basis(ring, polys):
    """The reduced basis of the ideal of generators."""
    coding = check_ring(ring)
    check_generators(coding, polys)
    return tuple([monic(coding, reducer) for reducer in reducers_of_ideal(coding, polys)])


def leading_monomials(ring, polys):
    """The leading monomials of the reduced basis."""
    coding = check_ring(ring)
    check_generators(coding, polys)
    return tuple([coding.exponents(reducer[0][0]) for reducer in reducers_of_ideal(coding, polys)])


def standard_monomials(ring, polys, degree):
    """The monomials of at most a degree that no leading monomial divides, ascending."""
    coding = check_ring(ring)
    check_generators(coding, polys)
    check_integer_in(degree, 0, 12)
    heads = [reducer[0][0] for reducer in reducers_of_ideal(coding, polys)]
    codes = [coding.code(monomial) for monomial in monomials_up_to(coding.many, degree)]
    kept = [code for code in codes if not any([coding.divides(head, code) for head in heads])]
    return [coding.exponents(code) for code in sorted(kept)]
