"""Monomials and their orders."""
from idealcore.checks import check_integer_in, check_monomial, check_ring
from idealcore.exponents import monomials_up_to


def compare(ring, one, other):
    """1, 0 or -1 if one monomial is greater than, equal to or less than another one."""
    coding = check_ring(ring)
    check_monomial(coding, one)
    check_monomial(coding, other)
    difference = coding.code(one) - coding.code(other)
    if difference == 0:
        return 0
    return 1 if difference > 0 else -1


def order_rows(ring):
    """Rows of integers such that the first one that tells two monomials apart compares them."""
    return check_ring(ring).rows


def monomials(ring, degree):
    """All monomials of at most a degree, ascending."""
    coding = check_ring(ring)
    check_integer_in(degree, 0, 12)
    return sorted(monomials_up_to(coding.many, degree), key=lambda monomial: coding.code(monomial))


def monomial_lcm(ring, one, other):
    """The least common multiple of two monomials."""
    coding = check_ring(ring)
    check_monomial(coding, one)
    check_monomial(coding, other)
    return tuple([max(a, b) for a, b in zip(one, other)])


def monomial_quotient(ring, one, other):
    """The quotient of two monomials, None if the second one does not divide the first one."""
    coding = check_ring(ring)
    check_monomial(coding, one)
    check_monomial(coding, other)
    if any(a < b for a, b in zip(one, other)):
        return None
    return tuple([a - b for a, b in zip(one, other)])
