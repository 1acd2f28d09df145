"""Ideals put together from others."""
from idealcore.checks import check_generators, check_integer_in, check_polynomial, check_ring, check_two_lots
from idealcore.coding import plain_coding
from idealcore.colons import ONE, least_exponent, part_inside, rest_of, saturated
from idealcore.packed import packed, packed_product
from idealcore.plain import basis_of_reducers, basis_of_values, few_values, packed_plainly, plain_reducers
from idealcore.reducing import table_of

MOST_EXPONENT = 4


def ideal_sum(ring, one, other):
    """The ideal of all generators of both."""
    coding = check_two_lots(ring, one, other)
    return basis_of_values(coding, packed_plainly(coding, one + other))


def ideal_product(ring, one, other):
    """The ideal of all products of an element of one and an element of the other."""
    coding = check_two_lots(ring, one, other)
    return basis_of_values(coding, products_of(coding.field, few_values(coding, one), few_values(coding, other)))


def products_of(field, one, other):
    """The products of each two of some packed polynomials and others."""
    return [packed_product(field, p, q) for p in one for q in other]


def ideal_power(ring, polys, exponent):
    """The product of so many times the ideal."""
    coding = check_ring(ring)
    check_generators(coding, polys)
    check_integer_in(exponent, 0, MOST_EXPONENT)
    factors = few_values(coding, polys)
    # The index tells from which factor on the product may be multiplied, so that each one comes once.
    products = [(0, ({0: 1}, 1))]
    for _ in range(exponent):
        products = [(index, packed_product(coding.field, value, factors[index]))
                    for start, value in products for index in range(start, len(factors))]
    return basis_of_values(coding, [value for _, value in products])


def meet(ring, one, other):
    """The ideal of the polynomials that are in both."""
    coding = check_two_lots(ring, one, other)
    found = meet_of_bases(plain_coding(coding), plain_reducers(coding, one), plain_reducers(coding, other))
    return basis_of_reducers(coding, found)


def meet_of_bases(plain, one, other):
    """A basis of the meet of the ideals of two reduced bases."""
    return part_inside(plain, one, other, ({0: 1}, 1))


def quotient(ring, one, other):
    """The ideal of the polynomials whose products with all elements of other are in one."""
    coding = check_two_lots(ring, one, other)
    found = quotient_of_basis(plain_coding(coding), plain_reducers(coding, one), packed_plainly(coding, other))
    return basis_of_reducers(coding, found)


def quotient_of_basis(plain, reducers, values):
    """A basis of the quotient of the ideal of a reduced basis by that of some packed polynomials."""
    some = [ONE]
    for p in values:
        if rest_of(plain, p, reducers)[0]:
            some = part_inside(plain, reducers, some, p)
    return some


def check_ideal_and_polynomial(ring, polys, p):
    """The coding of a ring, if polys are generators and p is a polynomial of it."""
    coding = check_ring(ring)
    check_generators(coding, polys)
    check_polynomial(coding, p)
    return coding


def saturation(ring, polys, p):
    """The ideal of the polynomials whose product with some power of p is in the ideal, with the least exponent."""
    coding = check_ideal_and_polynomial(ring, polys, p)
    plain = plain_coding(coding)
    value = packed(plain, p)
    reducers = plain_reducers(coding, polys)
    found = saturated(plain, reducers, value)
    some = [table_of(reducer) for reducer in found]
    return (least_exponent(plain, reducers, some, value), basis_of_reducers(coding, found))


def in_radical(ring, polys, p):
    """The least exponent from 1 on with which a power of p is in the ideal, None if there is none."""
    coding = check_ideal_and_polynomial(ring, polys, p)
    plain = plain_coding(coding)
    value = packed(plain, p)
    reducers = plain_reducers(coding, polys)
    one = ({0: 1}, 1)
    if rest_of(plain, one, saturated(plain, reducers, value))[0]:
        return None
    return max(1, least_exponent(plain, reducers, [one], value))
