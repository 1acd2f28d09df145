"""Polynomials and the arithmetic with them."""
from idealcore.checks import check_images, check_integer_in, check_number, check_point, check_polynomial, check_ring
from idealcore.checks import check_ring_alike, check_target, check_terms, check_two_polynomials, check_variable
from idealcore.exponents import shifted
from idealcore.fields import as_fraction, make_number, multiply_numbers, negate_number
from idealcore.packed import combination, packed, packed_product, sum_of_terms, unpacked

MOST_POWER = 12


def polynomial(ring, terms):
    """The sum of any terms."""
    coding = check_ring(ring)
    check_terms(coding, terms)
    return sum_of_terms(coding, terms)


def plus(ring, p, q):
    """The sum."""
    coding = check_two_polynomials(ring, p, q)
    return sum_of_terms(coding, p + q)


def minus(ring, p, q):
    """The difference."""
    coding = check_two_polynomials(ring, p, q)
    negative = [(negate_number(coding.field, number), monomial) for number, monomial in q]
    return sum_of_terms(coding, list(p) + negative)


def times(ring, p, q):
    """The product."""
    coding = check_two_polynomials(ring, p, q)
    return unpacked(coding, packed_product(coding.field, packed(coding, p), packed(coding, q)))


def scaled(ring, p, number):
    """The product with a number."""
    coding = check_ring(ring)
    check_polynomial(coding, p)
    check_number(coding.field, number)
    return sum_of_terms(coding, [(multiply_numbers(coding.field, number, own), monomial) for own, monomial in p])


def power(ring, p, exponent):
    """The power with an exponent."""
    coding = check_ring(ring)
    check_polynomial(coding, p)
    check_integer_in(exponent, 0, MOST_POWER)
    return unpacked(coding, powers_up_to(coding.field, packed(coding, p), exponent)[exponent])


def powers_up_to(field, value, exponent):
    """The list of the powers of a packed polynomial with the exponents from 0 to an exponent."""
    powers = [({0: 1}, 1)]
    for _ in range(exponent):
        powers.append(packed_product(field, powers[-1], value))
    return powers


def leading(ring, p):
    """The first term, None for zero."""
    check_polynomial(check_ring(ring), p)
    return p[0] if p else None


def degree(ring, p):
    """The greatest degree of a monomial, -1 for zero."""
    check_polynomial(check_ring(ring), p)
    return max([sum(monomial) for _, monomial in p], default=-1)


def integer_powers(base, exponent):
    """The list of the powers of an integer with the exponents from 0 to an exponent."""
    powers = [1]
    for _ in range(exponent):
        powers.append(powers[-1] * base)
    return powers


def evaluate(ring, p, point):
    """The value at a point."""
    coding = check_ring(ring)
    check_polynomial(coding, p)
    check_point(coding, point)
    field = coding.field
    highest = [max([monomial[k] for _, monomial in p], default=0) for k in range(coding.many)]
    fractions = [as_fraction(field, number) for number in point]
    # One common denominator, so that there is one division only, at the end.
    uppers = [integer_powers(n, most) for (n, _), most in zip(fractions, highest)]
    lowers = [integer_powers(d, most) for (_, d), most in zip(fractions, highest)]
    table, below = packed(coding, p)
    total = 0
    for code, n in table.items():
        for upper, lower, exponent in zip(uppers, lowers, coding.exponents(code)):
            n = n * upper[exponent] * lower[-1 - exponent]
        total += n
    for lower in lowers:
        below = below * lower[-1]
    return make_number(field, total, below)


def derivative(ring, p, place):
    """The derivative by a variable."""
    coding = check_ring(ring)
    check_polynomial(coding, p)
    check_variable(coding, place)
    field = coding.field
    terms = []
    for number, monomial in p:
        exponent = monomial[place]
        if exponent > 0:
            factor = make_number(field, exponent, 1)
            terms.append((multiply_numbers(field, number, factor), shifted(monomial, place, -1)))
    return sum_of_terms(coding, terms)


def substitute(ring, p, target, values):
    """The polynomial of the target that comes from p by putting polynomials in the places of the variables."""
    coding = check_ring(ring)
    check_polynomial(coding, p)
    aim = check_target(coding, target)
    check_images(coding, aim, values)
    highest = [max([monomial[k] for _, monomial in p], default=0) for k in range(coding.many)]
    powers = [powers_up_to(aim.field, packed(aim, value), most) for value, most in zip(values, highest)]
    return unpacked(aim, put_in(coding, p, aim.field, powers))


def put_in(coding, p, field, powers):
    """The packed sum of the terms of p with powers of packed polynomials in the places of the variables."""
    parts_of_sum = []
    for number, monomial in p:
        n, d = as_fraction(field, number)
        value = ({0: 1}, 1)
        for row, exponent in zip(powers, monomial):
            if exponent > 0:
                value = packed_product(field, value, row[exponent])
        parts_of_sum.append((n, d, 0, value))
    return combination(field, parts_of_sum)


def parts(ring, p):
    """The pairs of a degree and the terms of this degree, ascending."""
    check_polynomial(check_ring(ring), p)
    terms = {}
    for number, monomial in p:
        terms.setdefault(sum(monomial), []).append((number, monomial))
    return [(total, tuple(terms[total])) for total in sorted(list(terms))]


def reordered(ring, p, other):
    """The same polynomial in a ring with another order."""
    coding = check_ring(ring)
    check_polynomial(coding, p)
    aim = check_ring_alike(coding, other)
    return sum_of_terms(aim, p)
