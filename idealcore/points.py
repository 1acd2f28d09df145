"""Zeros in a prime field, and ideals of points."""
from idealcore.checks import check_generators, check_numbers, check_points, check_ring
from idealcore.coding import plain_coding
from idealcore.completion import ready_basis, reduced_among
from idealcore.division import cofactors_and_rest
from idealcore.errors import NotPrime, TooMany
from idealcore.fields import as_fraction
from idealcore.membership import tells
from idealcore.packed import combination, packed, packed_product, unpacked
from idealcore.quotients import VectorIdeal
from idealcore.reducing import monic
from idealcore.tracing import tracer_of

MOST_FIELD_POINTS = 1000


def check_field_points(ring, polys):
    """The coding of a ring over a prime field with few points, if polys are generators: NotPrime, TooMany(1000)."""
    coding = check_ring(ring)
    check_generators(coding, polys)
    if coding.field == 0:
        raise NotPrime("the field is not a prime")
    total = 1
    for _ in range(coding.many):
        total = total * coding.field
    if total > MOST_FIELD_POINTS:
        raise TooMany(MOST_FIELD_POINTS)
    return coding


def folded_exponent(prime, exponent):
    """The exponent below the prime with which a power of a variable has the same values."""
    return exponent if exponent < prime else (exponent - 1) % (prime - 1) + 1


def folded(coding, value):
    """The packed polynomial with exponents below the prime that has the same values as another one."""
    total = {}
    for code, n in value[0].items():
        at = coding.code([folded_exponent(coding.field, exponent) for exponent in coding.exponents(code)])
        total[at] = (total.get(at, 0) + n) % coding.field
    return ({code: n for code, n in total.items() if n}, 1)


def zeros(ring, polys):
    """All points at which all generators are zero, ascending."""
    return tuple(field_zeros(check_field_points(ring, polys), polys))


def field_zeros(coding, polys):
    """The list of these points."""
    values = [folded(coding, packed(coding, p)) for p in polys]
    tables = [{coding.exponents(code): n for code, n in table.items()} for table, _ in values]
    return zeros_behind(coding.field, coding.many, (), tables)


def zeros_behind(prime, many, start, tables):
    """The zeros that begin with some numbers, which have been put into the tables; these are left with the others."""
    if len(start) == many:
        return [] if any(tables) else [start]
    found = []
    for number in range(prime):
        powers = [1]
        for _ in range(prime - 1):
            powers.append(powers[-1] * number % prime)
        found += zeros_behind(prime, many, start + (number,), [put_in_first(prime, table, powers) for table in tables])
    return found


def put_in_first(prime, table, powers):
    """The table that is left if a number, told by its powers, is put in the place of the first variable."""
    total = {}
    for exponents, n in table.items():
        rest = exponents[1:]
        total[rest] = (total.get(rest, 0) + n * powers[exponents[0]]) % prime
    return {exponents: n for exponents, n in total.items() if n}


def field_polynomials(coding):
    """The field's polynomial of each variable, packed."""
    return [({coding.field * unit: 1, unit: coding.field - 1}, 1) for unit in coding.units]


def field_basis(ring, polys):
    """The reduced basis of the ideal of the generators and the field's polynomials."""
    coding = check_field_points(ring, polys)
    values = [folded(coding, packed(coding, p)) for p in polys]
    ready = ready_basis(coding, [value for value in values if value[0]] + field_polynomials(coding))
    if ready is not None:
        return tuple([monic(coding, reducer) for reducer in reduced_among(coding, ready.reducers)])
    # The polynomials of this ideal are those that are zero at all zeros.
    return basis_at(coding, field_zeros(coding, polys))


def no_zero(ring, polys):
    """Cofactors of the generators and the field's polynomials with 1 as the sum of the products, None if zeros are."""
    coding = check_field_points(ring, polys)
    if field_zeros(coding, polys):
        return None
    factors = few_cofactors(coding, polys)
    # What is left of 1 is zero at all points, and so the field's polynomials divide it.
    parts = [(1, 1, 0, ({0: 1}, 1))]
    for factor, p in zip(factors, polys):
        parts.append((-1, 1, 0, packed_product(coding.field, factor, packed(coding, p))))
    divisors = [unpacked(coding, value) for value in field_polynomials(coding)]
    behind, _ = cofactors_and_rest(coding, combination(coding.field, parts), divisors)
    return tuple([unpacked(coding, factor) for factor in factors] + behind)


def few_cofactors(coding, polys):
    """Packed cofactors, with exponents below the prime, with which the sum of the products is 1 at all points."""
    plain = plain_coding(coding)
    few = [unpacked(plain, folded(plain, packed(plain, p))) for p in polys]
    tracer = tracer_of(plain, few + [unpacked(plain, value) for value in field_polynomials(plain)])
    row = tracer.row(({0: 1}, 1))
    return [packed(coding, unpacked(plain, folded(plain, factor))) for factor in row[:len(polys)]]


def shows_no_zero(ring, polys, value):
    """Whether any value is a tuple of such cofactors."""
    coding = check_field_points(ring, polys)
    divisors = tuple([unpacked(coding, divisor) for divisor in field_polynomials(coding)])
    return tells(coding, value, polys + divisors, ((1, (0,) * coding.many),))


def ideal_at(coding, points):
    """The ideal of the polynomials that are zero at all points, by their values there."""
    rows = []
    for place in range(coding.many):
        numbers = [as_fraction(coding.field, point[place]) for point in points]
        rows.append([({index: n} if n else {}, d) for index, (n, d) in enumerate(numbers)])
    return VectorIdeal(coding, rows, ({index: 1 for index in range(len(points))}, 1))


def basis_at(coding, points):
    """The reduced basis of this ideal."""
    return tuple([monic(coding, reducer) for reducer in ideal_at(coding, points).reducers])


def points_ideal(ring, points):
    """The reduced basis of the ideal of all polynomials that are zero at some points."""
    coding = check_ring(ring)
    check_points(coding, points)
    return basis_at(coding, points)


def vector_of(coding, values):
    """The vector of some numbers."""
    fractions = [as_fraction(coding.field, number) for number in values]
    return combination(coding.field, [(n, d, index, ({0: 1}, 1)) for index, (n, d) in enumerate(fractions)])


def interpolated(ring, points, values):
    """The polynomial that has told values at some points, a sum of numbers times standard monomials."""
    coding = check_ring(ring)
    check_points(coding, points)
    check_numbers(coding.field, values, len(points))
    return unpacked(coding, ideal_at(coding, points).standard_sum(vector_of(coding, values)))


def separators(ring, points):
    """For each point the polynomial that is 1 there and 0 at the others."""
    coding = check_ring(ring)
    check_points(coding, points)
    ideal = ideal_at(coding, points)
    vectors = [({index: 1}, 1) for index in range(len(points))]
    return tuple([unpacked(coding, ideal.standard_sum(vector)) for vector in vectors])
