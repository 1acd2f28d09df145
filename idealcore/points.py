"""Zeros in a prime field, and ideals of points."""
from idealcore.checks import check_generators, check_numbers, check_points, check_ring
from idealcore.coding import plain_coding
from idealcore.completion import ready_basis, reduced_among
from idealcore.division import cofactors_and_rest
from idealcore.errors import NotPrime, TooMany
from idealcore.fields import as_fraction
from idealcore.fieldpoints import UnitSearch, field_polynomials, folded, zeros_of
from idealcore.membership import tells
from idealcore.packed import combination, packed, packed_product, sum_of_terms, unpacked
from idealcore.quotients import VectorIdeal
from idealcore.reducing import monic

MOST_FIELD_POINTS = 1000


def check_field_points(ring, polys):
    """The coding of a ring over a prime field with few points, if polys are generators: NotPrime, TooMany(1000)."""
    coding = check_ring(ring)
    check_generators(coding, polys)
    if coding.field == 0:
        raise NotPrime("the field is not a prime")
    total = 1
    for _ in range(coding.many):
        total = total * coding.field
    if total > MOST_FIELD_POINTS:
        raise TooMany(MOST_FIELD_POINTS)
    return coding


def zeros(ring, polys):
    """All points at which all generators are zero, ascending."""
    coding = check_field_points(ring, polys)
    return tuple(zeros_of(coding, folded_values(coding, polys)))


def folded_values(coding, polys):
    """The packed polynomials with exponents below the prime that have the same values as some polynomials."""
    return [folded(coding, packed(coding, p)) for p in polys]


def field_basis(ring, polys):
    """The reduced basis of the ideal of the generators and the field's polynomials."""
    coding = check_field_points(ring, polys)
    values = folded_values(coding, polys)
    ready = ready_basis(coding, [value for value in values if value[0]] + field_polynomials(coding))
    if ready is not None:
        return tuple([monic(coding, reducer) for reducer in reduced_among(coding, ready.reducers)])
    # The polynomials of this ideal are those that are zero at all zeros.
    return basis_at(coding, zeros_of(coding, values))


def no_zero(ring, polys):
    """Cofactors of the generators and the field's polynomials with 1 as the sum of the products, None if zeros are."""
    coding = check_field_points(ring, polys)
    plain = plain_coding(coding)
    values = folded_values(plain, polys)
    if zeros_of(plain, values):
        return None
    factors = UnitSearch(plain, values).cofactors()
    products = [packed_product(coding.field, factor, packed(plain, p)) for factor, p in zip(factors, polys)]
    # The sum of the products is 1 at all points: the field's polynomials leave 1 of it, of the negative sum -1.
    negative = combination(coding.field, [(-1, 1, 0, product) for product in products])
    divisors = [unpacked(plain, value) for value in field_polynomials(plain)]
    behind, _ = cofactors_and_rest(plain, negative, divisors)
    found = [unpacked(plain, factor) for factor in factors] + behind
    return tuple([sum_of_terms(coding, p) for p in found])


def shows_no_zero(ring, polys, value):
    """Whether any value is a tuple of such cofactors."""
    coding = check_field_points(ring, polys)
    divisors = tuple([unpacked(coding, divisor) for divisor in field_polynomials(coding)])
    return tells(coding, value, polys + divisors, ((1, (0,) * coding.many),))


def ideal_at(coding, points):
    """The ideal of the polynomials that are zero at all points, by their values there."""
    rows = []
    for place in range(coding.many):
        numbers = [as_fraction(coding.field, point[place]) for point in points]
        rows.append([({index: n} if n else {}, d) for index, (n, d) in enumerate(numbers)])
    return VectorIdeal(coding, rows, ({index: 1 for index in range(len(points))}, 1))


def basis_at(coding, points):
    """The reduced basis of this ideal."""
    return tuple([monic(coding, reducer) for reducer in ideal_at(coding, points).reducers])


def points_ideal(ring, points):
    """The reduced basis of the ideal of all polynomials that are zero at some points."""
    coding = check_ring(ring)
    check_points(coding, points)
    return basis_at(coding, points)


def vector_of(coding, values):
    """The vector of some numbers."""
    fractions = [as_fraction(coding.field, number) for number in values]
    return combination(coding.field, [(n, d, index, ({0: 1}, 1)) for index, (n, d) in enumerate(fractions)])


def interpolated(ring, points, values):
    """The polynomial that has told values at some points, a sum of numbers times standard monomials."""
    coding = check_ring(ring)
    check_points(coding, points)
    check_numbers(coding.field, values, len(points))
    return unpacked(coding, ideal_at(coding, points).standard_sum(vector_of(coding, values)))


def separators(ring, points):
    """For each point the polynomial that is 1 there and 0 at the others."""
    coding = check_ring(ring)
    check_points(coding, points)
    ideal = ideal_at(coding, points)
    vectors = [({index: 1}, 1) for index in range(len(points))]
    return tuple([unpacked(coding, ideal.standard_sum(vector)) for vector in vectors])
