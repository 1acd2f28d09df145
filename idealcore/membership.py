"""Which polynomials are in an ideal, with certificates."""
from idealcore.bases import are_basis, reducers_of_ideal
from idealcore.checks import MOST_DIVISORS, check_generators, check_polynomial, check_ring, is_row_of_polynomials
from idealcore.checks import check_two_lots, is_tuple_of, is_tuple_up_to
from idealcore.division import cofactors_and_rest
from idealcore.packed import packed, products_sum, same_packed
from idealcore.reducing import divided, monic, rest_polynomial
from idealcore.tracing import cofactors, tracer_of


def basis_certificate(ring, polys):
    """A basis certificate for generators, with the reduced basis."""
    coding = check_ring(ring)
    check_generators(coding, polys)
    some = tuple([monic(coding, reducer) for reducer in reducers_of_ideal(coding, polys)])
    tracer = tracer_of(coding, polys)
    ahead = tuple([cofactors(coding, tracer, packed(tracer.plain, p)) for p in some])
    back = []
    for p in polys:
        row, _ = cofactors_and_rest(coding, packed(coding, p), some)
        back.append(tuple(row))
    return (some, ahead, tuple(back))


def shows_basis(ring, polys, value):
    """Whether any value is a basis certificate for generators."""
    coding = check_ring(ring)
    check_generators(coding, polys)
    if not is_tuple_of(value, 3):
        return False
    some, ahead, back = value
    if not is_tuple_up_to(some, MOST_DIVISORS) or not is_row_of_polynomials(coding, some, len(some)):
        return False
    return tell_all(coding, ahead, polys, some) and tell_all(coding, back, some, polys) and are_basis(coding, some)


def tell_all(coding, value, polys, sums):
    """Whether a value is a tuple of tuples of cofactors of some polynomials, one for each of the sums."""
    return is_tuple_of(value, len(sums)) and all(tells(coding, row, polys, p) for row, p in zip(value, sums))


def tells(coding, value, polys, p):
    """Whether a value is a tuple of cofactors of some polynomials with which the sum of the products is p."""
    if not is_row_of_polynomials(coding, value, len(polys)):
        return False
    pairs = [(packed(coding, cofactor), packed(coding, q)) for cofactor, q in zip(value, polys)]
    return same_packed(coding.field, products_sum(coding.field, pairs), packed(coding, p))


def normal_form(ring, polys, p):
    """The rest of the division of a polynomial by the reduced basis."""
    coding = check_ring(ring)
    check_generators(coding, polys)
    check_polynomial(coding, p)
    rest, _ = divided(coding, packed(coding, p), reducers_of_ideal(coding, polys))
    return rest_polynomial(coding, rest)


def member(ring, polys, p):
    """The cofactors of a polynomial of the ideal, None if it is not in it."""
    coding = check_ring(ring)
    check_generators(coding, polys)
    check_polynomial(coding, p)
    tracer = tracer_of(coding, polys)
    return cofactors(coding, tracer, packed(tracer.plain, p))


def shows_member(ring, polys, p, value):
    """Whether any value is a tuple of cofactors with which the sum of the products is a polynomial."""
    coding = check_ring(ring)
    check_generators(coding, polys)
    check_polynomial(coding, p)
    return tells(coding, value, polys, p)


def outsider(ring, one, other):
    """The index of the first polynomial of one that is not in the ideal of other, None if there is none."""
    return first_outside(check_two_lots(ring, one, other), one, other)


def same_ideal(ring, one, other):
    """Whether both ideals are the same."""
    coding = check_two_lots(ring, one, other)
    return first_outside(coding, one, other) is None and first_outside(coding, other, one) is None


def first_outside(coding, one, other):
    """The index of the first polynomial of one that is not in the ideal of other, None if there is none."""
    tracer = tracer_of(coding, other)
    for index, p in enumerate(one):
        if not tracer.holds(packed(tracer.plain, p)):
            return index
    return None
