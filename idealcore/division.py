"""Division of a polynomial by several ones."""
from idealcore.checks import MOST_DIVISORS, check_polynomial, check_polynomials, check_ring
from idealcore.fields import make_number
from idealcore.packed import packed
from idealcore.reducing import divided, reducers_of, rest_polynomial


def divide(ring, p, divisors):
    """The cofactors of the divisors and the rest."""
    coding = check_ring(ring)
    check_polynomial(coding, p)
    check_polynomials(coding, divisors, MOST_DIVISORS)
    cofactors, rest = cofactors_and_rest(coding, packed(coding, p), divisors)
    return (tuple(cofactors), rest)


def cofactors_and_rest(coding, value, divisors):
    """The list of the cofactors, and the rest, of the division of a packed polynomial by polynomials."""
    ready = reducers_of(coding.field, [packed(coding, divisor) for divisor in divisors])
    rest, steps = divided(coding, value, [reducer for reducer, _, _, _ in ready])
    terms = [[] for _ in divisors]
    for position, code, n, d in steps:
        _, index, upper, lower = ready[position]
        # The steps of one divisor have descending monomials, as its cofactor must.
        number = make_number(coding.field, n * upper, d * lower)
        terms[index].append((number, coding.exponents(code)))
    return ([tuple(row) for row in terms], rest_polynomial(coding, rest))
