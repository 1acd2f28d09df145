"""Hilbert functions, multiplicities and dimensions."""
from idealcore.bases import reducers_of_ideal
from idealcore.checks import check_even_ideal, check_generators, check_integer_in, check_ring
from idealcore.coding import plain_coding
from idealcore.plain import plain_reducers
from idealcore.series import add_shifted, first_lasting, lasting_polynomial, least_sum, row_of, value_at
from idealcore.tally import generated_numbers

MOST_HILBERT_DEGREE = 40


def heads_of(coding, reducers):
    """The leading monomials of reducers."""
    return [coding.exponents(reducer[0][0]) for reducer in reducers]


def numerator_row(coding, polys):
    """The integers k[j] of the quotient ring by the ideal of polynomials."""
    total = {0: 1}
    add_shifted(total, generated_numbers(plain_coding(coding), plain_reducers(coding, polys)), 0, -1)
    return row_of(total)


def hilbert_function(ring, polys, degree):
    """The values of the Hilbert function for the degrees from 0 to a degree."""
    coding = check_even_ideal(ring, polys)
    check_integer_in(degree, 0, MOST_HILBERT_DEGREE)
    row = numerator_row(coding, polys)
    return tuple([value_at(row, coding.many, at) for at in range(degree + 1)])


def hilbert_numerator(ring, polys):
    """The integers k[j] that tell the Hilbert function."""
    return numerator_row(check_even_ideal(ring, polys), polys)


def hilbert_polynomial(ring, polys):
    """The integers c[i] that tell the Hilbert function for great degrees."""
    coding = check_even_ideal(ring, polys)
    return lasting_polynomial(numerator_row(coding, polys), coding.many)


def hilbert_stays(ring, polys):
    """The least degree from which on the polynomial tells the Hilbert function."""
    coding = check_even_ideal(ring, polys)
    return first_lasting(numerator_row(coding, polys), coding.many)


def multiplicity(ring, polys):
    """The multiplicity of the quotient ring, 0 if 1 is in the ideal."""
    row = numerator_row(check_even_ideal(ring, polys), polys)
    return least_sum(row) if row else 0


def independent_sets(ring, polys):
    """The greatest sets of variables such that no leading monomial has these variables alone, ascending."""
    coding = check_ring(ring)
    check_generators(coding, polys)
    return greatest_sets(heads_of(coding, reducers_of_ideal(coding, polys)), coding.many)


def dimension(ring, polys):
    """The greatest length of an independent set, -1 if there is none."""
    coding = check_ring(ring)
    check_generators(coding, polys)
    return dimension_of(plain_coding(coding), plain_reducers(coding, polys))


def dimension_of(coding, reducers):
    """The dimension of the quotient ring by the ideal of the reducers of a basis."""
    return max([len(places) for places in greatest_sets(heads_of(coding, reducers), coding.many)], default=-1)


def greatest_sets(heads, many):
    """The greatest sets of variables that are those of no monomial alone, ascending."""
    free = []
    for places in subsets(many):
        others = [place for place in range(many) if place not in places]
        if all([any([head[place] for place in others]) for head in heads]):
            free.append(places)
    return sorted([places for places in free if not any([is_part(places, other) for other in free])])


def subsets(many):
    """All ascending tuples of indexes of variables."""
    found = [()]
    for place in range(many):
        found = found + [places + (place,) for places in found]
    return found


def is_part(places, other):
    """Whether a set of variables is part of another, longer one."""
    return len(places) < len(other) and all([place in other for place in places])
