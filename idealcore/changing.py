"""Reduced bases in other orders, up to a degree, and for all weights."""
from idealcore.checks import check_even_ideal, check_generators, check_integer_in, check_ring, check_ring_alike
from idealcore.coding import Coding, plain_coding, rows_of
from idealcore.completion import basis_up_to
from idealcore.packed import packed, unpacked
from idealcore.plain import in_order, packed_plainly, plain_reducers
from idealcore.quotients import plain_quotient, reducers_in
from idealcore.reducing import monic, reducer_of, table_of
from idealcore.tally import generated_numbers

MOST_BASIS_DEGREE = 12
MOST_WEIGHTS = 8


def changed(ring, polys, other):
    """The reduced basis, in a ring with another order, of an ideal with a finite quotient ring."""
    coding = check_ring(ring)
    check_generators(coding, polys)
    aim = check_ring_alike(coding, other)
    return tuple([monic(aim, reducer) for reducer in reducers_in(aim, plain_quotient(coding, polys))])


def graded_basis(ring, polys, degree):
    """Those polynomials of the reduced basis that have at most a degree."""
    coding = check_even_ideal(ring, polys)
    check_integer_in(degree, 0, MOST_BASIS_DEGREE)
    plain = plain_coding(coding)
    reducers = basis_up_to(plain, packed_plainly(coding, polys), degree)
    if coding.rows != plain.rows:
        # The leading monomials up to the degree are as many in each order.
        wanted = generated_numbers(plain, reducers)
        reducers = basis_up_to(coding, [packed(coding, p) for p in polys if p], degree, wanted)
    return tuple([monic(coding, reducer) for reducer in reducers])


class Marked:
    """A reduced basis for some weights, and for which other weights its leading monomials stay the same.

    They do if they stay the leading monomials of its polynomials.  Each other monomial is told by the differences
    of the exponents, and whether the leading one is greater where the sums are equal.
    """

    def __init__(self, coding, plain, reducers):
        self.coding = coding
        self.reducers = reducers
        found = {}
        for reducer in reducers:
            head = coding.exponents(reducer[0][0])
            for code, _ in reducer[1:]:
                other = coding.exponents(code)
                gaps = tuple([a - b for a, b in zip(head, other)])
                # What is greater at each variable is greater for all weights.
                if min(gaps) < 0:
                    found[gaps] = plain.code(head) > plain.code(other)
        self.gaps = list(found.items())

    def lasts(self, weights):
        """Whether its leading monomials are those for other weights."""
        for gaps, is_greater in self.gaps:
            total = sum([weight * gap for weight, gap in zip(weights, gaps)])
            if total < 0 or total == 0 and not is_greater:
                return False
        return True


def weights_up_to(many, most):
    """All tuples of integers from 1 on to a greatest one, ascending."""
    found = [()]
    for _ in range(many):
        found = [weights + (weight,) for weights in found for weight in range(1, most + 1)]
    return found


def marked_bases(coding, polys, most):
    """The pairs of weights and the reduced basis for them, those with leading monomials as ahead being left out."""
    plain = plain_coding(coding)
    reducers = plain_reducers(coding, polys)
    found = []
    for weights in weights_up_to(coding.many, most):
        if not any([basis.lasts(weights) for _, basis in found]):
            aim = Coding(coding.field, coding.many, rows_of(coding.many, ("weights", weights)))
            found.append((weights, Marked(aim, plain, in_order(plain, aim, reducers))))
    return found


def check_weights(ring, polys, most):
    """The coding of a ring, if polys are generators and most is a bound of weights: BadInteger."""
    coding = check_ring(ring)
    check_generators(coding, polys)
    check_integer_in(most, 1, MOST_WEIGHTS)
    return coding


def weight_bases(ring, polys, most):
    """The pairs of weights and the reduced basis for them, one for all weights with the same leading monomials."""
    found = []
    for weights, basis in marked_bases(check_weights(ring, polys, most), polys, most):
        found.append((weights, tuple([monic(basis.coding, reducer) for reducer in basis.reducers])))
    return found


def universal(ring, polys, most):
    """The polynomials of all these reduced bases, each once, sorted as tuples."""
    coding = check_weights(ring, polys, most)
    found = {}
    for _, basis in marked_bases(coding, polys, most):
        for reducer in basis.reducers:
            p = unpacked(basis.coding, table_of(reducer))
            found[monic(coding, reducer_of(coding.field, packed(coding, p)[0])[0])] = True
    return sorted(list(found))
