"""Primary parts of ideals with finite quotient rings, over prime fields.

What is equal to its power with the prime is a sum of numbers times the idempotents of the parts.
"""
from idealcore.checks import check_generators, check_ring
from idealcore.errors import NotPrime
from idealcore.fields import inverse_modulo
from idealcore.linear import Echelon
from idealcore.packed import combination
from idealcore.quotients import VectorIdeal, marked, powers_relation, quotient_in
from idealcore.reducing import monic


def check_prime_quotient(ring, polys):
    """The finite quotient ring of an ideal over a prime field: NotPrime, NotFinite, TooMany(60)."""
    coding = check_ring(ring)
    check_generators(coding, polys)
    if coding.field == 0:
        raise NotPrime("the field is not a prime")
    return quotient_in(coding, polys)


def prime_powers(quotient):
    """The powers with the prime of the standard monomials, in order."""
    found = [quotient.one()] if quotient.codes else []
    for index, place in quotient.parents:
        vector = found[index]
        for _ in range(quotient.coding.field):
            vector = quotient.times(vector, place)
        found.append(vector)
    return found


def constants(quotient):
    """Independent vectors whose sums are all that are equal to their power with the prime."""
    prime = quotient.coding.field
    echelon = Echelon(prime)
    found = []
    for index, vector in enumerate(prime_powers(quotient)):
        gap = combination(prime, [(1, 1, 0, vector), (-1, 1, index, ({0: 1}, 1))])
        relation = echelon.put(marked(gap, index))
        if relation is not None:
            found.append(({-1 - mark: n for mark, n in relation.items()}, 1))
    return found


def idempotent_vectors(quotient):
    """The vectors of the idempotents of the parts, in no special order."""
    found = [quotient.one()] if quotient.codes else []
    vectors = constants(quotient)
    for vector in vectors:
        # There are as many parts as constants: nothing is left to split then.
        if len(found) < len(vectors):
            rows = quotient.multiples(vector)
            found = [piece for whole in found for piece in split(quotient.coding.field, whole, rows)]
    return found


def split(prime, whole, rows):
    """The idempotents whose sum is another one, and times which a constant, told by its rows, is a number."""
    powers, relation = powers_relation(prime, whole, rows)
    if len(relation) == 2:
        return [whole]
    roots = [root for root in range(prime) if value_at(prime, relation, root) == 0]
    found = []
    for root in roots:
        factor = without_root(prime, relation, root)
        scale = inverse_modulo(value_at(prime, factor, root), prime)
        found.append(combination(prime, [(scale * n, 1, 0, power) for n, power in zip(factor, powers)]))
    return found


def value_at(prime, numbers, root):
    """The value of a polynomial in one variable, told by its numbers from that of the power 0 on."""
    total = 0
    for n in reversed(numbers):
        total = (total * root + n) % prime
    return total


def without_root(prime, numbers, root):
    """The quotient of such a polynomial by the variable less a root."""
    found = []
    total = 0
    for n in reversed(numbers[1:]):
        total = (total * root + n) % prime
        found.append(total)
    return list(reversed(found))


def parts_of(quotient):
    """The pairs of the reduced basis of a part and the vector of its idempotent, ascending by the bases."""
    coding = quotient.coding
    found = []
    for vector in idempotent_vectors(quotient):
        # A polynomial is in the part if its product with the idempotent is zero.
        reducers = VectorIdeal(coding, quotient.rows, vector).reducers
        found.append((tuple([monic(coding, reducer) for reducer in reducers]), vector))
    return sorted(found, key=lambda pair: pair[0])


def primary_ideals(ring, polys):
    """The reduced bases of the primary parts, sorted as tuples."""
    return [basis for basis, _ in parts_of(check_prime_quotient(ring, polys))]


def part_count(ring, polys):
    """The number of the primary parts."""
    return len(constants(check_prime_quotient(ring, polys)))


def idempotents(ring, polys):
    """For each part, in order, the normal form that is 1 modulo it and 0 modulo all others."""
    quotient = check_prime_quotient(ring, polys)
    return [quotient.polynomial(vector) for _, vector in parts_of(quotient)]
