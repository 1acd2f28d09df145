"""Modules of vectors."""
from idealcore.checks import check_rank, check_ring, check_vector, check_vectors, is_row_of_polynomials
from idealcore.coding import plain_coding
from idealcore.modules import Places
from idealcore.packed import packed, products_sum, same_packed
from idealcore.plain import reduced_basis_by
from idealcore.reducing import divided, monic, rest_polynomial
from idealcore.tracing import Tracer, cofactors


def check_lot(ring, rank, vectors):
    """The coding of a ring, if rank is a rank and vectors are such of this rank."""
    coding = check_ring(ring)
    check_rank(rank)
    check_vectors(coding, rank, vectors)
    return coding


def check_lot_and_vector(ring, rank, vectors, vector):
    """The coding of a ring, if the vector has the rank, too."""
    coding = check_lot(ring, rank, vectors)
    check_vector(coding, rank, vector)
    return coding


def module_reducers(coding, places, vectors):
    """The reducers of the reduced basis of a module."""
    plain = Places(plain_coding(coding), places.rank)
    return reduced_basis_by(plain.coding, places.coding, [places.packed_vector(vector) for vector in vectors])


def module_basis(ring, rank, vectors):
    """The reduced basis of the module of vectors."""
    coding = check_lot(ring, rank, vectors)
    places = Places(coding, rank)
    reducers = module_reducers(coding, places, vectors)
    return tuple([places.vector(monic(places.coding, reducer)) for reducer in reducers])


def module_normal_form(ring, rank, vectors, vector):
    """The vector that is left of a vector modulo the module."""
    coding = check_lot_and_vector(ring, rank, vectors, vector)
    places = Places(coding, rank)
    rest, _ = divided(places.coding, places.packed_vector(vector), module_reducers(coding, places, vectors))
    return places.vector(rest_polynomial(places.coding, rest))


def module_member(ring, rank, vectors, vector):
    """The cofactors of a vector of the module, None if it is not in it."""
    coding = check_lot_and_vector(ring, rank, vectors, vector)
    places = Places(plain_coding(coding), rank)
    tracer = Tracer(places.coding, [places.packed_vector(row) for row in vectors])
    return cofactors(coding, tracer, places.packed_vector(vector))


def shows_module_member(ring, rank, vectors, vector, value):
    """Whether any value is a tuple of cofactors with which the sum of the products is a vector."""
    coding = check_lot_and_vector(ring, rank, vectors, vector)
    return tells_vector(coding, value, vectors, vector)


def tells_vector(coding, value, vectors, vector):
    """Whether a value is a tuple of cofactors of some vectors with which the sum of the products is a vector."""
    if not is_row_of_polynomials(coding, value, len(vectors)):
        return False
    factors = [packed(coding, cofactor) for cofactor in value]
    for place, p in enumerate(vector):
        pairs = [(factor, packed(coding, row[place])) for factor, row in zip(factors, vectors)]
        if not same_packed(coding.field, products_sum(coding.field, pairs), packed(coding, p)):
            return False
    return True
