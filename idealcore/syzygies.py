"""Syzygies of polynomials and of vectors."""
from idealcore.bases import are_basis
from idealcore.checks import check_generators, check_rank, check_ring, check_vectors
from idealcore.completion import completed_basis, reduced_among
from idealcore.division import cofactors_and_rest
from idealcore.errors import NotBasis
from idealcore.modules import Places, vectors_with_units
from idealcore.packed import combination, packed, unpacked
from idealcore.reducing import monic, reducers_of, s_value
from idealcore.tally import free_numbers


def syzygies(ring, polys):
    """The reduced basis of the module of all syzygies of generators."""
    coding = check_ring(ring)
    check_generators(coding, polys)
    return reduced_syzygies(coding, 1, [(p,) for p in polys])


def vector_syzygies(ring, rank, vectors):
    """The reduced basis of the module of all syzygies of vectors."""
    coding = check_ring(ring)
    check_rank(rank)
    check_vectors(coding, rank, vectors)
    return reduced_syzygies(coding, rank, vectors)


def reduced_syzygies(coding, rank, vectors):
    """The reduced basis of the syzygies of vectors: what is left where the places of the vectors are zero."""
    if not vectors:
        return ()
    degrees = [max([sum(monomial) for p in vector for _, monomial in p], default=0) for vector in vectors]
    places = Places(coding, rank + len(vectors), ahead=rank, degrees=[0] * rank + degrees)
    # The vectors with units of their own have no syzygies: their module has as many terms as places alone.
    wanted = free_numbers(degrees)
    reducers = completed_basis(places.coding, vectors_with_units(places, rank, vectors), wanted).reducers
    behind = [reducer for reducer in reducers if places.place_of(reducer[0][0]) >= rank]
    rows = [monic(places.coding, reducer) for reducer in reduced_among(places.coding, behind)]
    return tuple([places.vector(row)[rank:] for row in rows])


def s_syzygies(ring, polys):
    """The syzygies that the S-polynomials of each pair of a basis tell."""
    coding = check_ring(ring)
    check_generators(coding, polys)
    if not all(polys) or not are_basis(coding, polys):
        raise NotBasis("not a basis without zero")
    pairs = [(i, j) for i in range(len(polys)) for j in range(i + 1, len(polys))]
    return [pair_syzygy(coding, polys, i, j) for i, j in pairs]


def pair_syzygy(coding, polys, i, j):
    """The syzygy that the division of the S-polynomial of the polynomials i and j tells."""
    ready = reducers_of(coding.field, [packed(coding, polys[i]), packed(coding, polys[j])])
    value, parts = s_value(coding, ready[0][0], ready[1][0])
    row, _ = cofactors_and_rest(coding, value, polys)
    sums = [[(-1, 1, 0, packed(coding, cofactor))] for cofactor in row]
    for at, (_, _, n, d), (code, upper, lower) in zip((i, j), ready, parts):
        sums[at].append((n * upper, d * lower, code, ({0: 1}, 1)))
    return tuple([unpacked(coding, combination(coding.field, lot)) for lot in sums])
