"""Steps of resolutions: vectors at whose places the monomials have one degree each."""
from idealcore.checks import MOST_VECTORS
from idealcore.completion import Completion, found_basis
from idealcore.errors import TooMany
from idealcore.modules import Places, vectors_with_units
from idealcore.packed import unpacked
from idealcore.series import add_shifted, numerator, row_of


def vector_degree(vector, place_degrees):
    """The degree of a vector, None if it is zero or has no degree."""
    found = [sum(monomial) + degree for p, degree in zip(vector, place_degrees) for _, monomial in p]
    if not found or min(found) < max(found):
        return None
    return found[0]


class Step:
    """Vectors with degrees, and the degrees of their places."""

    def __init__(self, place_degrees, vectors):
        self.place_degrees = place_degrees
        self.vectors = vectors
        self.degrees = [vector_degree(vector, place_degrees) for vector in vectors]

    def places(self, plain):
        """How the vectors are packed."""
        return Places(plain, len(self.place_degrees), 0, self.place_degrees)

    def following(self, plain):
        """The next step, None if there are no syzygies but zero."""
        vectors = least_syzygies(plain, self)
        return Step(self.degrees, vectors) if vectors else None

    def left_numerator(self, plain):
        """The integers k[j] of what the places have modulo the module, as in point 22."""
        places = self.places(plain)
        heads = [[] for _ in self.place_degrees]
        for reducer in found_basis(places.coding, [places.packed_vector(v) for v in self.vectors]).reducers:
            code = reducer[0][0]
            heads[places.place(code)].append(places.unmarked(code))
        total = {}
        for lot, degree in zip(heads, self.place_degrees):
            add_shifted(total, numerator(lot, plain.many), degree, 1)
        return total


def free_numerator(degrees):
    """The integers k[j] of vectors with places of such degrees."""
    total = {}
    for degree in degrees:
        add_shifted(total, {0: 1}, degree, 1)
    return total


def has_just_syzygies(plain, step, later):
    """Whether syzygies of a step, the vectors of a later one or none, generate all of them.

    What the step generates and what its places behind have modulo its syzygies are alike, so the dimensions tell it.
    """
    generated = free_numerator(step.place_degrees)
    add_shifted(generated, step.left_numerator(plain), 0, -1)
    left = free_numerator(step.degrees) if later is None else later.left_numerator(plain)
    return row_of(generated) == row_of(left)


def least_syzygies(plain, step):
    """A least set of syzygies of the vectors of a step that generate all of them.

    Pairs are taken by ascending degrees, those of syzygies ahead of the others.  So a pair of others that leaves a
    syzygy leaves one that those so far do not generate.
    """
    rank = len(step.place_degrees)
    places = Places(plain, rank + len(step.vectors), rank, step.place_degrees + step.degrees)
    done = Completion(places.coding, vectors_with_units(places, rank, step.vectors))
    found = []
    while done.pile.pairs:
        _, one, _ = done.pile.pairs[0]
        is_ahead = one < 0 or place_of(places, done, one) < rank
        if done.take() and is_ahead and place_of(places, done, len(done.pile.reducers) - 1) >= rank:
            found.append(places.vector(unpacked_reducer(places, done))[rank:])
            if len(found) > MOST_VECTORS:
                raise TooMany(MOST_VECTORS)
    return found


def place_of(places, done, index):
    """The place of the leading term of a reducer."""
    return places.place(done.lift.lowered(done.pile.head(index)))


def unpacked_reducer(places, done):
    """The terms of the last reducer."""
    table = {done.lift.lowered(code): n for code, n in done.pile.reducers[-1]}
    return unpacked(places.coding, (table, 1))
