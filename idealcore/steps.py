"""Steps of resolutions: vectors at whose places the monomials have one degree each."""
from idealcore.checks import MOST_VECTORS
from idealcore.completion import Completion, found_basis
from idealcore.errors import TooMany
from idealcore.modules import Places, vectors_with_units
from idealcore.packed import unpacked
from idealcore.series import add_shifted, row_of
from idealcore.tally import free_numbers, generated_numbers


def vector_degree(vector, place_degrees):
    """The degree of a vector, None if it is zero or has no degree."""
    found = [sum(monomial) + degree for p, degree in zip(vector, place_degrees) for _, monomial in p]
    if not found or min(found) < max(found):
        return None
    return found[0]


class Step:
    """Vectors with degrees, and the degrees of their places."""

    def __init__(self, place_degrees, vectors):
        self.place_degrees = place_degrees
        self.vectors = vectors
        self.degrees = [vector_degree(vector, place_degrees) for vector in vectors]

    def places(self, plain):
        """How the vectors are packed."""
        return Places(plain, len(self.place_degrees), 0, self.place_degrees)

    def following(self, plain):
        """The next step, None if there are no syzygies but zero."""
        vectors = least_syzygies(plain, self)
        return Step(self.degrees, vectors) if vectors else None

    def term_numbers(self, plain):
        """The numbers of the leading terms of each degree of the module of the vectors."""
        places = self.places(plain)
        found = found_basis(places.coding, [places.packed_vector(vector) for vector in self.vectors])
        return generated_numbers(places.coding, found.reducers)


def has_just_syzygies(plain, step, later):
    """Whether syzygies of a step, the vectors of a later one or none, generate all of them.

    The terms at the places of the later step are as many as the leading terms of the module of the step and those
    of all syzygies together.
    """
    total = step.term_numbers(plain)
    if later is not None:
        add_shifted(total, later.term_numbers(plain), 0, 1)
    return row_of(total) == row_of(free_numbers(step.degrees))


def least_syzygies(plain, step):
    """A least set of syzygies of the vectors of a step that generate all of them.

    Pairs are taken by ascending degrees, those of syzygies ahead of the others.  So a pair of others that leaves a
    syzygy leaves one that those so far do not generate.  The vectors with units of their own have no syzygies, and
    so their module has as many terms as places with their degrees.
    """
    rank = len(step.place_degrees)
    places = Places(plain, rank + len(step.vectors), rank, step.place_degrees + step.degrees)
    done = Completion(places.coding, vectors_with_units(places, rank, step.vectors), free_numbers(step.degrees))
    found = []
    while done.pile.pairs:
        _, one, _ = done.pile.pairs[0]
        is_ahead = one < 0 or leading_place(places, done, one) < rank
        if done.take() and is_ahead and leading_place(places, done, len(done.pile.reducers) - 1) >= rank:
            found.append(places.vector(unpacked_reducer(places, done))[rank:])
            if len(found) > MOST_VECTORS:
                raise TooMany(MOST_VECTORS)
    return found


def leading_place(places, done, index):
    """The place of the leading term of a reducer."""
    return places.place_of(done.lift.lowered(done.pile.head(index)))


def unpacked_reducer(places, done):
    """The terms of the last reducer."""
    table = {done.lift.lowered(code): n for code, n in done.pile.reducers[-1]}
    return unpacked(places.coding, (table, 1))
