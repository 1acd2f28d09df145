"""Minimal resolutions."""
from idealcore.checks import MOST_VECTORS, check_even_ideal, is_row_of_polynomials, is_tuple_up_to
from idealcore.coding import plain_coding
from idealcore.completion import Completion
from idealcore.packed import packed, sum_of_terms
from idealcore.plain import plain_reducers
from idealcore.steps import Step, has_just_syzygies
from idealcore.vectors import tells_vector


def minimal_generators(ring, polys):
    """The indexes of the generators that are kept if each one in the ideal of those kept so far is left out."""
    coding = check_even_ideal(ring, polys)
    return tuple(kept_indexes(coding, polys))


def kept_indexes(coding, polys):
    """The list of these indexes."""
    plain = plain_coding(coding)
    return Completion(plain, [packed(plain, p) for p in polys]).needed_generators()


def minimal_steps(coding, polys):
    """The steps of a minimal resolution."""
    plain = plain_coding(coding)
    vectors = [(polys[index],) for index in kept_indexes(coding, polys)]
    steps = []
    step = Step([0], vectors) if vectors else None
    while step is not None:
        steps.append(step)
        # No resolution has more steps than there are variables.
        step = step.following(plain) if len(steps) < coding.many else None
    return steps


def resolution(ring, polys):
    """A minimal resolution of the ideal of generators."""
    coding = check_even_ideal(ring, polys)
    found = []
    for step in minimal_steps(coding, polys):
        found.append(tuple([tuple([sum_of_terms(coding, p) for p in vector]) for vector in step.vectors]))
    return tuple(found)


def shows_resolution(ring, polys, value):
    """Whether any value is a minimal resolution of the ideal of generators."""
    coding = check_even_ideal(ring, polys)
    steps = told_steps(coding, value)
    if steps is None:
        return False
    if not steps:
        return not any(polys)
    plain = plain_coding(coding)
    if plain_reducers(coding, [vector[0] for vector in steps[0].vectors]) != plain_reducers(coding, polys):
        return False
    later = steps[1:] + [None]
    return all([has_just_syzygies(plain, step, behind) for step, behind in zip(steps, later)])


def told_steps(coding, value):
    """The steps of a value, each with syzygies of the one ahead, None if it has not the form of a resolution."""
    if not is_tuple_up_to(value, coding.many):
        return None
    steps = []
    for vectors in value:
        ahead = steps[-1] if steps else None
        degrees = [0] if ahead is None else ahead.degrees
        if not are_vectors(coding, vectors, len(degrees)):
            return None
        step = Step(degrees, list(vectors))
        if None in step.degrees or ahead is not None and not are_behind(coding, step, ahead):
            return None
        steps.append(step)
    return steps


def are_vectors(coding, value, rank):
    """Whether a value is a tuple of vectors of a rank, at least one and not too many."""
    if not is_tuple_up_to(value, MOST_VECTORS) or len(value) == 0:
        return False
    return all([is_row_of_polynomials(coding, vector, rank) for vector in value])


def are_behind(coding, step, ahead):
    """Whether the vectors of a step are syzygies of those of the step ahead, with no number at a place."""
    nothing = ((),) * len(ahead.place_degrees)
    for vector in step.vectors:
        if any([p and sum(p[0][1]) == 0 for p in vector]) or not tells_vector(coding, vector, ahead.vectors, nothing):
            return False
    return True


def betti_numbers(ring, polys):
    """The triples (step, degree, number) of a minimal resolution, ascending."""
    return counted_degrees(check_even_ideal(ring, polys), polys)


def counted_degrees(coding, polys):
    """The list of these triples."""
    steps = minimal_steps(coding, polys)
    if steps and 0 in steps[0].degrees:
        return []
    found = [(0, 0, 1)]
    for index, step in enumerate(steps):
        for degree in sorted(set(step.degrees)):
            found.append((index + 1, degree, step.degrees.count(degree)))
    return found


def regularity(ring, polys):
    """The greatest difference of a degree and its step, None if there is none."""
    triples = counted_degrees(check_even_ideal(ring, polys), polys)
    return max([degree - step for step, degree, _ in triples], default=None)
