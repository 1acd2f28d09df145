"""Complexes: sets of vertices, each told inside by the bits of an integer."""
from idealcore.checks import MOST_MONO_VARIABLES, check_field, check_many, check_monos, is_row_of_indexes
from idealcore.checks import is_tuple_up_to
from idealcore.errors import BadComplex, BadSets, TooMany
from idealcore.linear import rank
from idealcore.monoideals import ascending_least

MOST_SETS = 70


def check_sets(many, value):
    """BadInteger for many, BadSets for what is not a tuple of sets."""
    check_many(many)
    if not is_tuple_up_to(value, MOST_SETS):
        raise BadSets(None)
    for index, places in enumerate(value):
        if not is_row_of_indexes(places, many):
            raise BadSets(index)


def check_complex(many, value):
    """BadInteger for many, BadComplex for what is not a complex."""
    check_many(many)
    if not is_complex(many, value):
        raise BadComplex("not an ascending tuple of sets none of which holds another one")


def is_complex(many, value):
    """Whether a value is a complex."""
    if not is_tuple_up_to(value, MOST_SETS) or not all(is_row_of_indexes(places, many) for places in value):
        return False
    if not all(value[k] < value[k + 1] for k in range(len(value) - 1)):
        return False
    masks = [mask_of(places) for places in value]
    return len(greatest(masks)) == len(masks)


def mask_of(places):
    """The bits of a set."""
    return sum([1 << place for place in places])


def set_of(mask):
    """The set of bits."""
    return tuple([place for place in range(mask.bit_length()) if mask >> place & 1])


def sets_of(masks):
    """The ascending tuple of the sets of some bits."""
    return tuple(sorted([set_of(mask) for mask in masks]))


def holds(mask, other):
    """Whether a set holds another one."""
    return mask & other == other


def least(masks):
    """Those sets that hold no other one of them."""
    return [mask for mask in masks if not any([mask != other and holds(mask, other) for other in masks])]


def greatest(masks):
    """Those sets that no other one of them holds."""
    return [mask for mask in masks if not any([mask != other and holds(other, mask) for other in masks])]


def face_masks(many, facets):
    """The faces of a complex."""
    masks = [mask_of(places) for places in facets]
    return [mask for mask in range(1 << many) if any([holds(other, mask) for other in masks])]


def free_masks(many, sets):
    """The sets that hold none of some sets."""
    masks = [mask_of(places) for places in sets]
    return [mask for mask in range(1 << many) if not any([holds(mask, other) for other in masks])]


def nonface_masks(many, facets):
    """The least sets that are not faces."""
    masks = [mask_of(places) for places in facets]
    return least([mask for mask in range(1 << many) if not any([holds(other, mask) for other in masks])])


def levels_of(masks):
    """The lists of the sets of each length, each list ascending, up to the greatest length."""
    levels = []
    for places in sorted([set_of(mask) for mask in masks]):
        while len(levels) <= len(places):
            levels.append([])
        levels[len(places)].append(places)
    return levels


def faces(many, facets):
    """All faces of a complex, by their lengths, then ascending."""
    check_complex(many, facets)
    return [places for level in levels_of(face_masks(many, facets)) for places in level]


def f_vector(many, facets):
    """The numbers of the faces of each length."""
    check_complex(many, facets)
    return tuple([len(level) for level in levels_of(face_masks(many, facets))])


def nonfaces(many, facets):
    """The least sets that are not faces."""
    check_complex(many, facets)
    return sets_of(nonface_masks(many, facets))


def complex_of(many, sets):
    """The facets of the complex of all sets that hold none of some sets."""
    check_sets(many, sets)
    return sets_of(greatest(free_masks(many, sets)))


def covers(many, sets):
    """The least sets that have a vertex in common with each of some sets."""
    check_sets(many, sets)
    masks = [mask_of(places) for places in sets]
    return sets_of(least([mask for mask in range(1 << many) if all([mask & other for other in masks])]))


def dual_complex(many, facets):
    """The facets of the complex of the complements of the sets that are not faces."""
    check_complex(many, facets)
    whole = (1 << many) - 1
    return sets_of([whole - mask for mask in nonface_masks(many, facets)])


def border(places, indexes):
    """The border of a face, as a row whose columns are the indexes of faces."""
    row = {}
    sign = 1
    for at in range(len(places)):
        row[indexes[places[:at] + places[at + 1:]]] = sign
        sign = -sign
    return row


def border_rank(field, level, below):
    """The dimension of the borders of the sums of some faces, those with one vertex less standing below."""
    indexes = {places: index for index, places in enumerate(below)}
    return rank(field, [border(places, indexes) for places in level])


def dimensions(field, levels):
    """For each length of faces the dimension of the sums without border modulo the borders."""
    ranks = [0] + [border_rank(field, levels[k], levels[k - 1]) for k in range(1, len(levels))] + [0]
    return [len(level) - ranks[k] - ranks[k + 1] for k, level in enumerate(levels)]


def homology(field, many, facets):
    """For each length from 0 to many the dimension that is left of the sums of faces without border."""
    check_field(field)
    check_complex(many, facets)
    found = dimensions(field, levels_of(face_masks(many, facets)))
    return tuple(found + [0] * (many + 1 - len(found)))


def betti_triples(field, many, sets):
    """The list of the triples of hochster, in no special order."""
    masks = free_masks(many, sets)
    found = []
    for whole in range(1 << many):
        places = set_of(whole)
        inside = dimensions(field, levels_of([mask for mask in masks if holds(whole, mask)]))
        found += [(len(places) - length, places, number) for length, number in enumerate(inside) if number]
    return found


def hochster(field, many, sets):
    """The triples (step, places, number) of the Betti numbers for each set of vertices, ascending."""
    check_field(field)
    check_sets(many, sets)
    return sorted(betti_triples(field, many, sets))


def square_betti(field, many, sets):
    """The triples (step, size, number) of the Betti numbers, ascending."""
    check_field(field)
    check_sets(many, sets)
    sums = {}
    for step, places, number in betti_triples(field, many, sets):
        sums[(step, len(places))] = sums.get((step, len(places)), 0) + number
    return [(step, size, sums[(step, size)]) for step, size in sorted(list(sums))]


def polarized(many, monos):
    """The number of new variables, and the sets of them that stand for the least monomials."""
    check_many(many)
    check_monos(many, monos)
    smallest = ascending_least(monos)
    highest = [max([mono[place] for mono in smallest], default=0) for place in range(many)]
    total = sum(highest)
    if total > MOST_MONO_VARIABLES:
        raise TooMany(MOST_MONO_VARIABLES)
    starts = [sum(highest[:place]) for place in range(many)]
    sets = [tuple([start + k for start, exponent in zip(starts, mono) for k in range(exponent)]) for mono in smallest]
    return (max(total, 1), tuple(sets))
