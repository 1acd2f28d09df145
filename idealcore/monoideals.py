"""Ideals of monomials."""
from idealcore.checks import check_many, check_mono, check_monos, check_places, is_integer_in, is_mono, is_tuple_of
from idealcore.corners import FAR, corners_of, meet_of_corners
from idealcore.exponents import least_ones


def check_ideal(many, monos):
    """BadInteger and BadMonomials for what is not an ideal of monomials."""
    check_many(many)
    check_monos(many, monos)


def ascending_least(monos):
    """The ascending tuple of the monomials that no other one divides."""
    return tuple(sorted(least_ones(monos)))


def least_monomials(many, monos):
    """The least monomials of an ideal."""
    check_ideal(many, monos)
    return ascending_least(monos)


def mono_meet(many, one, other):
    """The least monomials of the meet of two ideals."""
    check_ideal(many, one)
    check_monos(many, other)
    return ascending_least([tuple([max(a, b) for a, b in zip(m, k)]) for m in one for k in other])


def mono_quotient(many, monos, mono):
    """The least monomials of the ideal of the monomials whose products with a monomial are in an ideal."""
    check_ideal(many, monos)
    check_mono(many, mono)
    return ascending_least([left_over(other, mono) for other in monos])


def left_over(one, other):
    """What one monomial has more than another one."""
    return tuple([max(a - b, 0) for a, b in zip(one, other)])


def mono_radical(many, monos):
    """The least monomials of the radical."""
    check_ideal(many, monos)
    return ascending_least([tuple([min(exponent, 1) for exponent in mono]) for mono in monos])


def support(corner):
    """The ascending tuple of the places at which a corner has an exponent."""
    return tuple([place for place, bound in enumerate(corner) if bound < FAR])


def irreducible_parts(many, monos):
    """The corners whose ideals meet in the ideal and of which none can be left out, ascending."""
    check_ideal(many, monos)
    corners = corners_of(many, least_ones(monos))
    return tuple(sorted([tuple([bound if bound < FAR else 0 for bound in corner]) for corner in corners]))


def associated(many, monos):
    """The supports of the corners, ascending."""
    check_ideal(many, monos)
    return tuple(sorted(set([support(corner) for corner in corners_of(many, least_ones(monos))])))


def witness(many, monos, places):
    """A monomial by which the quotient has just some variables as its least monomials, None if there is none."""
    check_ideal(many, monos)
    check_places(many, places)
    highest = [max([mono[place] for mono in monos], default=0) for place in range(many)]
    for corner in corners_of(many, least_ones(monos)):
        if support(corner) == places:
            return tuple([bound - 1 if bound < FAR else top for bound, top in zip(corner, highest)])
    return None


def shows_witness(many, monos, places, value):
    """Whether any value is such a monomial."""
    check_ideal(many, monos)
    check_places(many, places)
    if not is_mono(many, value):
        return False
    variables = [tuple([1 if k == place else 0 for k in range(many)]) for place in places]
    return ascending_least([left_over(mono, value) for mono in monos]) == tuple(sorted(variables))


def primary_parts(many, monos):
    """The pairs of a support and the least monomials of the meet of the ideals of its corners, ascending."""
    check_ideal(many, monos)
    lots = {}
    for corner in corners_of(many, least_ones(monos)):
        lots.setdefault(support(corner), []).append(corner)
    return [(places, meet_of_corners(many, lots[places])) for places in sorted(list(lots))]


def quotient_order(many, monos):
    """An order of the least monomials in which each one has variables alone left over from those ahead of it."""
    check_ideal(many, monos)
    least = ascending_least(monos)
    orders = {0: ()}
    # All sets of indexes that can stand ahead, by bits, the smaller sets first: only the set matters.
    for _ in least:
        wider = {}
        for ahead, order in orders.items():
            for index in range(len(least)):
                if ahead >> index & 1 == 0 and leaves_variables([least[k] for k in order], least[index]):
                    wider[ahead | 1 << index] = order + (index,)
        orders = wider
    found = list(orders.values())
    return found[0] if found else None


def leaves_variables(ahead, mono):
    """Whether the quotient of the ideal of least monomials by another one has variables alone, or nothing."""
    quotients = [left_over(other, mono) for other in ahead]
    variables = [quotient.index(1) for quotient in quotients if sum(quotient) == 1]
    return all([any([quotient[place] for place in variables]) for quotient in quotients])


def shows_quotient_order(many, monos, value):
    """Whether any value is such an order of the least monomials."""
    check_ideal(many, monos)
    least = ascending_least(monos)
    if not is_tuple_of(value, len(least)) or not all(is_integer_in(k, 0, len(least) - 1) for k in value):
        return False
    if len(set(value)) < len(least):
        return False
    return all([leaves_variables([least[k] for k in value[:at]], least[index]) for at, index in enumerate(value)])
