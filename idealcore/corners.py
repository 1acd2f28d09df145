"""Corners of ideals of monomials.

Here a corner has FAR where a variable is left out, so that a monomial is in its ideal exactly if one exponent at
least reaches that of the corner.
"""

FAR = 1000


def reaches(mono, corner):
    """Whether a monomial is in the ideal of a corner."""
    return any(exponent >= bound for exponent, bound in zip(mono, corner))


def corners_of(many, monos):
    """The corners of the ideal of some monomials, of which none can be left out, in no special order.

    The monomials come in one after another: with a new one, the ideals of the corners that do not have it are split.
    """
    found = [(FAR,) * many]
    for index, mono in enumerate(monos):
        kept = []
        for corner in found:
            if reaches(mono, corner):
                kept.append(corner)
            else:
                kept += lowered_corners(corner, mono, monos[:index])
        found = kept
    return found


def lowered_corners(corner, mono, ahead):
    """The corners that a new monomial, which is not in the ideal of a corner, makes of it.

    One can be left out if for some variable no monomial reaches the corner there and stays below it elsewhere.
    """
    bounded = [place for place, bound in enumerate(corner) if bound < FAR]
    guards = [(place, [other for other in ahead if touches(other, corner, place)]) for place in bounded]
    found = []
    for place, exponent in enumerate(mono):
        if exponent > 0 and all([any([other[place] < exponent for other in row]) for k, row in guards if k != place]):
            found.append(corner[:place] + (exponent,) + corner[place + 1:])
    return found


def touches(mono, corner, place):
    """Whether a monomial reaches a corner at a place and stays below it elsewhere."""
    if mono[place] != corner[place]:
        return False
    return all([exponent < corner[k] for k, exponent in enumerate(mono) if k != place])


def meet_of_corners(many, corners):
    """The least monomials of the meet of the ideals of some corners, ascending.

    If exponents are counted from above, corners and least monomials change their places.
    """
    top = 1 + max([bound for corner in corners for bound in corner if bound < FAR], default=0)
    turned = [tuple([top - bound if bound < FAR else 0 for bound in corner]) for corner in corners]
    found = [tuple([top - bound if bound < FAR else 0 for bound in corner]) for corner in corners_of(many, turned)]
    return tuple(sorted(found))
