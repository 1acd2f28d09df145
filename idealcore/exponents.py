"""Tuples of exponents."""


def monomials_up_to(many, degree):
    """All monomials in so many variables of at most a degree, in no special order."""
    found = [()]
    for _ in range(many):
        found = [start + (exponent,) for start in found for exponent in range(degree - sum(start) + 1)]
    return found


def shifted(monomial, place, by):
    """The monomial with the exponent at a place raised."""
    return monomial[:place] + (monomial[place] + by,) + monomial[place + 1:]


def divides(one, other):
    """Whether a monomial divides another one."""
    return all(a <= b for a, b in zip(one, other))


def least_ones(monomials):
    """The monomials that no other one divides, by ascending degrees."""
    kept = []
    for monomial in sorted(monomials, key=sum):
        if not any(divides(earlier, monomial) for earlier in kept):
            kept.append(monomial)
    return kept
