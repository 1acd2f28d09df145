"""How many monomials of each degree an ideal of monomials leaves."""
from math import comb


def numerator(monomials, grades):
    """The dict of the integers k[j], zeros among them, of point 22, of an ideal of monomials.

    The grades are the degrees of the variables.  The monomials outside with the exponent e at the last variable are
    those outside of the ideal of the monomials with at most this exponent there, in one variable less.
    """
    if not monomials:
        return {0: 1}
    if not grades:
        return {}
    levels = sorted(set([0] + [monomial[-1] for monomial in monomials]))
    total = {}
    for index, level in enumerate(levels):
        part = numerator([monomial[:-1] for monomial in monomials if monomial[-1] <= level], grades[:-1])
        add_shifted(total, part, level * grades[-1], 1)
        if index + 1 < len(levels):
            add_shifted(total, part, levels[index + 1] * grades[-1], -1)
    return total


def add_shifted(total, part, shift, factor):
    """Adds a factor times a dict, by so many degrees further on, to a dict."""
    for degree, number in part.items():
        total[degree + shift] = total.get(degree + shift, 0) + factor * number


def without_zeros(numbers):
    """The tuple of integers without zeros at its end."""
    kept = list(numbers)
    while kept and kept[-1] == 0:
        kept.pop()
    return tuple(kept)


def row_of(total):
    """The tuple of the integers of a dict, without zeros at its end."""
    return without_zeros([total.get(degree, 0) for degree in range(max(list(total) + [-1]) + 1)])


def value_at(row, many, degree):
    """The number of monomials of a degree that are left."""
    return sum([number * comb(degree - j + many - 1, many - 1) for j, number in enumerate(row) if j <= degree])


def lasting_value_at(row, many, degree):
    """What the polynomial that tells these numbers for great degrees tells for a degree."""
    return sum([number * binomial(degree - j + many - 1, many - 1) for j, number in enumerate(row)])


def binomial(top, bottom):
    """The binomial coefficient as a polynomial of the upper number, which may be negative."""
    if top >= 0:
        return comb(top, bottom)
    sign = -1 if bottom & 1 else 1
    return sign * comb(bottom - top - 1, bottom)


def lasting_polynomial(row, many):
    """The integers c[i] of point 22: differences of values, differences of these, and so on."""
    values = [lasting_value_at(row, many, degree) for degree in range(many)]
    found = []
    for _ in range(many):
        found.append(values[0])
        values = [values[k + 1] - values[k] for k in range(len(values) - 1)]
    return without_zeros(found)


def first_lasting(row, many):
    """The least degree from which on the polynomial tells the numbers."""
    degree = len(row)
    while degree > 0 and value_at(row, many, degree - 1) == lasting_value_at(row, many, degree - 1):
        degree -= 1
    return degree


def least_sum(row):
    """The sum of what is left of the coefficients of a polynomial, not zero, if it is divided by 1 - t so far."""
    left = list(row)
    while sum(left) == 0:
        # The quotient's coefficients are the sums of the first ones.
        sums = []
        for number in left[:-1]:
            sums.append(number + (sums[-1] if sums else 0))
        left = sums
    return sum(left)
