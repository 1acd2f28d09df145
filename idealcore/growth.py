"""How Hilbert functions grow."""
from math import comb

from idealcore.checks import check_integer_in, check_values
from idealcore.errors import BadGrowth
from idealcore.exponents import shifted

MOST_NUMBER = 1000000
MOST_DEGREE_OF_EXPANSION = 12
MOST_MANY = 6


def check_number_and_degree(number, degree):
    """BadInteger for what has no expansion."""
    check_integer_in(number, 0, MOST_NUMBER)
    check_integer_in(degree, 1, MOST_DEGREE_OF_EXPANSION)


def expansion(number, degree):
    """The upper numbers of the binomial coefficients over degree, degree - 1 and so on whose sum is a number."""
    check_number_and_degree(number, degree)
    return tuple(upper_numbers(number, degree))


def upper_numbers(number, degree):
    """The list of the upper numbers: each time the greatest one that is possible."""
    found = []
    left = number
    while left > 0:
        top = greatest_top(left, degree - len(found))
        left -= comb(top, degree - len(found))
        found.append(top)
    return found


def greatest_top(number, bottom):
    """The greatest integer whose binomial coefficient over bottom is at most a number."""
    low, high = bottom, bottom + number
    while low < high:
        middle = (low + high + 1) // 2
        if comb(middle, bottom) <= number:
            low = middle
        else:
            high = middle - 1
    return low


def grown(number, degree):
    """The sum of the binomial coefficients of the expansion, all their numbers raised by 1."""
    check_number_and_degree(number, degree)
    return raised_sum(number, degree)


def raised_sum(number, degree):
    """The sum of the binomial coefficients of the expansion, all their numbers raised by 1."""
    return sum([comb(top + 1, degree - index + 1) for index, top in enumerate(upper_numbers(number, degree))])


def first_gap(many, values):
    """The index of the first value that is too great, None if there is none."""
    for index, value in enumerate(values):
        if index == 0:
            most = 1
        elif index == 1:
            most = many * values[0]
        else:
            most = raised_sum(values[index - 1], index - 1)
        if value > most:
            return index
    return None


def growth_gap(many, values):
    """The index of the first value that is too great for a Hilbert function, None if there is none."""
    check_integer_in(many, 1, MOST_MANY)
    check_values(values)
    return first_gap(many, values)


def lex_ideal(many, values):
    """The monomials of an ideal that has the values, the greatest ones of each degree in "lex"."""
    check_integer_in(many, 1, MOST_MANY)
    check_values(values)
    gap = first_gap(many, values)
    if gap is not None:
        raise BadGrowth(gap)
    found = []
    taken = {}
    for degree, value in enumerate(values):
        monomials = falling_monomials(many, degree)
        chosen = monomials[:len(monomials) - value]
        # All multiples of the tuple so far of the degree ahead have been taken there.
        found += [monomial for monomial in chosen if not is_multiple(monomial, taken)]
        taken = {monomial: True for monomial in chosen}
    return tuple(found)


def falling_monomials(many, degree):
    """The monomials of a degree, descending in "lex"."""
    if many == 1:
        return [(degree,)]
    found = []
    for first in reversed(range(degree + 1)):
        found += [(first,) + rest for rest in falling_monomials(many - 1, degree - first)]
    return found


def is_multiple(monomial, taken):
    """Whether a monomial is the product of a variable and a monomial of a dict."""
    return any([monomial[k] > 0 and shifted(monomial, k, -1) in taken for k in range(len(monomial))])
