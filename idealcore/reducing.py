"""Division of packed polynomials, which all computations of bases rest on.

A *reducer* stands for a polynomial other than zero up to a number: the list of the pairs (code, integer) of
its terms, the leading one first.  Over the fractions the integers have no common divisor and the first one is
positive; modulo a prime the first one is 1.
"""
from heapq import heapify, heappop, heappush
from math import gcd, lcm

from idealcore.fields import inverse_modulo, make_number
from idealcore.packed import common_divisor, lowest, settled


def reducer_of(field, table):
    """The reducer of a table that is not zero, and the pair of integers whose quotient times the table it is."""
    table = settled(field, table)
    codes = sorted(list(table), reverse=True)
    first = table[codes[0]]
    if field:
        factor = inverse_modulo(first, field)
        return ([(code, table[code] * factor % field) for code in codes], factor, 1)
    sign = -1 if first < 0 else 1
    common = common_divisor(table, 0)
    return ([(code, sign * table[code] // common) for code in codes], sign, common)


def reducers_of(field, values):
    """Tuples (reducer, index, n, d) for those of some packed polynomials that are not zero.

    The reducer is n / d times the polynomial at the index.
    """
    found = []
    for index, (table, below) in enumerate(values):
        if table:
            reducer, n, d = reducer_of(field, table)
            found.append((reducer, index, n * below, d))
    return found


def table_of(reducer):
    """The packed polynomial of a reducer."""
    return (dict(reducer), 1)


def monic(coding, reducer):
    """The polynomial of a reducer, with the leading number 1."""
    first = reducer[0][1]
    return tuple([(make_number(coding.field, n, first), coding.exponents(code)) for code, n in reducer])


def divided(coding, value, reducers, hasty=False):
    """Divides a packed polynomial by reducers, the first one that can be taken being taken each time.

    Returns the rest, as a list of triples (code, n, d) for n / d times a monomial, and the list of the steps:
    (index, code, n, d) tells that n / d times a monomial times a reducer was subtracted.  In haste, it is left at
    the first term of the rest.
    """
    heads = [reducer[0][0] for reducer in reducers]
    left, below = dict(value[0]), value[1]
    queue = [-code for code in left]
    heapify(queue)
    rest = []
    steps = []
    while queue:
        code = -heappop(queue)
        n = left.pop(code)
        if coding.field:
            n = n % coding.field
        if n == 0:
            continue
        index = first_divisor(coding.guard, heads, code)
        if index < 0:
            rest.append((code, n, below))
            if hasty:
                break
            continue
        first = reducers[index][0][1]
        common = gcd(n, first)
        factor, times, shift = n // common, first // common, code - heads[index]
        steps.append((index, shift, factor, below * times))
        if times > 1:
            left = {at: number * times for at, number in left.items()}
        subtract(left, queue, reducers[index], shift, factor)
        if times > 1:
            left, below = lowest(left, below * times)
    return (rest, steps)


def first_divisor(guard, heads, code):
    """The index of the first of some monomials that divides the monomial of a code, -1 if none does."""
    guarded = code | guard
    for index, head in enumerate(heads):
        if (guarded - head) & guard == guard:
            return index
    return -1


def subtract(left, queue, reducer, shift, factor):
    """Subtracts from a table an integer times a monomial times the terms of a reducer behind its first one."""
    for code, n in reducer[1:]:
        at = code + shift
        if at in left:
            left[at] -= n * factor
        else:
            left[at] = -n * factor
            heappush(queue, -at)


def rest_table(rest):
    """The packed polynomial of a rest."""
    below = 1
    for _, _, d in rest:
        below = lcm(below, d)
    return ({code: n * (below // d) for code, n, d in rest}, below)


def rest_polynomial(coding, rest):
    """The polynomial of a rest, whose terms descend."""
    return tuple([(make_number(coding.field, n, d), coding.exponents(code)) for code, n, d in rest])


def s_value(coding, one, other):
    """The S-polynomial of two reducers, packed, and the parts that it is made of.

    The parts are triples (code, n, d): n / d times a monomial times one, and then times other.
    """
    common = coding.lcm(one[0][0], other[0][0])
    ahead, behind = common - one[0][0], common - other[0][0]
    first, second = one[0][1], other[0][1]
    below = lcm(first, second)
    upper, lower = below // first, below // second
    table = {code + ahead: n * upper for code, n in one[1:]}
    for code, n in other[1:]:
        at = code + behind
        table[at] = table.get(at, 0) - n * lower
    return ((table, below), ((ahead, 1, first), (behind, -1, second)))
