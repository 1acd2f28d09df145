"""Packed polynomials, on which the longer computations work.

A packed polynomial is a pair (table, below): a dict from the codes of monomials to integers, and a positive
integer by which all of them are divided.  Modulo a prime, below is 1.  No packed polynomial is bound in size.
"""
from math import gcd, lcm

from idealcore.fields import add_numbers, as_fraction, make_number, zero_of


def packed(coding, p):
    """The packed form of a polynomial of the ring, or of one of another order of the same monomials."""
    fractions = [as_fraction(coding.field, number) for number, _ in p]
    below = 1
    for _, d in fractions:
        below = lcm(below, d)
    table = {}
    for (n, d), (_, monomial) in zip(fractions, p):
        table[coding.code(monomial)] = n * (below // d)
    return (table, below)


def unpacked(coding, value):
    """The polynomial of a packed one; its integers need not be reduced modulo the prime."""
    table, below = value
    kept = settled(coding.field, table)
    codes = sorted(list(kept), reverse=True)
    return tuple([(make_number(coding.field, kept[code], below), coding.exponents(code)) for code in codes])


def recoded(coding, other, value):
    """The packed form, by another coding of the same monomials, of a packed polynomial."""
    return ({other.code(coding.exponents(code)): n for code, n in value[0].items()}, value[1])


def sum_of_terms(coding, terms):
    """The polynomial that is the sum of some terms, zero ones and equal monomials among them."""
    field = coding.field
    numbers = {}
    for number, monomial in terms:
        if monomial in numbers:
            number = add_numbers(field, numbers[monomial], number)
        numbers[monomial] = number
    zero = zero_of(field)
    kept = [(number, monomial) for monomial, number in numbers.items() if number != zero]
    return tuple(sorted(kept, key=lambda term: coding.code(term[1]), reverse=True))


def settled(field, table):
    """A table without the integers that are zero, reduced modulo the prime."""
    if field:
        return {code: n % field for code, n in table.items() if n % field}
    return {code: n for code, n in table.items() if n}


def lowest(table, below):
    """The same packed polynomial in lowest terms."""
    common = common_divisor(table, below)
    if common == 1:
        return (table, below)
    return ({code: n // common for code, n in table.items()}, below // common)


def common_divisor(table, start):
    """The greatest common divisor of an integer and those of a table."""
    common = start
    for n in table.values():
        if common == 1:
            break
        common = gcd(common, n)
    return common


def packed_product(field, one, other):
    """The product of two packed polynomials."""
    table = {}
    for code, n in one[0].items():
        for more, times in other[0].items():
            at = code + more
            table[at] = table.get(at, 0) + n * times
    return (settled(field, table), one[1] * other[1])


def combination(field, parts):
    """The sum of n / d times a monomial times a packed polynomial, for parts (n, d, code, packed one)."""
    below = 1
    for _, d, _, (_, under) in parts:
        below = lcm(below, d * under)
    total = {}
    for n, d, shift, (table, under) in parts:
        factor = n * (below // (d * under))
        for code, number in table.items():
            at = code + shift
            total[at] = total.get(at, 0) + factor * number
    return lowest(settled(field, total), below)


def products_sum(field, pairs):
    """The sum of the products of pairs of packed polynomials."""
    return combination(field, [(1, 1, 0, packed_product(field, one, other)) for one, other in pairs])


def same_packed(field, one, other):
    """Whether two packed polynomials are the same."""
    return not combination(field, [(1, 1, 0, one), (-1, 1, 0, other)])[0]
