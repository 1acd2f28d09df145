"""Arithmetic in a field without any checks: its numbers may lie beyond the bounds of what can be passed."""
from math import gcd


def zero_of(field):
    """The number zero."""
    return (0, 1) if field == 0 else 0


def is_zero_in(field, n):
    """Whether an integer is zero in the field."""
    return n == 0 if field == 0 else n % field == 0


def inverse_modulo(n, prime):
    """The number whose product with n is one: by Fermat, n to the power prime - 2."""
    inverse = 1
    for _ in range(prime - 2):
        inverse = inverse * n % prime
    return inverse


def make_number(field, n, d):
    """The number n / d; d is not zero in the field."""
    if field:
        return n * inverse_modulo(d % field, field) % field
    common = gcd(n, d)
    if d < 0:
        common = -common
    return (n // common, d // common)


def add_numbers(field, a, b):
    """The sum of two numbers."""
    if field:
        return (a + b) % field
    return make_number(0, a[0] * b[1] + b[0] * a[1], a[1] * b[1])


def multiply_numbers(field, a, b):
    """The product of two numbers."""
    if field:
        return a * b % field
    return make_number(0, a[0] * b[0], a[1] * b[1])


def invert_number(field, a):
    """The number whose product with a, which is not zero, is one."""
    if field:
        return inverse_modulo(a, field)
    return make_number(0, a[1], a[0])


def negate_number(field, a):
    """The number whose sum with a is zero."""
    if field:
        return -a % field
    return (-a[0], a[1])


def as_fraction(field, a):
    """A number as a pair of integers, the second one being 1 modulo a prime."""
    return (a, 1) if field else a
