"""Numbers of a field."""
from idealcore.checks import check_field, check_integer, check_number
from idealcore.errors import ZeroDivisor
from idealcore.fields import add_numbers, invert_number, is_zero_in, make_number, multiply_numbers, zero_of


def number(field, n, d):
    """The number n / d for two integers."""
    check_field(field)
    check_integer(n)
    check_integer(d)
    if is_zero_in(field, d):
        raise ZeroDivisor("the divisor is zero in the field")
    return make_number(field, n, d)


def number_sum(field, a, b):
    """The sum of two numbers."""
    check_field(field)
    check_number(field, a)
    check_number(field, b)
    return add_numbers(field, a, b)


def number_product(field, a, b):
    """The product of two numbers."""
    check_field(field)
    check_number(field, a)
    check_number(field, b)
    return multiply_numbers(field, a, b)


def number_inverse(field, a):
    """The number whose product with a is one."""
    check_field(field)
    check_number(field, a)
    if a == zero_of(field):
        raise ZeroDivisor("zero has no inverse")
    return invert_number(field, a)
