"""What may be passed as an argument, and the errors for what may not.

The functions is_.. tell whether any value is of a kind, the functions check_.. raise the error if it is not.
"""
from math import gcd

from idealcore.coding import Coding, rows_of
from idealcore.errors import BadField, BadInteger, BadMonomial, BadMonomials, BadNumber, BadNumbers, BadPlaces
from idealcore.errors import BadPoint, BadPoints, BadPolynomial, BadPolynomials, BadRank, BadRing, BadTerms, BadValues
from idealcore.errors import BadVariable, BadVector, BadVectors, NotEven, OtherRing
from idealcore.fields import zero_of

PRIMES = (2, 3, 5, 7, 11, 13, 17, 19, 23, 29, 31)
NUMBER_BOUND = 10 ** 50 * 10 ** 50 * 10 ** 50 * 10 ** 50
MOST_VARIABLES = 4
MOST_WEIGHT = 20
MOST_DEGREE = 60
MOST_TERMS = 500
MOST_LOOSE_TERMS = 200
MOST_GENERATORS = 12
MOST_DIVISORS = 40
MOST_RANK = 12
MOST_VECTORS = 12
MOST_VALUES = 13
MOST_VALUE = 1000000
MOST_MONOS = 12
MOST_MONO_VARIABLES = 8
MOST_MONO_EXPONENT = 8
MOST_POINTS = 20


def is_integer(value):
    """Whether a value is an integer, True and False not being some."""
    return isinstance(value, int) and not isinstance(value, bool)


def is_integer_in(value, low, high):
    """Whether a value is an integer from low to high."""
    return is_integer(value) and low <= value <= high


def is_tuple_of(value, many):
    """Whether a value is a tuple of so many things."""
    return isinstance(value, tuple) and len(value) == many


def is_tuple_up_to(value, most):
    """Whether a value is a tuple of at most so many things."""
    return isinstance(value, tuple) and len(value) <= most


def is_field(value):
    """Whether a value is a field."""
    return is_integer(value) and (value == 0 or value in PRIMES)


def is_fraction(value):
    """Whether a value is a number of the field 0."""
    if not is_tuple_of(value, 2) or not is_integer(value[0]) or not is_integer(value[1]):
        return False
    return abs(value[0]) < NUMBER_BOUND and 0 < value[1] < NUMBER_BOUND and gcd(value[0], value[1]) == 1


def is_number(field, value):
    """Whether a value is a number of a field."""
    if field == 0:
        return is_fraction(value)
    return is_integer_in(value, 0, field - 1)


def is_order(many, value):
    """Whether a value is an order for so many variables."""
    if isinstance(value, str):
        return value in ("lex", "deglex", "degrevlex")
    if not is_tuple_of(value, 2):
        return False
    if value[0] == "block":
        return is_integer_in(value[1], 1, many - 1)
    return value[0] == "weights" and is_row_of_integers(value[1], many, 1, MOST_WEIGHT)


def is_ring(value):
    """Whether a value is a ring."""
    if not is_tuple_of(value, 3):
        return False
    field, many, order = value
    return is_field(field) and is_integer_in(many, 1, MOST_VARIABLES) and is_order(many, order)


def is_row_of_integers(value, many, low, high):
    """Whether a value is a tuple of so many integers from low to high."""
    return is_tuple_of(value, many) and all(is_integer_in(number, low, high) for number in value)


def is_monomial(many, value):
    """Whether a value is a monomial in so many variables."""
    return is_row_of_integers(value, many, 0, MOST_DEGREE) and sum(value) <= MOST_DEGREE


def is_mono(many, value):
    """Whether a value is a monomial of point 27."""
    return is_row_of_integers(value, many, 0, MOST_MONO_EXPONENT)


def is_loose_term(coding, value):
    """Whether a value is a pair of a number, perhaps zero, and a monomial."""
    if not is_tuple_of(value, 2):
        return False
    return is_number(coding.field, value[0]) and is_monomial(coding.many, value[1])


def is_polynomial(coding, value):
    """Whether a value is a polynomial."""
    if not is_tuple_up_to(value, MOST_TERMS):
        return False
    zero = zero_of(coding.field)
    if not all(is_loose_term(coding, term) and term[0] != zero for term in value):
        return False
    codes = [coding.code(term[1]) for term in value]
    return all(codes[k] > codes[k + 1] for k in range(len(codes) - 1))


def is_row_of_polynomials(coding, value, many):
    """Whether a value is a tuple of so many polynomials."""
    return is_tuple_of(value, many) and all(is_polynomial(coding, p) for p in value)


def is_row_of_indexes(value, many):
    """Whether a value is an ascending tuple of different integers from 0 to many - 1."""
    if not isinstance(value, tuple) or not all(is_integer_in(place, 0, many - 1) for place in value):
        return False
    return all(value[k] < value[k + 1] for k in range(len(value) - 1))


def is_even(p):
    """Whether the monomials of a polynomial have one degree."""
    return len(p) == 0 or all(sum(monomial) == sum(p[0][1]) for _, monomial in p)


def check_field(value):
    """BadField for what is not a field."""
    if not is_field(value):
        raise BadField("not a field")


def check_number(field, value):
    """BadNumber for what is not a number of the field."""
    if not is_number(field, value):
        raise BadNumber("not a number of the field")


def check_integer(value):
    """BadInteger for what is not an integer."""
    if not is_integer(value):
        raise BadInteger("not an integer")


def check_integer_in(value, low, high):
    """BadInteger for what is not an integer from low to high."""
    if not is_integer_in(value, low, high):
        raise BadInteger(f"not an integer from {low} to {high}")


def check_ring(value):
    """The coding of a ring, BadRing for what is not one."""
    if not is_ring(value):
        raise BadRing("not a ring")
    field, many, order = value
    return Coding(field, many, rows_of(many, order))


def check_ring_alike(coding, value):
    """The coding of a ring that may differ in the order only: BadRing, OtherRing."""
    other = check_ring(value)
    if other.field != coding.field or other.many != coding.many:
        raise OtherRing("another field or another number of variables")
    return other


def check_monomial(coding, value):
    """BadMonomial for what is not a monomial of the ring."""
    if not is_monomial(coding.many, value):
        raise BadMonomial("not a monomial of the ring")


def check_variable(coding, value):
    """BadVariable for what is not the index of a variable."""
    if not is_integer_in(value, 0, coding.many - 1):
        raise BadVariable("not the index of a variable")


def is_row_of_numbers(field, value, many):
    """Whether a value is a tuple of so many numbers of a field."""
    return is_tuple_of(value, many) and all(is_number(field, number) for number in value)


def check_point(coding, value):
    """BadPoint for what is not a point of the ring."""
    if not is_row_of_numbers(coding.field, value, coding.many):
        raise BadPoint("not a point of the ring")


def check_points(coding, value):
    """BadPoints for what is not a tuple of different points of the ring."""
    if not is_tuple_up_to(value, MOST_POINTS):
        raise BadPoints(None)
    for index, point in enumerate(value):
        if not is_row_of_numbers(coding.field, point, coding.many) or point in value[:index]:
            raise BadPoints(index)


def check_numbers(field, value, many):
    """BadNumbers for what is not a tuple of so many numbers of the field."""
    if not is_tuple_of(value, many):
        raise BadNumbers(None)
    for index, number in enumerate(value):
        if not is_number(field, number):
            raise BadNumbers(index)


def check_terms(coding, value):
    """BadTerms for what is not a tuple of pairs of a number and a monomial."""
    if not is_tuple_up_to(value, MOST_LOOSE_TERMS):
        raise BadTerms(None)
    for index, term in enumerate(value):
        if not is_loose_term(coding, term):
            raise BadTerms(index)


def check_polynomial(coding, value):
    """BadPolynomial for what is not a polynomial of the ring."""
    if not is_polynomial(coding, value):
        raise BadPolynomial("not a polynomial of the ring")


def check_two_polynomials(ring, p, q):
    """The coding of a ring, if p and q are polynomials of it."""
    coding = check_ring(ring)
    check_polynomial(coding, p)
    check_polynomial(coding, q)
    return coding


def check_each(coding, value):
    """BadPolynomials with the index of the first thing in a tuple that is not a polynomial of the ring."""
    for index, p in enumerate(value):
        if not is_polynomial(coding, p):
            raise BadPolynomials(index)


def check_polynomials(coding, value, most):
    """BadPolynomials for what is not a tuple of at most so many polynomials."""
    if not is_tuple_up_to(value, most):
        raise BadPolynomials(None)
    check_each(coding, value)


def check_generators(coding, value):
    """BadPolynomials for what are not generators."""
    check_polynomials(coding, value, MOST_GENERATORS)


def check_two_lots(ring, one, other):
    """The coding of a ring, if both lots are generators of it."""
    coding = check_ring(ring)
    check_generators(coding, one)
    check_generators(coding, other)
    return coding


def check_even_ideal(ring, polys):
    """The coding of a ring, if polys are generators of it: NotEven if the monomials of one have several degrees."""
    coding = check_ring(ring)
    check_generators(coding, polys)
    for index, p in enumerate(polys):
        if not is_even(p):
            raise NotEven(index)
    return coding


def check_target(coding, value):
    """The coding of a ring of the same field: BadRing, OtherRing."""
    aim = check_ring(value)
    if aim.field != coding.field:
        raise OtherRing("another field")
    return aim


def check_images(coding, aim, values):
    """BadPolynomials for what is not a tuple with a polynomial of another ring for each variable."""
    if not is_tuple_of(values, coding.many):
        raise BadPolynomials(None)
    check_each(aim, values)


def check_some_places(coding, value):
    """BadPlaces for what is not an ascending tuple of indexes of variables, fewer than all."""
    if not is_row_of_indexes(value, coding.many) or len(value) == coding.many:
        raise BadPlaces("not an ascending tuple of indexes of variables, fewer than all")


def check_rank(value):
    """BadRank for what is not a rank."""
    if not is_integer_in(value, 1, MOST_RANK):
        raise BadRank(f"not an integer from 1 to {MOST_RANK}")


def check_vector(coding, rank, value):
    """BadVector for what is not a vector of the rank."""
    if not is_row_of_polynomials(coding, value, rank):
        raise BadVector("not a vector of the rank")


def check_vectors(coding, rank, value):
    """BadVectors for what are not vectors of the rank."""
    if not is_tuple_up_to(value, MOST_VECTORS):
        raise BadVectors(None)
    for index, vector in enumerate(value):
        if not is_row_of_polynomials(coding, vector, rank):
            raise BadVectors(index)


def check_values(value):
    """BadValues for what are not values."""
    if not is_tuple_up_to(value, MOST_VALUES) or len(value) == 0:
        raise BadValues(f"not a tuple of 1 to {MOST_VALUES} integers")
    if not is_row_of_integers(value, len(value), 0, MOST_VALUE):
        raise BadValues(f"not integers from 0 to {MOST_VALUE}")


def check_many(value):
    """BadInteger for what is not a number of variables of point 27."""
    check_integer_in(value, 1, MOST_MONO_VARIABLES)


def check_mono(many, value):
    """BadMonomial for what is not a monomial of point 27."""
    if not is_mono(many, value):
        raise BadMonomial(f"not a tuple of {many} integers from 0 to {MOST_MONO_EXPONENT}")


def check_monos(many, value):
    """BadMonomials for what is not a tuple of monomials of point 27."""
    if not is_tuple_up_to(value, MOST_MONOS):
        raise BadMonomials(None)
    for index, mono in enumerate(value):
        if not is_mono(many, mono):
            raise BadMonomials(index)


def check_places(many, value):
    """BadPlaces for what is not an ascending tuple of different indexes."""
    if not is_row_of_indexes(value, many):
        raise BadPlaces("not an ascending tuple of different indexes of variables")
