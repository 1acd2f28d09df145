"""Quotients and saturations of ideals.

All polynomials are packed in the order "degrevlex", and ideals are told by the reducers of a basis.
"""
from idealcore.completion import completed_basis, reduced_among
from idealcore.modules import Places
from idealcore.packed import combination, packed_product
from idealcore.reducing import divided, rest_table, table_of
from idealcore.series import add_shifted
from idealcore.tally import generated_numbers

# After so many quotients by p alone, or products with it, powers of p whose exponents double are taken: the first
# ones have fewer terms, the others come sooner to great exponents.
PATIENCE = 6
LONG_PATIENCE = 64

# The reducer of 1, whose code is 0.
ONE = ((0, 1),)


def rest_of(coding, value, reducers):
    """The packed rest of a division."""
    rest, _ = divided(coding, value, reducers)
    return rest_table(rest)


def rests_of(coding, reducers, some):
    """The rests, other than zero, of some polynomials."""
    rests = [rest_of(coding, q, reducers) for q in some]
    return [rest for rest in rests if rest[0]]


def rests_of_products(coding, reducers, some, p):
    """The rests, other than zero, of the products of some polynomials and p."""
    return rests_of(coding, reducers, [packed_product(coding.field, q, p) for q in some])


def part_inside(coding, reducers, some, p):
    """A basis of those polynomials in the ideal of some reducers whose products with p are in that of others.

    Each of some stands in a vector behind its product with p.  If the products are cancelled modulo the other
    ideal, the places behind them are what is looked for.  The vectors whose place behind is zero are those of the
    other ideal, and the places behind are all of the first one: so the leading monomials of both tell how many the
    vectors have.
    """
    degree = max([sum(coding.exponents(code)) for code in p[0]], default=0)
    places = Places(coding, 2, ahead=1, degrees=[0, degree])
    vectors = [moved(coding, places, table_of(reducer), 0) for reducer in reducers]
    for q in [table_of(reducer) for reducer in some]:
        product_ahead = rest_of(coding, packed_product(coding.field, q, p), reducers)
        halves = [moved(coding, places, product_ahead, 0), moved(coding, places, q, 1)]
        vectors.append(combination(coding.field, [(1, 1, 0, half) for half in halves]))
    wanted = generated_numbers(coding, reducers)
    add_shifted(wanted, generated_numbers(coding, some), degree, 1)
    kept = []
    for reducer in completed_basis(places.coding, vectors, wanted).reducers:
        if places.place_of(reducer[0][0]) == 1:
            kept.append([(coding.code(places.unmarked(code)), n) for code, n in reducer])
    return kept


def moved(coding, places, value, place):
    """A packed polynomial at a place of a vector."""
    marks = places.marks[place]
    return ({places.coding.code(coding.exponents(code) + marks): n for code, n in value[0].items()}, value[1])


def saturated(coding, reducers, p):
    """The polynomials whose product with some power of p is in the ideal of a reduced basis, as such a basis.

    Quotients by powers of p are taken until one changes nothing: then no further one does.
    """
    factor = p
    steps = 0
    while True:
        wider = reduced_among(coding, part_inside(coding, reducers, [ONE], factor))
        if wider == reducers:
            return reducers
        reducers = wider
        steps += 1
        if steps >= PATIENCE:
            factor = rest_of(coding, packed_product(coding.field, factor, factor), reducers)


def least_exponent(coding, reducers, some, p):
    """The least exponent such that the products of some polynomials and this power of p are in the ideal.

    There must be one.
    """
    some = rests_of(coding, reducers, some)
    exponent = 0
    while some:
        if exponent == LONG_PATIENCE:
            return exponent + least_by_doubling(coding, reducers, some, p)
        some = rests_of_products(coding, reducers, some, p)
        exponent += 1
    return exponent


def least_by_doubling(coding, reducers, some, p):
    """The same by the powers of p with the exponents 1, 2, 4 and so on; some of the polynomials are outside."""
    powers = [p]
    while rests_of_products(coding, reducers, some, powers[-1]):
        powers.append(rest_of(coding, packed_product(coding.field, powers[-1], powers[-1]), reducers))
    exponent = 1
    for place in reversed(range(len(powers) - 1)):
        rests = rests_of_products(coding, reducers, some, powers[place])
        if rests:
            some = rests
            exponent += 1 << place
    return exponent
