"""Quotients and saturations of ideals.

All polynomials are packed in the order "degrevlex", and ideals are told by the reducers of a basis.
"""
from idealcore.completion import found_basis, reduced_basis
from idealcore.modules import Places
from idealcore.packed import combination, packed_product
from idealcore.reducing import divided, rest_table, table_of

# After so many quotients by p alone, or products with it, powers of p whose exponents double are taken: the first
# ones have fewer terms, the others come sooner to great exponents.
PATIENCE = 6
LONG_PATIENCE = 64


def rest_of(coding, value, reducers):
    """The packed rest of a division."""
    rest, _ = divided(coding, value, reducers)
    return rest_table(rest)


def rests_of(coding, reducers, some):
    """The rests, other than zero, of some polynomials."""
    rests = [rest_of(coding, q, reducers) for q in some]
    return [rest for rest in rests if rest[0]]


def rests_of_products(coding, reducers, some, p):
    """The rests, other than zero, of the products of some polynomials and p."""
    return rests_of(coding, reducers, [packed_product(coding.field, q, p) for q in some])


def part_inside(coding, reducers, some, p):
    """Some of the ideal of some polynomials: those whose products with p are in another ideal, that of reducers.

    Each of some stands in a vector behind its product with p.  If the products are cancelled modulo the other
    ideal, the places behind them are what is looked for.
    """
    places = Places(coding, 2, ahead=1)
    vectors = [moved(coding, places, table_of(reducer), 0) for reducer in reducers]
    for q in some:
        product_ahead = rest_of(coding, packed_product(coding.field, q, p), reducers)
        halves = [moved(coding, places, product_ahead, 0), moved(coding, places, q, 1)]
        vectors.append(combination(coding.field, [(1, 1, 0, half) for half in halves]))
    kept = []
    for reducer in found_basis(places.coding, vectors).reducers:
        if places.place(reducer[0][0]) == 1:
            kept.append(({coding.code(places.unmarked(code)): n for code, n in reducer}, 1))
    return kept


def moved(coding, places, value, place):
    """A packed polynomial at a place of a vector."""
    marks = places.marks[place]
    return ({places.coding.code(coding.exponents(code) + marks): n for code, n in value[0].items()}, value[1])


def saturated(coding, reducers, p):
    """The polynomials whose product with some power of p is in the ideal of a reduced basis, as such a basis.

    Quotients by powers of p are taken until one changes nothing: then no further one does.
    """
    factor = p
    steps = 0
    while True:
        wider = reduced_basis(coding, part_inside(coding, reducers, [({0: 1}, 1)], factor))
        if wider == reducers:
            return reducers
        reducers = wider
        steps += 1
        if steps >= PATIENCE:
            factor = rest_of(coding, packed_product(coding.field, factor, factor), reducers)


def least_exponent(coding, reducers, some, p):
    """The least exponent such that the products of some polynomials and this power of p are in the ideal.

    There must be one.
    """
    some = rests_of(coding, reducers, some)
    exponent = 0
    while some:
        if exponent == LONG_PATIENCE:
            return exponent + least_by_doubling(coding, reducers, some, p)
        some = rests_of_products(coding, reducers, some, p)
        exponent += 1
    return exponent


def least_by_doubling(coding, reducers, some, p):
    """The same by the powers of p with the exponents 1, 2, 4 and so on; some of the polynomials are outside."""
    powers = [p]
    while rests_of_products(coding, reducers, some, powers[-1]):
        powers.append(rest_of(coding, packed_product(coding.field, powers[-1], powers[-1]), reducers))
    exponent = 1
    for place in reversed(range(len(powers) - 1)):
        rests = rests_of_products(coding, reducers, some, powers[place])
        if rests:
            some = rests
            exponent += 1 << place
    return exponent
