"""Rings, polynomials and odd values that several tests take."""
import random
from fractions import Fraction

from idealcore.polys import minus, plus, times
from idealcore.texts import read
from tests.oracle import from_dict, orders_of, random_polynomial

ODD = [0, 7, -1, "", "x", True, False, None, (), ((),), ((), ()), ((), (), ()), (None,), (1, 2, 3), [], [()], {},
       {"a": 1}, ((), (), (), ()), ([], [], []), ({}, {}, {}), (((),), ((),), ((),)), (((), ()),), (((((),),),),),
       (True, False, None), ((1, (1,)),), "lex", (("x",),), 3.5]


def rings(most=3, fields=(0, 2, 5, 31), least=1):
    """Rings over some fields, with all kinds of orders."""
    return [(field, many, order) for field in fields for many in range(least, most + 1) for order in orders_of(many)]


def of_texts(ring, *texts):
    return tuple(read(ring, text) for text in texts)


def lot(rng, ring, most=3, top=3, terms=3):
    """Some generators, at times with a zero among them."""
    polys = [random_polynomial(rng, ring, top, terms) for _ in range(rng.randint(1, most))]
    if rng.random() < 0.2:
        polys.insert(rng.randint(0, len(polys)), ())
    return tuple(polys)


def even_polynomial(rng, ring, degree, terms):
    """A polynomial with at most so many monomials, all of one degree."""
    field, many, _ = ring
    table = {}
    for _ in range(terms):
        monomial = [0] * many
        for _ in range(degree):
            monomial[rng.randrange(many)] += 1
        table[tuple(monomial)] = rng.randint(1, field - 1) if field else Fraction(rng.choice((-3, -2, -1, 1, 1, 2)))
    return from_dict(ring, table)


def even_lot(rng, ring, most=4, top=3, terms=3):
    """Some generators, each with monomials of one degree, at times a zero among them."""
    polys = [even_polynomial(rng, ring, rng.randint(1, top), terms) for _ in range(rng.randint(1, most))]
    if rng.random() < 0.2:
        polys.insert(rng.randint(0, len(polys)), ())
    return tuple(polys)


def finite_lot(rng, ring, top=3):
    """A polynomial for each variable, led in orders by degrees by a power of it: the quotient ring is finite."""
    field, many, _ = ring
    one = 1 if field else (1, 1)
    polys = []
    for place in range(many):
        power = rng.randint(1, top)
        lead = ((one, tuple(power if k == place else 0 for k in range(many))),)
        polys.append(plus(ring, lead, random_polynomial(rng, ring, power - 1, 3)))
    return tuple(polys)


def point_ideal(ring, point):
    """The generators of the ideal of a point with whole numbers."""
    names = "xyzw"[:ring[1]]
    return tuple(minus(ring, read(ring, name), read(ring, str(a))) for name, a in zip(names, point))


def pairs_of_products(ring, one, other):
    return [times(ring, p, q) for p in one for q in other]
