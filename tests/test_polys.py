"""Points 4 and 5: polynomials."""
import random
import unittest
from fractions import Fraction

from idealcore.errors import BadInteger, BadNumber, BadPoint, BadPolynomial, BadPolynomials, BadTerms, BadVariable
from idealcore.errors import OtherRing
from idealcore.polys import degree, derivative, evaluate, leading, minus, parts, plus, polynomial, power, reordered
from idealcore.polys import scaled, substitute, times
from tests import oracle
from tests.oracle import from_dict, from_number, orders_of, random_polynomial, to_dict, to_number

FIELDS = (0, 2, 3, 7, 31)
LINE = (0, 1, "lex")


def rings():
    return [(field, many, order) for field in FIELDS for many in (1, 2, 3, 4) for order in orders_of(many)]


def some(seed, ring, many=3, top=4, terms=5):
    rng = random.Random(repr((seed, ring)))
    return [random_polynomial(rng, ring, top, terms) for _ in range(many)]


class Arithmetic(unittest.TestCase):

    def test_sum_of_terms(self):
        for ring in rings():
            field = ring[0]
            for p in some(1, ring):
                for q in some(2, ring, many=2):
                    loose = list(p + q) + [(from_number(field, to_number(field, n) * 0), m) for n, m in p]
                    random.Random(3).shuffle(loose)
                    told = from_dict(ring, oracle.add(field, to_dict(field, p), to_dict(field, q)))
                    self.assertEqual(polynomial(ring, tuple(loose)), told)

    def test_terms_that_cancel(self):
        self.assertEqual(polynomial((3, 1, "lex"), ((1, (1,)), (1, (1,)), (1, (1,)))), ())
        self.assertEqual(polynomial(LINE, (((1, 2), (1,)), ((-1, 2), (1,)), ((0, 1), (3,)))), ())
        self.assertEqual(polynomial(LINE, ()), ())

    def test_bounds_of_terms(self):
        ring = (7, 2, "lex")
        term = (1, (1, 1))
        self.assertEqual(polynomial(ring, (term,) * 200), ((4, (1, 1)),))
        for value, index in (((term,) * 201, None), ([term], None), (7, None), (None, None), ({}, None),
                             ((term, term, (7, (1, 1))), 2), ((term, (1, (1,))), 1), ((None, term), 0),
                             (((1, (61, 0)),), 0), ((term,) * 199 + ((1, (1, 1), 1),), 199), (((True, (1, 1)),), 0),
                             (((1, [1, 1]),), 0), (([1, (1, 1)],), 0)):
            with self.assertRaises(BadTerms) as caught:
                polynomial(ring, value)
            self.assertEqual(caught.exception.index, index)
        self.assertEqual(polynomial(ring, ((0, (60, 0)), (0, (0, 60)))), ())
        self.assertEqual(len(polynomial(ring, tuple((1, (a, b)) for a in range(20) for b in range(10)))), 200)

    def test_sums_that_cannot_be_passed(self):
        big = 10 ** 200 - 1
        p = polynomial(LINE, (((big, 1), (1,)), ((1, 1), (1,))))
        self.assertEqual(p, (((10 ** 200, 1), (1,)),))
        self.assertRaises(BadPolynomial, leading, LINE, p)

    def test_polynomials_that_are_none(self):
        ring = (7, 2, "lex")
        dense = tuple((1, (a, b)) for a in range(24, -1, -1) for b in range(19, -1, -1))
        self.assertEqual((len(dense), degree(ring, dense)), (500, 43))
        more = ((1, (25, 0)),) + dense
        for value in (more, ((1, (0, 1)), (1, (1, 0))), ((1, (1, 0)), (2, (1, 0))), ((0, (1, 0)),), ((7, (1, 0)),),
                      ((1, (1,)),), ((1, (61, 0)),), ((1, (1, 0), 0),), [(1, (1, 0))], None, 1, "x", True, {}):
            for call in (lambda: leading(ring, value), lambda: plus(ring, value, ()), lambda: minus(ring, (), value),
                         lambda: times(ring, value, value), lambda: power(ring, value, 0), lambda: degree(ring, value),
                         lambda: scaled(ring, value, 9), lambda: parts(ring, value),
                         lambda: evaluate(ring, value, None), lambda: derivative(ring, value, 5),
                         lambda: substitute(ring, value, None, None), lambda: reordered(ring, value, None)):
                self.assertRaises(BadPolynomial, call)
        self.assertEqual(len(plus(ring, dense, ((1, (25, 0)),))), 501)

    def test_the_order_of_the_ring_tells(self):
        p = ((1, (1, 0)), (1, (0, 2)))
        self.assertEqual(leading((7, 2, "lex"), p), (1, (1, 0)))
        self.assertRaises(BadPolynomial, leading, (7, 2, "deglex"), p)

    def test_sums_differences_and_products(self):
        for ring in rings():
            field = ring[0]
            for p in some(4, ring):
                for q in some(5, ring, many=2) + [(), p]:
                    one, other = to_dict(field, p), to_dict(field, q)
                    self.assertEqual(plus(ring, p, q), from_dict(ring, oracle.add(field, one, other)))
                    self.assertEqual(minus(ring, p, q), from_dict(ring, oracle.add(field, one, other, -1)))
                    self.assertEqual(times(ring, p, q), from_dict(ring, oracle.mul(field, one, other)))

    def test_multiples(self):
        for ring in rings():
            field = ring[0]
            numbers = [(0, 1), (-2, 3), (5, 1)] if field == 0 else [0, 1, field - 1]
            for p in some(6, ring):
                for number in numbers:
                    told = {m: n * to_number(field, number) for m, n in to_dict(field, p).items()}
                    self.assertEqual(scaled(ring, p, number), from_dict(ring, told))
        self.assertRaises(BadNumber, scaled, LINE, (), 2)
        self.assertRaises(BadNumber, scaled, (5, 1, "lex"), (), 5)

    def test_powers(self):
        for ring in rings()[::3]:
            field = ring[0]
            for p in some(7, ring, many=2, top=2, terms=2) + [()]:
                told = {(0,) * ring[1]: to_number(field, 1 if field else (1, 1))}
                for exponent in range(13):
                    self.assertEqual(power(ring, p, exponent), from_dict(ring, told))
                    told = oracle.mul(field, told, to_dict(field, p))
        for exponent in (-1, 13, True, None, "1", (1,)):
            self.assertRaises(BadInteger, power, LINE, (), exponent)

    def test_results_that_cannot_be_passed(self):
        ring = (31, 1, "lex")
        p = power(ring, ((1, (60,)),), 12)
        self.assertEqual(p, ((1, (720,)),))
        self.assertRaises(BadPolynomial, degree, ring, p)
        dense = tuple((1, (k,)) for k in range(60, -1, -1))
        square = times(ring, dense, dense)
        self.assertEqual((len(square), square[0]), (121 - sum(1 for k in range(121) if min(k, 120 - k) % 31 == 30),
                                                    (1, (120,))))
        plane = (31, 2, "lex")
        wide = polynomial(plane, tuple((1, (a, 0)) for a in range(30)))
        high = polynomial(plane, tuple((1, (0, b)) for b in range(30)))
        self.assertEqual(len(times(plane, wide, high)), 900)

    def test_leading_and_degree(self):
        for ring in rings():
            for p in some(8, ring) + [()]:
                monomials = [m for _, m in p]
                top = oracle.greatest(ring[2], monomials)
                self.assertEqual(leading(ring, p), next(((n, m) for n, m in p if m == top), None))
                self.assertEqual(degree(ring, p), max([sum(m) for m in monomials], default=-1))


class Changes(unittest.TestCase):

    def test_values(self):
        for ring in rings():
            field, many, _ = ring
            rng = random.Random(9)
            for p in some(9, ring) + [()]:
                for _ in range(3):
                    if field:
                        point = tuple(rng.randrange(field) for _ in range(many))
                    else:
                        point = tuple(from_number(0, Fraction(rng.randint(-4, 4), rng.randint(1, 5)))
                                      for _ in range(many))
                    self.assertEqual(evaluate(ring, p, point), oracle.evaluate(field, p, point))
        big = 10 ** 200 - 1
        self.assertEqual(evaluate(LINE, (((1, 1), (60,)),), ((big, 1),)), (big ** 60, 1))
        self.assertEqual(evaluate(LINE, (((1, 1), (60,)), ((1, 1), (0,))), ((1, big),)), (1 + big ** 60, big ** 60))
        for point in (((1, 1), (1, 1)), (), (1,), ((2, 2),), [(1, 1)], None, 1, "x", {}, ((10 ** 200, 1),)):
            self.assertRaises(BadPoint, evaluate, LINE, (), point)

    def test_derivatives(self):
        for ring in rings():
            field = ring[0]
            for p in some(10, ring, top=7) + [()]:
                for place in range(ring[1]):
                    told = {m[:place] + (m[place] - 1,) + m[place + 1:]: n * m[place]
                            for m, n in to_dict(field, p).items() if m[place]}
                    self.assertEqual(derivative(ring, p, place), from_dict(ring, told))
        self.assertEqual(derivative((3, 1, "lex"), ((1, (6,)), (2, (4,)), (1, (0,))), 0), ((2, (3,)),))
        for place in (-1, 1, True, False, None, "x", (0,)):
            self.assertRaises(BadVariable, derivative, LINE, (), place)

    def test_substitution(self):
        for ring in rings()[::5]:
            field, many, _ = ring
            for target in ((field, 1, "lex"), (field, 2, ("block", 1)), (field, 3, "degrevlex")):
                values = tuple(some(11, target, many=many, top=2, terms=3))
                for p in some(12, ring, many=2, top=3, terms=3) + [()]:
                    told = {}
                    for monomial, n in to_dict(field, p).items():
                        product = {(0,) * target[1]: n}
                        for value, exponent in zip(values, monomial):
                            for _ in range(exponent):
                                product = oracle.mul(field, product, to_dict(field, value))
                        told = oracle.add(field, told, product)
                    self.assertEqual(substitute(ring, p, target, values), from_dict(target, told))

    def test_substitution_edges(self):
        ring, target = (5, 2, "lex"), (5, 1, "lex")
        p = ((1, (2, 0)), (3, (0, 0)))
        self.assertEqual(substitute(ring, p, target, ((), ())), ((3, (0,)),))
        self.assertEqual(substitute(ring, ((1, (60, 0)),), target, (((1, (60,)),), ())), ((1, (3600,)),))
        self.assertRaises(OtherRing, substitute, ring, p, (7, 1, "lex"), ((), ()))
        for values, index in (((), None), (((),), None), (((), (), ()), None), ([(), ()], None), (None, None),
                              ((((1, (1, 0)),), ()), 0), (((), 3), 1), ((3, 3), 0)):
            with self.assertRaises(BadPolynomials) as caught:
                substitute(ring, p, target, values)
            self.assertEqual(caught.exception.index, index)

    def test_parts(self):
        for ring in rings():
            for p in some(13, ring, terms=8) + [()]:
                found = parts(ring, p)
                self.assertEqual([d for d, _ in found], sorted({sum(m) for _, m in p}))
                for total, part in found:
                    self.assertEqual(part, tuple(term for term in p if sum(term[1]) == total))

    def test_reordered(self):
        for field in FIELDS:
            for many in (1, 2, 3, 4):
                for order in orders_of(many):
                    ring = (field, many, order)
                    for other in orders_of(many):
                        for p in some(14, ring, many=2) + [()]:
                            told = from_dict((field, many, other), to_dict(field, p))
                            self.assertEqual(reordered(ring, p, (field, many, other)), told)
        self.assertRaises(OtherRing, reordered, LINE, (), (5, 1, "lex"))
        self.assertRaises(OtherRing, reordered, LINE, (), (0, 2, "lex"))


if __name__ == "__main__":
    unittest.main()
