"""Points 22 to 24: Hilbert functions, multiplicities, independent sets and dimensions."""
import random
import unittest
from itertools import combinations, product
from math import comb

from idealcore.bases import leading_monomials, standard_monomials
from idealcore.errors import BadInteger, BadPolynomials, BadRing, NotEven
from idealcore.hilbert import dimension, hilbert_function, hilbert_numerator, hilbert_polynomial, hilbert_stays
from idealcore.hilbert import independent_sets, multiplicity
from idealcore.ideals import ideal_power, ideal_product, meet
from idealcore.orders import monomials
from idealcore.polys import reordered
from tests.lots import even_lot, lot, of_texts, rings
from tests.oracle import divides, orders_of

EVEN = (hilbert_numerator, hilbert_polynomial, hilbert_stays, multiplicity)


def counted(ring, polys, top):
    """The numbers of standard monomials of the degrees up to top, at most 12."""
    found = [0] * (top + 1)
    for monomial in standard_monomials(ring, polys, top):
        found[sum(monomial)] += 1
    return tuple(found)


def of_degree(many, degree):
    """All monomials of a degree."""
    return [m + (degree - sum(m),) for m in product(range(degree + 1), repeat=many - 1) if sum(m) <= degree]


def value_of(row, many, degree):
    """The sum of k[j] times the number of monomials of the degree less j."""
    return sum(n * comb(degree - j + many - 1, many - 1) for j, n in enumerate(row) if j <= degree)


def lasting(row, degree):
    """The sum of c[i] times the binomial coefficient of the degree over i."""
    return sum(c * comb(degree, i) for i, c in enumerate(row))


class Functions(unittest.TestCase):

    def lots(self, fields=(0, 2, 5), most=4):
        for ring in rings(most, fields):
            rng = random.Random(repr(ring))
            for _ in range(2):
                yield ring, even_lot(rng, ring, most=3, top=3)

    def test_against_standard_monomials(self):
        for ring, polys in self.lots():
            self.assertEqual(hilbert_function(ring, polys, 8), counted(ring, polys, 8))

    def test_degrees(self):
        for ring, polys in self.lots((0, 3)):
            whole = hilbert_function(ring, polys, 40)
            self.assertEqual(len(whole), 41)
            for degree in (0, 1, 7, 39):
                self.assertEqual(hilbert_function(ring, polys, degree), whole[:degree + 1])

    def test_great_degrees(self):
        ring = (5, 3, "lex")
        exponents = [(9, 0, 3), (0, 17, 2), (20, 1, 0), (4, 4, 4), (0, 0, 30)]
        polys = tuple(((1, m),) for m in exponents)
        expected = [sum(1 for m in of_degree(3, d) if not any(divides(k, m) for k in exponents)) for d in range(41)]
        self.assertEqual(hilbert_function(ring, polys, 40), tuple(expected))

    def test_numerators(self):
        for ring, polys in self.lots():
            row = hilbert_numerator(ring, polys)
            self.assertIsInstance(row, tuple)
            self.assertTrue(row == () or row[-1] != 0)
            values = hilbert_function(ring, polys, 40)
            self.assertEqual(values, tuple(value_of(row, ring[1], d) for d in range(41)))

    def test_polynomials(self):
        for ring, polys in self.lots():
            row, stays = hilbert_polynomial(ring, polys), hilbert_stays(ring, polys)
            self.assertIsInstance(row, tuple)
            self.assertTrue(row == () or row[-1] != 0)
            values = hilbert_function(ring, polys, 40)
            self.assertEqual(values[stays:], tuple(lasting(row, d) for d in range(stays, 41)))
            if stays:
                self.assertNotEqual(values[stays - 1], lasting(row, stays - 1))

    def test_the_same_in_all_orders(self):
        for many in (2, 3, 4):
            start = (3, many, "lex")
            polys = even_lot(random.Random(many), start)
            told = None
            for order in orders_of(many):
                ring = (3, many, order)
                moved = tuple(reordered(start, p, ring) for p in polys)
                found = [function(ring, moved) for function in EVEN] + [hilbert_function(ring, moved, 12)]
                told = found if told is None else told
                self.assertEqual(found, told)

    def test_zero_and_one(self):
        for field in (0, 2):
            for many in (1, 2, 3, 4):
                ring = (field, many, "degrevlex")
                one, x = of_texts(ring, "1", "x")
                for polys in ((), ((),), ((), ())):
                    self.assertEqual(hilbert_function(ring, polys, 40),
                                     tuple(comb(d + many - 1, many - 1) for d in range(41)))
                    self.assertEqual(hilbert_numerator(ring, polys), (1,))
                    self.assertEqual(hilbert_polynomial(ring, polys), tuple(comb(many - 1, i) for i in range(many)))
                    self.assertEqual(hilbert_stays(ring, polys), 0)
                    self.assertEqual(multiplicity(ring, polys), 1)
                for polys in ((one,), (x, one), ((), one)):
                    self.assertEqual(hilbert_function(ring, polys, 3), (0, 0, 0, 0))
                    self.assertEqual(hilbert_numerator(ring, polys), ())
                    self.assertEqual(hilbert_polynomial(ring, polys), ())
                    self.assertEqual(hilbert_stays(ring, polys), 0)
                    self.assertEqual(multiplicity(ring, polys), 0)

    def test_known(self):
        ring = (0, 4, "degrevlex")
        cubic = of_texts(ring, "x*z-y^2", "x*w-y*z", "y*w-z^2")
        self.assertEqual(hilbert_numerator(ring, cubic), (1, 0, -3, 2))
        self.assertEqual(hilbert_polynomial(ring, cubic), (1, 3))
        self.assertEqual(hilbert_stays(ring, cubic), 0)
        self.assertEqual(hilbert_function(ring, cubic, 4), (1, 4, 7, 10, 13))
        quartic = of_texts(ring, "x*w-y*z", "x*z^2-y^2*w", "y^3-x^2*z", "z^3-y*w^2")
        self.assertEqual(hilbert_function(ring, quartic, 4), (1, 4, 9, 13, 17))
        self.assertEqual(hilbert_polynomial(ring, quartic), (1, 4))
        self.assertEqual(hilbert_stays(ring, quartic), 2)
        ring = (5, 2, "lex")
        self.assertEqual(hilbert_function(ring, of_texts(ring, "x^2", "y^3"), 5), (1, 2, 2, 1, 0, 0))
        self.assertEqual(hilbert_polynomial(ring, of_texts(ring, "x^2", "y^3")), ())
        self.assertEqual(hilbert_stays(ring, of_texts(ring, "x^2", "y^3")), 4)
        self.assertEqual(hilbert_numerator(ring, of_texts(ring, "x^2", "y^3")), (1, 0, -1, -1, 0, 1))

    def test_errors(self):
        ring = (5, 2, "lex")
        x, bad, other = of_texts(ring, "x", "x+1", "x^2+y")
        with_degree = (lambda r, p: hilbert_function(r, p, 3), lambda r, p: hilbert_function(r, p, None))
        for function in EVEN + with_degree:
            self.assertRaises(BadRing, function, (5, 2), None)
            for polys, index in (((bad,), 0), ((x, bad), 1), ((x, (), other, bad), 2), ((x,) * 11 + (bad,), 11)):
                with self.assertRaises(NotEven) as caught:
                    function(ring, polys)
                self.assertEqual(caught.exception.index, index)
            for polys, index in (((bad, None), 1), ((bad,) * 13, None), (None, None), ([x], None), ({}, None),
                                 ((bad, x + x), 1)):
                with self.assertRaises(BadPolynomials) as caught:
                    function(ring, polys)
                self.assertEqual(caught.exception.index, index)
        for value in (-1, 41, True, False, None, "1", (), [3], {}, 10 ** 30):
            self.assertRaises(BadInteger, hilbert_function, ring, (x,), value)
        self.assertEqual(len(hilbert_function(ring, (x, ()), 40)), 41)
        self.assertEqual(hilbert_function(ring, (x,), 0), (1,))


class Multiplicities(unittest.TestCase):

    def test_known(self):
        for field in (0, 5):
            for order in ("lex", "degrevlex"):
                ring = (field, 3, order)
                for texts, expected in ((["x"], 1), (["x^7"], 7), (["x^2", "y^3"], 6), (["x^2", "y^3", "z^4"], 24),
                                        (["x*y*z"], 3), (["x*y", "x*z"], 1), (["x*y", "y*z", "z*x"], 3),
                                        (["x^2", "x*y"], 1), (["x^2+y*z"], 2), (["x^2", "x*y", "x*z"], 1),
                                        (["1"], 0), (["x", "y", "z"], 1), (["x-y", "y+z"], 1), (["x^2-y^2"], 2)):
                    self.assertEqual(multiplicity(ring, of_texts(ring, *texts)), expected, texts)
        ring = (0, 4, "degrevlex")
        self.assertEqual(multiplicity(ring, of_texts(ring, "x*z-y^2", "x*w-y*z", "y*w-z^2")), 3)
        self.assertEqual(multiplicity(ring, of_texts(ring, "x^2+y*w", "z^3-x*y*w")), 6)
        self.assertEqual(multiplicity((7, 1, "lex"), (((1, (5,)),),)), 5)

    def test_by_hilbert_polynomials(self):
        for ring, polys in Functions().lots():
            row = hilbert_polynomial(ring, polys)
            found = multiplicity(ring, polys)
            if row:
                self.assertEqual(found, row[-1])
            else:
                self.assertEqual(found, sum(hilbert_function(ring, polys, 40)))

    def test_finite_ones_count_all(self):
        ring = (3, 2, "lex")
        for k in range(1, 5):
            self.assertEqual(multiplicity(ring, ideal_power(ring, of_texts(ring, "x", "y"), k)), k * (k + 1) // 2)

    def test_planes_apart(self):
        ring = (5, 4, "degrevlex")
        one, other = of_texts(ring, "x", "y"), of_texts(ring, "z", "w")
        self.assertEqual(multiplicity(ring, meet(ring, one, other)), 2)
        self.assertEqual(multiplicity(ring, ideal_product(ring, one, of_texts(ring, "x", "z"))), 2)


class Dimensions(unittest.TestCase):

    def expected_sets(self, ring, polys):
        heads = leading_monomials(ring, polys)
        free = []
        for size in range(ring[1] + 1):
            for places in combinations(range(ring[1]), size):
                if all(any(e and k not in places for k, e in enumerate(head)) for head in heads):
                    free.append(places)
        return sorted(s for s in free if not any(set(s) < set(t) for t in free))

    def test_independent_sets(self):
        for ring in rings(4):
            rng = random.Random(repr(ring))
            for polys in (lot(rng, ring, most=2, top=2), even_lot(rng, ring, most=3)):
                found = independent_sets(ring, polys)
                self.assertIsInstance(found, list)
                self.assertEqual(found, self.expected_sets(ring, polys))
                self.assertEqual(dimension(ring, polys), max([len(s) for s in found], default=-1))

    def test_the_same_dimension_in_all_orders(self):
        for field in (0, 2, 5):
            for many in (1, 2, 3, 4):
                rng = random.Random(repr((field, many)))
                start = (field, many, "lex")
                for _ in range(4):
                    polys = lot(rng, start, most=3, top=2)
                    found = {dimension((field, many, order), tuple(reordered(start, p, (field, many, order))
                                                                   for p in polys)) for order in orders_of(many)}
                    self.assertEqual(len(found), 1)

    def test_it_is_the_length_of_the_polynomial(self):
        for ring, polys in Functions().lots():
            if multiplicity(ring, polys):
                self.assertEqual(dimension(ring, polys), len(hilbert_polynomial(ring, polys)))
            else:
                self.assertEqual(dimension(ring, polys), -1)

    def test_several_degrees(self):
        ring = (0, 3, "lex")
        for texts, sets, value in ((["x*y-1"], [(0, 2), (1, 2)], 2), (["x^2-y", "y*z-1"], [(1,), (2,)], 1),
                                   (["x-y^2", "z-1"], [(1,)], 1), (["x^2-1", "y-3", "z^2-z"], [()], 0),
                                   (["x", "x-1"], [], -1), (["x*y*z"], [(0, 1), (0, 2), (1, 2)], 2),
                                   (["x*y", "x*z"], [(0,), (1, 2)], 2), (["x^2+y^2+z^2-1"], [(1, 2)], 2)):
            polys = of_texts(ring, *texts)
            self.assertEqual(independent_sets(ring, polys), sets, texts)
            self.assertEqual(dimension(ring, polys), value)
        ring = (0, 3, "degrevlex")
        self.assertEqual(independent_sets(ring, of_texts(ring, "x-y^2")), [(0, 2)])

    def test_zero_and_one(self):
        for many in (1, 2, 3, 4):
            ring = (7, many, "degrevlex")
            one, x = of_texts(ring, "1", "x")
            for polys in ((), ((),)):
                self.assertEqual(independent_sets(ring, polys), [tuple(range(many))])
                self.assertEqual(dimension(ring, polys), many)
            for polys in ((one,), (x, one, ()), of_texts(ring, "x", "x-1")):
                self.assertEqual(independent_sets(ring, polys), [])
                self.assertEqual(dimension(ring, polys), -1)
            self.assertEqual(dimension(ring, (x,)), many - 1)

    def test_monomials_of_a_ring(self):
        ring = (2, 2, "lex")
        for monomial in monomials(ring, 3):
            support = [k for k, e in enumerate(monomial) if e]
            expected = {0: [], 1: [(1 - k,) for k in support], 2: [(0,), (1,)]}[len(support)]
            self.assertEqual(independent_sets(ring, (((1, monomial),),)), expected)

    def test_errors(self):
        ring = (5, 2, "lex")
        x = of_texts(ring, "x")[0]
        for function in (independent_sets, dimension):
            self.assertRaises(BadRing, function, (5, 2), None)
            for polys, index in (((x, None), 1), ((x,) * 13, None), (None, None), ([x], None), ({}, None),
                                 ((x, x + x), 1), ((True,), 0)):
                with self.assertRaises(BadPolynomials) as caught:
                    function(ring, polys)
                self.assertEqual(caught.exception.index, index)


if __name__ == "__main__":
    unittest.main()
