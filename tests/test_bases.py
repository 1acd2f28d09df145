"""Point 9: bases."""
import random
import unittest

from idealcore.bases import basis, basis_gap, is_basis, leading_monomials, s_polynomial, standard_monomials
from idealcore.errors import BadInteger, BadPolynomials
from idealcore.membership import member
from idealcore.orders import compare, monomials
from idealcore.polys import plus, scaled, times
from idealcore.texts import read
from tests import oracle
from tests.oracle import divides, orders_of, random_polynomial

FIELDS = (0, 2, 5, 31)


def rings(most=4):
    return [(field, many, order) for field in FIELDS for many in range(1, most + 1) for order in orders_of(many)]


def lots(ring, tries=4, top=3, terms=3, most=3):
    """Some lots of generators."""
    rng = random.Random(repr(ring))
    return [tuple(random_polynomial(rng, ring, top, terms) for _ in range(rng.randint(1, most)))
            for _ in range(tries)]


def of_texts(ring, *texts):
    return tuple(read(ring, text) for text in texts)


class SPolynomials(unittest.TestCase):

    def test_by_the_words(self):
        for ring in rings():
            for polys in lots(ring, terms=4):
                for p in polys:
                    for q in polys + ((),):
                        self.assertEqual(s_polynomial(ring, p, q), oracle.s_polynomial(ring, p, q))

    def test_known(self):
        ring = (0, 2, "lex")
        p, q = of_texts(ring, "2*x^2-y", "3*x*y-1")
        self.assertEqual(s_polynomial(ring, p, q), read(ring, "-1/2*y^2+1/3*x"))
        self.assertEqual(s_polynomial(ring, q, p), read(ring, "1/2*y^2-1/3*x"))
        self.assertEqual([s_polynomial(ring, p, ()), s_polynomial(ring, (), p), s_polynomial(ring, (), ())], [()] * 3)
        self.assertEqual(s_polynomial(ring, p, p), ())
        self.assertEqual(s_polynomial(ring, read(ring, "x"), read(ring, "2")), ())


class Gaps(unittest.TestCase):

    def test_by_the_words(self):
        for ring in rings(3):
            for polys in lots(ring):
                for some in (polys, polys + ((),), ((),) + polys[::-1]):
                    told = oracle.gap(ring, some)
                    self.assertEqual(basis_gap(ring, some), told)
                    self.assertIs(is_basis(ring, some), told is None)

    def test_a_basis_has_no_gap(self):
        for ring in rings(3):
            for polys in lots(ring):
                found = basis(ring, polys)
                self.assertIsNone(basis_gap(ring, found))
                self.assertIs(is_basis(ring, found + polys + ((),) + found), True)

    def test_a_pair_that_follows_from_others_may_be_the_first_gap(self):
        ring = (5, 3, "lex")
        polys = of_texts(ring, "x-z", "y-z", "x*y", "z^2-1")
        self.assertEqual(basis_gap(ring, polys), (0, 2, read(ring, "-1")))

    def test_edges(self):
        ring = (5, 2, "lex")
        x, y = of_texts(ring, "x", "y")
        for polys in ((), ((),), ((), ()), (x,), (x, x), (x,) * 40, (x, y, (), x)):
            self.assertIsNone(basis_gap(ring, polys))
            self.assertIs(is_basis(ring, polys), True)
        p = read(ring, "x+1")
        self.assertEqual(basis_gap(ring, (x,) * 39 + (p,)), (0, 39, read(ring, "-1")))
        for function in (basis_gap, is_basis):
            for value, index in (((x,) * 41, None), ([x], None), (None, None), ((x, 3), 1), ((x,) * 39 + (None,), 39)):
                with self.assertRaises(BadPolynomials) as caught:
                    function(ring, value)
                self.assertEqual(caught.exception.index, index)


class Bases(unittest.TestCase):

    def check_reduced(self, ring, found):
        """That polynomials are a reduced basis of some ideal."""
        one = (1, 1) if ring[0] == 0 else 1
        heads = [p[0][1] for p in found]
        self.assertIsInstance(found, tuple)
        self.assertTrue(all(p[0][0] == one for p in found))
        self.assertTrue(all(compare(ring, a, b) == -1 for a, b in zip(heads, heads[1:])))
        for i, p in enumerate(found):
            for j, head in enumerate(heads):
                self.assertFalse(i != j and any(divides(head, m) for _, m in p))
        self.assertIsNone(oracle.gap(ring, found))

    def test_bases_in_every_order(self):
        for ring in rings():
            for polys in lots(ring, tries=3):
                found = basis(ring, polys)
                self.check_reduced(ring, found)
                for p in polys:
                    self.assertEqual(oracle.divide(ring, p, found)[1], ())
                for p in found:
                    self.assertEqual(oracle.products_sum(ring, member(ring, polys, p), polys), p)

    def test_like_the_simplest_algorithm(self):
        for ring in rings(2):
            for polys in lots(ring, tries=3, top=2):
                self.assertEqual(basis(ring, polys), oracle.basis(ring, polys))

    def test_edges(self):
        for field in FIELDS:
            for order in orders_of(2):
                ring = (field, 2, order)
                one, x, y, p = of_texts(ring, "1", "x", "y", "x*y-1")
                for polys, told in (((), ()), (((),), ()), (((), (), ()), ()), ((x,), (x,)), ((x, x), (x,)),
                                    ((x, y, one), (one,)), ((x, p), (one,)), ((x, (), y), (y, x)),
                                    ((x,) * 12, (x,)), ((p, p, p), (p,)), ((y, x), (y, x)),
                                    ((plus(ring, x, one), x), (one,))):
                    found = basis(ring, polys)
                    if told == (y, x) and compare(ring, (1, 0), (0, 1)) == -1:
                        told = (x, y)
                    self.assertEqual(found, told)
                    self.assertEqual(leading_monomials(ring, polys), tuple(q[0][1] for q in told))

    def test_other_generators_of_the_same_ideal(self):
        for ring in rings(3):
            rng = random.Random(repr(ring))
            for polys in lots(ring, tries=2):
                more = [times(ring, p, random_polynomial(rng, ring, 2, 2)) for p in polys]
                number = (-7, 3) if ring[0] == 0 else 1
                same = polys[::-1] + tuple(more) + tuple(scaled(ring, p, number) for p in polys)
                self.assertEqual(basis(ring, same), basis(ring, polys))
                found = basis(ring, polys)
                if len(found) <= 12:
                    self.assertEqual(basis(ring, found[::-1]), found)

    def test_number_of_generators(self):
        ring = (5, 1, "lex")
        x = read(ring, "x")
        for function in (basis, leading_monomials, lambda r, v: standard_monomials(r, v, 2)):
            function(ring, (x,) * 12)
            for value, index in (((x,) * 13, None), ([x], None), ((x,) * 11 + (None,), 11), (None, None), (x, 0)):
                with self.assertRaises(BadPolynomials) as caught:
                    function(ring, value)
                self.assertEqual(caught.exception.index, index)

    def test_known_bases(self):
        ring = (0, 3, "lex")
        polys = of_texts(ring, "x+y+z", "x*y+y*z+z*x", "x*y*z-1")
        self.assertEqual(basis(ring, polys), of_texts(ring, "z^3-1", "y^2+y*z+z^2", "x+y+z"))
        ring = (0, 3, "degrevlex")
        curve = of_texts(ring, "x*z-y^2", "x^3-y*z")
        self.assertEqual(basis(ring, curve), of_texts(ring, "y^2-x*z", "x^3-y*z"))
        ring = (0, 3, ("block", 1))
        polys = of_texts(ring, "y-x^2", "z-x^3")
        self.assertEqual(basis(ring, polys), of_texts(ring, "y^3-z^2", "x*z-y^2", "x*y-z", "x^2-y"))

    def test_results_that_cannot_be_passed(self):
        ring = (5, 2, "lex")
        polys = of_texts(ring, "x-y^60", "x^2-1")
        self.assertEqual(basis(ring, polys)[0], ((1, (0, 120)), (4, (0, 0))))
        ring = (0, 2, "lex")
        big = 10 ** 150 + 1
        polys = ((((1, 1), (1, 0)), ((big, 1), (0, 0))), (((1, 1), (1, 0)), ((-1, big), (0, 1))))
        self.assertEqual(basis(ring, polys), ((((1, 1), (0, 1)), ((big ** 2, 1), (0, 0))),
                                              (((1, 1), (1, 0)), ((big, 1), (0, 0)))))

    def test_longer_computations(self):
        ring = (31, 3, "lex")
        rng = random.Random(1)
        polys = tuple(random_polynomial(rng, ring, 3, 14) for _ in range(3))
        found = basis(ring, polys)
        self.check_reduced(ring, found)
        self.assertEqual([oracle.divide(ring, p, found)[1] for p in polys], [(), (), ()])
        ring = (0, 4, "lex")
        polys = of_texts(ring, "x+2*y+2*z+2*w-1", "x^2+2*y^2+2*z^2+2*w^2-x", "2*x*y+2*y*z+2*z*w-y",
                         "y^2+2*x*z+2*y*w-z")
        found = basis(ring, polys)
        self.check_reduced(ring, found)
        self.assertEqual(leading_monomials(ring, polys), ((0, 0, 0, 8), (0, 0, 1, 0), (0, 1, 0, 0), (1, 0, 0, 0)))


class StandardMonomials(unittest.TestCase):

    def test_by_the_words(self):
        for ring in rings(3):
            for polys in lots(ring, tries=2):
                heads = leading_monomials(ring, polys)
                self.assertEqual(heads, tuple(p[0][1] for p in basis(ring, polys)))
                for degree in (0, 1, 4):
                    told = [m for m in monomials(ring, degree) if not any(divides(head, m) for head in heads)]
                    self.assertEqual(standard_monomials(ring, polys, degree), told)

    def test_edges(self):
        ring = (5, 2, "deglex")
        x, one = of_texts(ring, "x", "1")
        self.assertEqual(standard_monomials(ring, (), 12), monomials(ring, 12))
        self.assertEqual(standard_monomials(ring, (one,), 12), [])
        self.assertEqual(standard_monomials(ring, (x,), 12), [(0, k) for k in range(13)])
        self.assertEqual(standard_monomials(ring, (x,), 0), [(0, 0)])
        for degree in (-1, 13, True, None, "1", (1,)):
            self.assertRaises(BadInteger, standard_monomials, ring, (x,), degree)


if __name__ == "__main__":
    unittest.main()
