"""Points 38 and 39: reduced bases in other orders, up to a degree, and for all weights."""
import random
import unittest
from itertools import product

from idealcore.bases import basis, is_basis, leading_monomials
from idealcore.changing import changed, graded_basis, universal, weight_bases
from idealcore.errors import BadInteger, BadPolynomials, BadRing, NotEven, NotFinite, OtherRing, TooMany
from idealcore.polys import degree, reordered, scaled
from tests.lots import even_lot, finite_lot, lot, of_texts, rings
from tests.oracle import orders_of


def monic(ring, p):
    number = p[0][0]
    inverse = pow(number, -1, ring[0]) if ring[0] else ((number[1], number[0]) if number[0] > 0
                                                        else (-number[1], -number[0]))
    return scaled(ring, p, inverse)


class Changed(unittest.TestCase):

    def test_from_each_order_to_each(self):
        for field in (0, 2, 5):
            for many in (1, 2, 3):
                for order in orders_of(many):
                    ring = (field, many, order)
                    rng = random.Random(repr(ring))
                    polys = finite_lot(rng, ring)
                    for aim in orders_of(many):
                        other = (field, many, aim)
                        moved = tuple(reordered(ring, p, other) for p in polys)
                        found = changed(ring, polys, other)
                        self.assertIsInstance(found, tuple)
                        self.assertEqual(found, basis(other, moved))

    def test_four_variables(self):
        for field in (0, 3):
            ring = (field, 4, "degrevlex")
            polys = finite_lot(random.Random(4), ring, 2)
            for aim in orders_of(4):
                other = (field, 4, aim)
                self.assertEqual(changed(ring, polys, other), basis(other, tuple(reordered(ring, p, other)
                                                                                 for p in polys)))

    def test_the_ideal_of_one(self):
        for many in (1, 2, 4):
            ring, other = (5, many, "lex"), (5, many, "degrevlex")
            one = of_texts(ring, "3")[0]
            self.assertEqual(changed(ring, (one,), other), (((1, (0,) * many),),))
            self.assertEqual(changed(ring, of_texts(ring, "x", "x-1", "0"), other), (((1, (0,) * many),),))

    def test_sixty_and_more(self):
        for aim in orders_of(2):
            ring, other = (31, 2, "deglex"), (31, 2, aim)
            polys = of_texts(ring, "x^10-y+3", "y^6-x*y-x")
            self.assertEqual(changed(ring, polys, other), basis(other, tuple(reordered(ring, p, other) for p in polys)))
            with self.assertRaises(TooMany) as caught:
                changed(ring, of_texts(ring, "x^10", "x*y^6", "y^7"), other)
            self.assertEqual(caught.exception.most, 60)

    def test_errors(self):
        ring, other = (5, 2, "lex"), (5, 2, "deglex")
        x, y, far = of_texts(ring, "x", "y", "y^60")
        self.assertRaises(BadRing, changed, (5, 2), (x, None), None)
        self.assertRaises(BadPolynomials, changed, ring, (x, None), None)
        self.assertRaises(BadPolynomials, changed, ring, (x,) * 13, (0, 2, "lex"))
        for value in (None, 7, "lex", (5, 2), [5, 2, "lex"], (4, 2, "lex"), (5, 2, "revlex")):
            self.assertRaises(BadRing, changed, ring, (x,), value)
        for value in ((0, 2, "lex"), (7, 2, "lex"), (5, 1, "lex"), (5, 3, "lex")):
            for polys in ((x, y), (x,), (of_texts(ring, "x^60")[0], far)):
                self.assertRaises(OtherRing, changed, ring, polys, value)
        for polys in ((x,), (), ((),), of_texts(ring, "x*y", "x^60")):
            self.assertRaises(NotFinite, changed, ring, polys, other)
        self.assertRaises(TooMany, changed, ring, of_texts(ring, "x^60", "y^60"), other)


class GradedBases(unittest.TestCase):

    def test_against_bases(self):
        for ring in rings(4, (0, 2, 5)):
            rng = random.Random(repr(ring))
            polys = even_lot(rng, ring, 3, 3)
            whole = basis(ring, polys)
            for most in (0, 1, 2, 3, 4, 6, 12):
                found = graded_basis(ring, polys, most)
                self.assertIsInstance(found, tuple)
                self.assertEqual(found, tuple(p for p in whole if degree(ring, p) <= most))

    def test_ascending_by_leading_monomials(self):
        ring = (5, 2, "deglex")
        polys = of_texts(ring, "y^3", "x^2")
        self.assertEqual(graded_basis(ring, polys, 12), polys[::-1])
        ring = (5, 2, "lex")
        polys = of_texts(ring, "y^3", "x^2")
        self.assertEqual(graded_basis(ring, polys, 12), polys)

    def test_zeros_and_one(self):
        ring = (0, 2, "lex")
        x, y, one = of_texts(ring, "x", "y", "2")
        for polys in ((), ((),), ((), ())):
            self.assertEqual(graded_basis(ring, polys, 12), ())
        self.assertEqual(graded_basis(ring, (x, one), 0), of_texts(ring, "1"))
        self.assertEqual(graded_basis(ring, (x, (), y), 0), ())
        self.assertEqual(graded_basis(ring, (x, (), y), 1), (y, x))
        self.assertEqual(graded_basis(ring, of_texts(ring, "x^12", "y^13"), 12), of_texts(ring, "x^12"))
        self.assertEqual(graded_basis(ring, of_texts(ring, "x^12", "y^13"), 11), ())

    def test_what_lies_beyond_is_not_looked_at(self):
        # The whole reduced basis has polynomials of great degrees.
        ring = (31, 4, "lex")
        rng = random.Random(12)
        polys = []
        for _ in range(6):
            table = {}
            for monomial in product(range(5), repeat=4):
                if sum(monomial) == 4:
                    table[monomial] = rng.randint(1, 30)
            polys.append(tuple((table[m], m) for m in sorted(table, reverse=True)))
        found = graded_basis(ring, tuple(polys), 5)
        self.assertEqual([sum(p[0][1]) for p in found].count(4), 6)
        self.assertEqual(found[-1][0], (1, (4, 0, 0, 0)))
        plain = (31, 4, "degrevlex")
        moved = tuple(reordered(ring, p, plain) for p in polys)
        # Of each degree, the ideal has as many leading monomials in each order.
        numbers = []
        for order_ring, some in ((ring, found), (plain, graded_basis(plain, moved, 5))):
            heads = [p[0][1] for p in some]
            numbers.append(sum(1 for m in product(range(6), repeat=4) if sum(m) == 5
                               and any(all(a <= b for a, b in zip(h, m)) for h in heads)))
        self.assertEqual(numbers[0], numbers[1])

    def test_errors(self):
        ring = (5, 2, "lex")
        x, odd = of_texts(ring, "x", "x^2+y")
        for value in (-1, 13, True, False, None, "1", (), [1], {}, 1.0, 10 ** 30):
            self.assertRaises(BadInteger, graded_basis, ring, (x,), value)
            with self.assertRaises(NotEven) as caught:
                graded_basis(ring, (x, (), odd), value)
            self.assertEqual(caught.exception.index, 2)
            self.assertRaises(BadPolynomials, graded_basis, ring, (odd, None), value)
            self.assertRaises(BadRing, graded_basis, None, (odd, None), value)
        graded_basis(ring, (x,), 0)
        graded_basis(ring, (x,), 12)


class WeightBases(unittest.TestCase):

    def plain(self, ring, polys, most):
        """The reduced basis in each of the rings, those with leading monomials of one ahead being left out."""
        found, seen = [], []
        for weights in product(range(1, most + 1), repeat=ring[1]):
            aim = ring[:2] + (("weights", weights),)
            own = basis(aim, tuple(reordered(ring, p, aim) for p in polys))
            heads = sorted(p[0][1] for p in own)
            if heads not in seen:
                seen.append(heads)
                found.append((weights, own))
        return found

    def lots(self):
        for ring in rings(3, (0, 2, 5)):
            if ring[2] in ("lex", "deglex", "degrevlex") or ring[1] > 1:
                yield ring, lot(random.Random(repr(ring)), ring, 2, 3, 3)

    def test_against_each_basis(self):
        many_kinds = 0
        for ring, polys in self.lots():
            most = (8, 6, 3)[ring[1] - 1]
            found = weight_bases(ring, polys, most)
            self.assertIsInstance(found, list)
            self.assertEqual(found, self.plain(ring, polys, most))
            many_kinds += len(found) > 2
        self.assertGreater(many_kinds, 3)

    def test_four_variables(self):
        for field in (0, 3):
            ring = (field, 4, "lex")
            polys = of_texts(ring, "x^2-y*z+w", "x*y-z^3", "w^2-x")
            for most in (1, 2):
                self.assertEqual(weight_bases(ring, polys, most), self.plain(ring, polys, most))

    def test_universal(self):
        for ring, polys in self.lots():
            most = (8, 5, 3)[ring[1] - 1]
            found = universal(ring, polys, most)
            self.assertIsInstance(found, list)
            expected = set()
            for weights, own in self.plain(ring, polys, most):
                aim = ring[:2] + (("weights", weights),)
                expected |= {monic(ring, reordered(aim, p, ring)) for p in own}
            self.assertEqual(found, sorted(expected))

    def test_a_basis_in_all_of_them(self):
        ring = (5, 3, "lex")
        polys = of_texts(ring, "x^2-y*z", "x*y-z^3+1")
        found = universal(ring, polys, 4)
        self.assertLessEqual(len(found), 40)
        for weights in product(range(1, 5), repeat=3):
            aim = (5, 3, ("weights", weights))
            self.assertTrue(is_basis(aim, tuple(reordered(ring, p, aim) for p in found)))

    def test_the_bounds(self):
        ring = (7, 2, "lex")
        polys = of_texts(ring, "x^3-y^8", "x*y^2-y^5+1")
        for most in (1, 8):
            self.assertEqual(weight_bases(ring, polys, most), self.plain(ring, polys, most))
        ring = (2, 4, "degrevlex")
        x, y = of_texts(ring, "x-y^2", "z-w^3")
        found = weight_bases(ring, (x, y), 8)
        self.assertEqual([weights for weights, _ in found], [(1, 1, 1, 1), (1, 1, 4, 1), (3, 1, 1, 1), (3, 1, 4, 1)])

    def test_no_generators_zeros_and_one(self):
        for field in (0, 2):
            for many in (1, 2, 4):
                ring = (field, many, "lex")
                for polys in ((), ((),), ((), ())):
                    self.assertEqual(weight_bases(ring, polys, 3), [((1,) * many, ())])
                    self.assertEqual(universal(ring, polys, 3), [])
                one, x = of_texts(ring, "1", "x")
                self.assertEqual(weight_bases(ring, (x, one), 8), [((1,) * many, (one,))])
                self.assertEqual(universal(ring, (x, (), one), 8), [one])

    def test_polynomials_of_the_ring(self):
        # In "lex" other numbers and monomials lead than in the orders of the weights.
        ring = (7, 2, "lex")
        polys = of_texts(ring, "3*x+y^3")
        self.assertEqual(universal(ring, polys, 1), list(of_texts(ring, "x+5*y^3")))
        self.assertEqual(weight_bases(ring, polys, 1), [((1, 1), (((1, (0, 3)), (3, (1, 0))),))])
        ring = (0, 2, "lex")
        self.assertEqual(universal(ring, of_texts(ring, "-3*x+y^3"), 2), list(of_texts(ring, "x-1/3*y^3")))

    def test_errors(self):
        ring = (5, 2, "lex")
        x = of_texts(ring, "x")[0]
        for function in (weight_bases, universal):
            for value in (0, 9, -1, True, False, None, "1", (), [1], {}, 1.0, 10 ** 30):
                self.assertRaises(BadInteger, function, ring, (x,), value)
                self.assertRaises(BadPolynomials, function, ring, (x, 7), value)
                self.assertRaises(BadRing, function, (5, 2), (x, 7), value)
            function(ring, (x,), 1)
            function(ring, (x,), 8)


class Leading(unittest.TestCase):

    def test_leading_monomials_are_unlike(self):
        ring = (3, 3, "deglex")
        polys = of_texts(ring, "x^2*y-z", "y^2-x*z+1")
        found = weight_bases(ring, polys, 4)
        heads = [frozenset(p[0][1] for p in own) for _, own in found]
        self.assertEqual(len(heads), len(set(heads)))
        for weights, own in found:
            aim = (3, 3, ("weights", weights))
            self.assertEqual(leading_monomials(aim, tuple(reordered(ring, p, aim) for p in polys)),
                             tuple(p[0][1] for p in own))


if __name__ == "__main__":
    unittest.main()
