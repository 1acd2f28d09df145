"""Point 3: rings, monomials and their orders."""
import unittest
from itertools import product
from math import comb

from idealcore.errors import BadInteger, BadMonomial, BadRing
from idealcore.orders import compare, monomial_lcm, monomial_quotient, monomials, order_rows
from tests.oracle import divides, greater, orders_of


def rings():
    return [(field, many, order) for field in (0, 5) for many in (1, 2, 3, 4) for order in orders_of(many)]


def small(many):
    return [m for m in product(range(4), repeat=many) if sum(m) <= (6 if many < 3 else 4)]


class Orders(unittest.TestCase):

    def test_rings(self):
        for ring in rings():
            self.assertEqual(compare(ring, (0,) * ring[1], (0,) * ring[1]), 0)
        for many in (1, 2, 3, 4):
            for k in range(-1, 6):
                ring = (0, many, ("block", k))
                if 1 <= k < many:
                    order_rows(ring)
                else:
                    self.assertRaises(BadRing, order_rows, ring)
            for weight in (1, 20):
                order_rows((0, many, ("weights", (weight,) * many)))
            for weights in ((0,) + (1,) * (many - 1), (1,) * (many - 1) + (21,), (1,) * (many + 1), (1,) * (many - 1)):
                self.assertRaises(BadRing, order_rows, (0, many, ("weights", weights)))

    def test_compare_by_the_words(self):
        for ring in rings():
            for one in small(ring[1]):
                for other in small(ring[1]):
                    told = compare(ring, one, other)
                    self.assertIs(told.__class__, int)
                    self.assertEqual(told, 0 if one == other else 1 if greater(ring[2], one, other) else -1)

    def test_compare_at_the_bound(self):
        for ring in rings():
            if ring[1] == 1:
                continue
            many = ring[1]
            edges = [(60,) + (0,) * (many - 1), (0,) * (many - 1) + (60,), (30,) + (0,) * (many - 2) + (30,),
                     (1,) + (0,) * (many - 2) + (59,), (0,) * many]
            for one in edges:
                for other in edges:
                    told = 0 if one == other else 1 if greater(ring[2], one, other) else -1
                    self.assertEqual(compare(ring, one, other), told)

    def test_rows(self):
        for ring in rings():
            rows = order_rows(ring)
            self.assertIsInstance(rows, tuple)
            for row in rows:
                self.assertIsInstance(row, tuple)
                self.assertEqual(len(row), ring[1])
                self.assertTrue(all(n.__class__ is int for n in row))
            for one in small(ring[1]):
                for other in small(ring[1]):
                    sums = [sum(n * (a - b) for n, a, b in zip(row, one, other)) for row in rows]
                    first = next((n for n in sums if n), 0)
                    self.assertEqual((first > 0) - (first < 0), compare(ring, one, other))

    def test_monomials_of_the_ring(self):
        ring = (0, 2, "lex")
        self.assertEqual(compare(ring, (60, 0), (0, 60)), 1)
        for value in ((61, 0), (30, 31), (-1, 5), (0, -1), (1,), (1, 1, 1), [1, 1], (True, 1), ("1", 1), 3, None):
            self.assertRaises(BadMonomial, compare, ring, value, (0, 0))
            self.assertRaises(BadMonomial, compare, ring, (0, 0), value)
            self.assertRaises(BadMonomial, monomial_lcm, ring, (0, 0), value)
            self.assertRaises(BadMonomial, monomial_quotient, ring, value, (0, 0))

    def test_list_of_monomials(self):
        for ring in rings():
            for degree in (0, 1, 2, 3):
                found = monomials(ring, degree)
                everything = [m for m in product(range(degree + 1), repeat=ring[1]) if sum(m) <= degree]
                self.assertEqual(sorted(found), sorted(everything))
                self.assertTrue(all(compare(ring, a, b) == -1 for a, b in zip(found, found[1:])))
            found = monomials(ring, 12)
            self.assertEqual(len(set(found)), comb(12 + ring[1], 12))
            self.assertTrue(all(compare(ring, a, b) == -1 for a, b in zip(found, found[1:])))
        self.assertEqual(monomials((0, 1, "lex"), 12), [(k,) for k in range(13)])
        for degree in (-1, 13, True, False, None, "2", (2,)):
            self.assertRaises(BadInteger, monomials, (0, 2, "lex"), degree)

    def test_common_multiples_and_quotients(self):
        for many in (1, 2, 3):
            ring = (7, many, "deglex")
            for one in small(many):
                for other in small(many):
                    common = monomial_lcm(ring, one, other)
                    self.assertEqual(common, tuple(max(a, b) for a, b in zip(one, other)))
                    told = tuple(a - b for a, b in zip(one, other)) if divides(other, one) else None
                    self.assertEqual(monomial_quotient(ring, one, other), told)
        self.assertEqual(monomial_lcm((0, 2, "lex"), (60, 0), (0, 60)), (60, 60))


if __name__ == "__main__":
    unittest.main()
