"""Point 8: division."""
import random
import unittest

from idealcore.division import divide
from idealcore.errors import BadPolynomial, BadPolynomials
from tests import oracle
from tests.oracle import orders_of, random_polynomial


class Division(unittest.TestCase):

    def test_by_the_steps(self):
        for field in (0, 2, 5, 31):
            for many in (1, 2, 3, 4):
                for order in orders_of(many):
                    ring = (field, many, order)
                    rng = random.Random(repr(ring))
                    for _ in range(6):
                        p = random_polynomial(rng, ring, 6, 8)
                        divisors = [random_polynomial(rng, ring, 3, 3) for _ in range(rng.randint(0, 4))]
                        if divisors and rng.random() < 0.5:
                            divisors[rng.randrange(len(divisors))] = ()
                        told = oracle.divide(ring, p, divisors)
                        self.assertEqual(divide(ring, p, tuple(divisors)), told)
                        one = (1, 1) if field == 0 else 1
                        back = oracle.products_sum(ring, told[0] + (told[1],), divisors + [(((one, (0,) * many)),)])
                        self.assertEqual(back, p)

    def test_the_first_divisor_is_taken(self):
        ring = (7, 2, "lex")
        x, y, xy = ((1, (1, 0)),), ((2, (0, 1)),), ((3, (1, 1)),)
        self.assertEqual(divide(ring, xy, (x, y)), ((((3, (0, 1)),), ()), ()))
        self.assertEqual(divide(ring, xy, (y, x)), ((((5, (1, 0)),), ()), ()))
        self.assertEqual(divide(ring, xy, ((), xy, x)), (((), ((1, (0, 0)),), ()), ()))

    def test_edges(self):
        ring = (7, 2, "lex")
        x = ((1, (1, 0)),)
        self.assertEqual(divide(ring, x, ()), ((), x))
        self.assertEqual(divide(ring, x, ((), ())), (((), ()), x))
        self.assertEqual(divide(ring, (), (x, ())), (((), ()), ()))
        self.assertEqual(divide(ring, x, (x,) * 40), ((((1, (0, 0)),),) + ((),) * 39, ()))
        self.assertEqual(divide(ring, x, (((3, (0, 0)),),)), ((((5, (1, 0)),),), ()))

    def test_results_that_cannot_be_passed(self):
        ring = (5, 2, "lex")
        cofactors, rest = divide(ring, ((1, (3, 0)),), (((1, (1, 0)), (4, (0, 60))),))
        self.assertEqual(rest, ((1, (0, 180)),))
        self.assertEqual(cofactors, (((1, (2, 0)), (1, (1, 60)), (1, (0, 120))),))

    def test_wrong_divisors(self):
        ring = (7, 2, "lex")
        x = ((1, (1, 0)),)
        for value, index in (((x,) * 41, None), ([x], None), (None, None), (3, None), ({}, None), ("x", None),
                             ((x, ((7, (1, 0)),)), 1), ((None, None), 0), ((x,) * 39 + ([],), 39),
                             ((None,) * 41, None)):
            with self.assertRaises(BadPolynomials) as caught:
                divide(ring, x, value)
            self.assertEqual(caught.exception.index, index)
        self.assertRaises(BadPolynomial, divide, ring, None, None)


if __name__ == "__main__":
    unittest.main()
