"""Point 2: numbers."""
import unittest
from fractions import Fraction
from math import gcd

from idealcore.errors import BadField, BadInteger, BadNumber, ZeroDivisor
from idealcore.numbers import number, number_inverse, number_product, number_sum

PRIMES = (2, 3, 5, 7, 11, 13, 17, 19, 23, 29, 31)
BOUND = 10 ** 200
SOME = [(0, 1), (1, 1), (-1, 1), (1, 2), (-3, 4), (7, 6), (BOUND - 1, 1), (1 - BOUND, 1), (1, BOUND - 1),
        (BOUND - 1, BOUND - 3)]


class Numbers(unittest.TestCase):

    def test_fields(self):
        for field in range(-3, 40):
            if field == 0 or field in PRIMES:
                number(field, 1, 1)
            else:
                for call in (lambda: number(field, 1, 1), lambda: number_sum(field, 1, 1),
                             lambda: number_product(field, 0, 0), lambda: number_inverse(field, 1)):
                    self.assertRaises(BadField, call)
        for field in (37, 10 ** 9 + 7, 2 ** 127 - 1):
            self.assertRaises(BadField, number, field, 1, 1)

    def test_number_of_fractions(self):
        for n in range(-12, 13):
            for d in range(-12, 13):
                if d == 0:
                    self.assertRaises(ZeroDivisor, number, 0, n, d)
                    continue
                a, b = number(0, n, d)
                self.assertEqual((Fraction(a, b), gcd(a, b), b > 0), (Fraction(n, d), 1, True))
        self.assertEqual(number(0, 0, -5), (0, 1))
        self.assertEqual(number(0, 6 * BOUND, -4 * BOUND), (-3, 2))
        self.assertEqual(number(0, BOUND ** 3, -7), (-BOUND ** 3, 7))

    def test_number_modulo_primes(self):
        for prime in PRIMES:
            for n in list(range(-40, 40)) + [10 ** 300 + 1, -10 ** 300 - 1]:
                for d in list(range(-34, 34)) + [10 ** 300 + 7, -10 ** 300 - 3]:
                    if d % prime == 0:
                        self.assertRaises(ZeroDivisor, number, prime, n, d)
                    else:
                        self.assertEqual(number(prime, n, d), n * pow(d, -1, prime) % prime)

    def test_order_of_errors(self):
        self.assertRaises(BadField, number, 4, "1", 0)
        self.assertRaises(BadInteger, number, 0, "1", 0)
        self.assertRaises(BadInteger, number, 0, 1, True)
        self.assertRaises(BadNumber, number_sum, 0, (2, 2), 1)

    def test_sums_products_and_inverses_of_fractions(self):
        for a in SOME:
            for b in SOME:
                total = Fraction(*a) + Fraction(*b)
                self.assertEqual(number_sum(0, a, b), (total.numerator, total.denominator))
                total = Fraction(*a) * Fraction(*b)
                self.assertEqual(number_product(0, a, b), (total.numerator, total.denominator))
            if a != (0, 1):
                self.assertEqual(number_inverse(0, a), ((1 if a[0] > 0 else -1) * a[1], abs(a[0])))
        self.assertRaises(ZeroDivisor, number_inverse, 0, (0, 1))

    def test_results_beyond_the_bound(self):
        big = number_product(0, (BOUND - 1, 1), (BOUND - 1, 1))
        self.assertEqual(big, ((BOUND - 1) ** 2, 1))
        self.assertRaises(BadNumber, number_sum, 0, big, (1, 1))
        self.assertEqual(number_sum(0, (BOUND - 1, 1), (1, 1)), (BOUND, 1))
        self.assertRaises(BadNumber, number_inverse, 0, (BOUND, 1))

    def test_numbers_that_are_none(self):
        for value in ((2, 2), (0, 2), (0, -1), (1, 0), (3, -2), (BOUND, 1), (-BOUND, 1), (1, BOUND), (4, 6),
                      (1, 1, 1), (1,), 1, [1, 1], (True, 1), (1, True)):
            for call in (lambda: number_sum(0, value, (1, 1)), lambda: number_sum(0, (1, 1), value),
                         lambda: number_product(0, value, (1, 1)), lambda: number_inverse(0, value)):
                self.assertRaises(BadNumber, call)

    def test_sums_products_and_inverses_modulo_primes(self):
        for prime in PRIMES:
            for a in range(prime):
                for b in range(prime):
                    self.assertEqual(number_sum(prime, a, b), (a + b) % prime)
                    self.assertEqual(number_product(prime, a, b), a * b % prime)
                if a:
                    self.assertEqual(number_inverse(prime, a), pow(a, -1, prime))
            self.assertRaises(ZeroDivisor, number_inverse, prime, 0)
            for value in (-1, prime, prime + 1, (1, 1), True, "1"):
                self.assertRaises(BadNumber, number_sum, prime, value, 0)
                self.assertRaises(BadNumber, number_product, prime, 0, value)
                self.assertRaises(BadNumber, number_inverse, prime, value)


if __name__ == "__main__":
    unittest.main()
