"""Point 16: resultants, common multiples and common divisors."""
import random
import unittest
from fractions import Fraction

from idealcore.bases import basis
from idealcore.division import divide
from idealcore.errors import BadPolynomial, BadRing, BadVariable, TooMany
from idealcore.membership import normal_form
from idealcore.polys import degree, evaluate, plus, power, scaled, times
from idealcore.resultants import common_divisor, common_multiple, resultant
from idealcore.texts import write
from tests import oracle
from tests.lots import of_texts, rings
from tests.oracle import from_dict, random_polynomial, to_dict


def exponents_at(p, place):
    return max([monomial[place] for _, monomial in p], default=0)


def coefficient(ring, p, place, exponent):
    """The coefficient of a power of a variable, as a dict."""
    found = {}
    for monomial, number in to_dict(ring[0], p).items():
        if monomial[place] == exponent:
            found[monomial[:place] + (0,) + monomial[place + 1:]] = number
    return found


def rows_of(ring, p, q, place):
    """The rows of the document."""
    m, n = exponents_at(p, place), exponents_at(q, place)
    rows = []
    for r, top, many in ((p, m, n), (q, n, m)):
        for shift in range(many):
            row = [{} for _ in range(m + n)]
            for k in range(top + 1):
                row[shift + k] = coefficient(ring, r, place, top - k)
            rows.append(row)
    return rows


def determinant(field, rows):
    """By the first row."""
    if not rows:
        return None
    if len(rows) == 1:
        return rows[0][0]
    total = {}
    for k, entry in enumerate(rows[0]):
        if entry:
            minor = determinant(field, [row[:k] + row[k + 1:] for row in rows[1:]])
            total = oracle.add(field, total, oracle.mul(field, entry, minor), (-1) ** k)
    return total


def plain_resultant(ring, p, q, place):
    if not p or not q:
        return ()
    rows = rows_of(ring, p, q, place)
    if not rows:
        return of_texts(ring, "1")[0]
    return from_dict(ring, determinant(ring[0], rows))


def numeric_determinant(field, rows):
    """The determinant of rows of numbers, by elimination."""
    rows = [list(row) for row in rows]
    value = 1
    for k in range(len(rows)):
        chosen = next((i for i in range(k, len(rows)) if rows[i][k]), None)
        if chosen is None:
            return 0
        if chosen != k:
            rows[k], rows[chosen] = rows[chosen], rows[k]
            value = -value
        value = value * rows[k][k]
        inverse = oracle.inverse(field, rows[k][k])
        for i in range(k + 1, len(rows)):
            factor = rows[i][k] * inverse
            rows[i] = [a - factor * b for a, b in zip(rows[i], rows[k])]
            if field:
                rows[i] = [a % field for a in rows[i]]
    return value % field if field else value


def value_of(field, table, point):
    total = Fraction(0) if field == 0 else 0
    for monomial, number in table.items():
        for a, exponent in zip(point, monomial):
            number = number * a ** exponent
        total += number
    return total % field if field else total


class Resultants(unittest.TestCase):

    def test_against_the_rows(self):
        for ring in rings():
            rng = random.Random(repr(ring))
            for _ in range(4):
                p, q = random_polynomial(rng, ring, 3, 4), random_polynomial(rng, ring, 3, 4)
                for place in range(ring[1]):
                    if exponents_at(p, place) + exponents_at(q, place) <= 6:
                        self.assertEqual(resultant(ring, p, q, place), plain_resultant(ring, p, q, place))

    def test_ten_rows(self):
        for field in (0, 3, 31):
            for many in (1, 2, 3):
                ring = (field, many, "degrevlex")
                rng = random.Random(repr(ring))
                for m, n in ((5, 5), (10, 0), (0, 10), (1, 9), (7, 3), (2, 8)):
                    place = rng.randrange(many)
                    name = "xyz"[place]
                    p = plus(ring, random_polynomial(rng, ring, m, 5), of_texts(ring, f"2*{name}^{m}")[0])
                    q = plus(ring, random_polynomial(rng, ring, n, 5), of_texts(ring, f"5*{name}^{n}")[0])
                    found = resultant(ring, p, q, place)
                    rows = rows_of(ring, p, q, place)
                    for _ in range(3):
                        point = [rng.randrange(field) if field else Fraction(rng.randint(-3, 3)) for _ in range(many)]
                        numbers = [[value_of(field, entry, point) for entry in row] for row in rows]
                        expected = numeric_determinant(field, numbers) if numbers else 1
                        self.assertEqual(value_of(field, to_dict(field, found), point), expected)

    def test_known(self):
        ring = (0, 2, "lex")
        p, q = of_texts(ring, "x^2+y^2-1", "x-y")
        self.assertEqual(resultant(ring, p, q, 0), of_texts(ring, "2*y^2-1")[0])
        self.assertEqual(resultant(ring, q, p, 0), of_texts(ring, "2*y^2-1")[0])
        self.assertEqual(resultant(ring, q, of_texts(ring, "x")[0], 0), of_texts(ring, "y")[0])
        self.assertEqual(resultant(ring, of_texts(ring, "x")[0], q, 0), of_texts(ring, "-y")[0])
        line = (0, 1, "lex")
        self.assertEqual(resultant(line, *of_texts(line, "x^2-2", "x^2-3"), 0), of_texts(line, "1")[0])
        self.assertEqual(resultant(line, *of_texts(line, "1/2*x^2-1", "1/3*x-1"), 0), of_texts(line, "7/18")[0])
        ring = (0, 4, "degrevlex")
        self.assertEqual(resultant(ring, *of_texts(ring, "x*w^2+y*w+z", "2*x*w+y"), 3),
                         of_texts(ring, "4*x^2*z-x*y^2")[0])

    def test_without_the_variable(self):
        ring = (5, 2, "lex")
        p, q, two, three = of_texts(ring, "x^3+y", "y^2+1", "2", "3")
        self.assertEqual(resultant(ring, p, q, 0), power(ring, q, 3))
        self.assertEqual(resultant(ring, q, p, 0), power(ring, q, 3))
        self.assertEqual(resultant(ring, q, q, 0), of_texts(ring, "1")[0])
        self.assertEqual(resultant(ring, two, three, 1), of_texts(ring, "1")[0])
        self.assertEqual(resultant(ring, p, two, 0), of_texts(ring, "3")[0])
        self.assertEqual(resultant(ring, two, p, 1), of_texts(ring, "2")[0])

    def test_zero(self):
        ring = (5, 2, "lex")
        p = of_texts(ring, "x^11")[0]
        for place in (0, 1):
            self.assertEqual(resultant(ring, (), (), place), ())
            self.assertEqual(resultant(ring, p, (), place), ())
            self.assertEqual(resultant(ring, (), p, place), ())

    def test_common_factors_make_it_zero(self):
        for ring in rings(3, (0, 2, 7), least=2):
            rng = random.Random(repr(ring))
            common, p, q = [random_polynomial(rng, ring, 2, 3) for _ in range(3)]
            p, q = times(ring, p, common), times(ring, q, common)
            for place in range(ring[1]):
                if exponents_at(common, place) and exponents_at(p, place) + exponents_at(q, place) <= 10:
                    self.assertEqual(resultant(ring, p, q, place), ())

    def test_it_is_in_the_ideal(self):
        for ring in rings(3, (0, 5)):
            rng = random.Random(repr(ring))
            p, q = random_polynomial(rng, ring, 2, 3), random_polynomial(rng, ring, 2, 3)
            for place in range(ring[1]):
                if exponents_at(p, place) + exponents_at(q, place):
                    found = resultant(ring, p, q, place)
                    self.assertEqual(normal_form(ring, (p, q), found), ())
                    self.assertEqual(exponents_at(found, place), 0)

    def test_too_many(self):
        ring = (5, 2, "lex")
        six, five, ten, eleven, one, y = of_texts(ring, "x^6+y", "x^5-y^20", "x^10", "x^11", "x", "y")
        resultant(ring, five, five, 0)
        resultant(ring, ten, y, 0)
        resultant(ring, y, ten, 0)
        resultant(ring, eleven, eleven, 1)
        for p, q in ((six, five), (five, six), (ten, one), (one, ten), (eleven, y), (y, eleven), (eleven, eleven)):
            with self.assertRaises(TooMany) as caught:
                resultant(ring, p, q, 0)
            self.assertEqual(caught.exception.most, 10)
        for place in (2, -1, True, None, "0"):
            self.assertRaises(BadVariable, resultant, ring, eleven, eleven, place)
            self.assertRaises(BadVariable, resultant, ring, (), eleven, place)
        self.assertRaises(BadPolynomial, resultant, ring, eleven, [eleven], None)
        self.assertRaises(BadPolynomial, resultant, ring, None, eleven, None)
        self.assertRaises(BadRing, resultant, (5, 2), None, None, None)


class Common(unittest.TestCase):

    def check(self, ring, p, q):
        """The divisor and the multiple, held against each other and against the ideals of both."""
        divisor, multiple = common_divisor(ring, p, q), common_multiple(ring, p, q)
        one = of_texts(ring, "1")[0][0][0]
        self.assertEqual((divisor[0][0], multiple[0][0]), (one, one))
        product = times(ring, p, q)
        number = product[0][0]
        self.assertEqual(scaled(ring, times(ring, divisor, multiple), number), product)
        cofactors = []
        for r in (p, q):
            (cofactor,), rest = divide(ring, r, (divisor,))
            self.assertEqual(rest, ())
            self.assertEqual(divide(ring, multiple, (r,))[1], ())
            cofactors.append(cofactor)
        return divisor, cofactors

    def test_planted_factors(self):
        for ring in rings(4, (0, 2, 7)):
            rng = random.Random(repr(ring))
            for _ in range(3):
                common, p, q = [random_polynomial(rng, ring, 2, 3) for _ in range(3)]
                if common and p and q:
                    divisor, cofactors = self.check(ring, times(ring, p, common), times(ring, q, common))
                    self.assertEqual(divide(ring, divisor, (common,))[1], ())
                    again, _ = self.check(ring, cofactors[0], cofactors[1])
                    self.assertEqual(degree(ring, again), 0)
                    other = common_divisor(ring, p, q)
                    self.assertEqual(degree(ring, divisor), degree(ring, common) + degree(ring, other))

    def test_one_variable(self):
        ring = (0, 1, "lex")
        p, q = of_texts(ring, "2*x^3-2*x", "3*x^2-6*x+3")
        self.assertEqual(common_divisor(ring, p, q), of_texts(ring, "x-1")[0])
        self.assertEqual(common_multiple(ring, p, q), of_texts(ring, "x^4-x^3-x^2+x")[0])
        for field in (0, 2, 5):
            ring = (field, 1, "lex")
            rng = random.Random(field)
            for _ in range(20):
                p, q = random_polynomial(rng, ring, 5, 4), random_polynomial(rng, ring, 5, 4)
                if p or q:
                    self.assertEqual((common_divisor(ring, p, q),), basis(ring, (p, q)))

    def test_greater_ones(self):
        for field in (0, 31):
            ring = (field, 3, "lex")
            p, q = of_texts(ring, "x^2*y-z+3", "x*y*z-7")
            common = power(ring, of_texts(ring, "x*y+z^2-2*y+1")[0], 3)
            divisor, _ = self.check(ring, times(ring, p, common), times(ring, q, common))
            self.assertEqual(divisor, common)
            divisor, _ = self.check(ring, power(ring, p, 3), times(ring, power(ring, p, 2), q))
            self.assertEqual(divisor, power(ring, p, 2))
        ring = (2, 2, "degrevlex")
        p = of_texts(ring, "x^60")[0]
        self.assertEqual(common_divisor(ring, p, of_texts(ring, "x^30*y^30")[0]), of_texts(ring, "x^30")[0])
        self.assertEqual(common_multiple(ring, p, of_texts(ring, "y")[0]), ((1, (60, 1)),))

    def test_leading_numbers(self):
        ring = (0, 2, "lex")
        p, q = of_texts(ring, "2/3*x^2-2/3*y^2", "-5*x-5*y")
        self.assertEqual(write(ring, common_divisor(ring, p, q)), "x+y")
        self.assertEqual(write(ring, common_multiple(ring, p, q)), "x^2-y^2")
        ring = (0, 2, ("weights", (1, 3)))
        p, q = of_texts(ring, "2*y+x^2", "x*y+1/2*x^3")
        self.assertEqual(write(ring, common_divisor(ring, p, q)), "y+1/2*x^2")

    def test_zero_and_numbers(self):
        for ring in ((0, 2, "lex"), (7, 2, "degrevlex")):
            one, three, p, monic = of_texts(ring, "1", "3", "3*x*y-3", "x*y-1")
            self.assertEqual(common_divisor(ring, (), ()), ())
            self.assertEqual(common_multiple(ring, (), ()), ())
            self.assertEqual(common_divisor(ring, p, ()), monic)
            self.assertEqual(common_divisor(ring, (), p), monic)
            self.assertEqual(common_multiple(ring, p, ()), ())
            self.assertEqual(common_multiple(ring, (), p), ())
            self.assertEqual(common_divisor(ring, three, ()), one)
            self.assertEqual(common_divisor(ring, three, p), one)
            self.assertEqual(common_divisor(ring, p, three), one)
            self.assertEqual(common_multiple(ring, three, p), monic)
            self.assertEqual(common_multiple(ring, p, three), monic)
            self.assertEqual(common_divisor(ring, three, three), one)
            self.assertEqual(common_multiple(ring, three, one), one)
            self.assertEqual(common_divisor(ring, p, p), monic)
            self.assertEqual(common_multiple(ring, p, p), monic)

    def test_monomials(self):
        for ring in rings(4, (0, 2)):
            rng = random.Random(repr(ring))
            m, k = [tuple(rng.randint(0, 9) for _ in range(ring[1])) for _ in range(2)]
            number, one = (3 % ring[0], 1) if ring[0] else ((3, 2), (1, 1))
            p, q = ((number, m),), ((number, k),)
            self.assertEqual(common_divisor(ring, p, q), ((one, tuple(min(a, b) for a, b in zip(m, k))),))
            self.assertEqual(common_multiple(ring, p, q), ((one, tuple(max(a, b) for a, b in zip(m, k))),))

    def test_values_at_points(self):
        ring = (0, 2, "lex")
        p, q = of_texts(ring, "x^2-y^2", "x^2+2*x*y+y^2")
        point = ((3, 1), (5, 2))
        self.assertEqual(evaluate(ring, common_divisor(ring, p, q), point), (11, 2))

    def test_which_error_comes_first(self):
        ring = (5, 2, "lex")
        x = of_texts(ring, "x")[0]
        for function in (common_multiple, common_divisor):
            self.assertRaises(BadRing, function, (5, 2), None, None)
            for wrong in (None, [x], (x,), 1, True, "x", {}, ((0, (1, 0)),), ((1, (61, 0)),), x + x):
                self.assertRaises(BadPolynomial, function, ring, wrong, x)
                self.assertRaises(BadPolynomial, function, ring, x, wrong)
                self.assertRaises(BadPolynomial, function, ring, wrong, ())


if __name__ == "__main__":
    unittest.main()
