"""Point 33: finite quotient rings."""
import random
import unittest
from fractions import Fraction

from idealcore.bases import leading_monomials, standard_monomials
from idealcore.errors import BadPolynomial, BadPolynomials, BadRing, NotFinite, TooMany
from idealcore.membership import normal_form
from idealcore.polys import minus, plus, times
from idealcore.zeros import is_finite, least_polynomial, quotient_basis, times_matrix
from tests.lots import finite_lot, lot, of_texts, rings
from tests.oracle import divides, from_number, random_polynomial, rank, to_number


def powers_and_more(rng, ring, most=3):
    """Generators of an ideal with a finite quotient ring, at times more than there are variables."""
    polys = list(finite_lot(rng, ring, most))
    if rng.random() < 0.5:
        polys.append(random_polynomial(rng, ring, 3, 3))
    rng.shuffle(polys)
    return tuple(polys)


def finite_lots(most=3, fields=(0, 2, 5), top=3):
    for ring in rings(most, fields):
        yield ring, powers_and_more(random.Random(repr(ring)), ring, top)


def numbers_in(field, p, monomials):
    """The numbers with which monomials stand in a polynomial that has no others."""
    table = {monomial: number for number, monomial in p}
    assert set(table) <= set(monomials)
    return tuple(table.get(m, (0, 1) if field == 0 else 0) for m in monomials)


def matrix_product(field, one, other):
    size = len(one)
    rows = []
    for row in one:
        numbers = [to_number(field, n) for n in row]
        rows.append(tuple(sum((numbers[j] * to_number(field, other[j][k]) for j in range(size)), Fraction(0))
                          for k in range(size)))
    return tuple(tuple(from_number(field, n if field == 0 else int(n)) for n in row) for row in rows)


def matrix_sum(field, one, other):
    return tuple(tuple(from_number(field, to_number(field, a) + to_number(field, b)) for a, b in zip(r, s))
                 for r, s in zip(one, other))


def put_in(ring, polys, numbers, p):
    """The normal form of the polynomial in one variable that is told by numbers, p being put in."""
    one = (1, 1) if ring[0] == 0 else 1
    total, power = (), ((one, (0,) * ring[1]),)
    for number in numbers:
        if number not in (0, (0, 1)):
            total = plus(ring, total, times(ring, ((number, (0,) * ring[1]),), power))
        power = normal_form(ring, polys, times(ring, power, p))
    return normal_form(ring, polys, total)


class Finite(unittest.TestCase):

    def test_against_leading_monomials(self):
        told = {True: 0, False: 0}
        for ring in rings(4, (0, 2, 7)):
            rng = random.Random(repr(ring) + "finite")
            for polys in (lot(rng, ring), powers_and_more(rng, ring, 2)):
                heads = leading_monomials(ring, polys)
                finite = all(any(sum(m) == m[k] for m in heads) for k in range(ring[1]))
                self.assertIs(is_finite(ring, polys), finite)
                told[finite] += 1
                for function in (quotient_basis, lambda r, q: times_matrix(r, q, ()),
                                 lambda r, q: least_polynomial(r, q, ())):
                    if not finite:
                        self.assertRaises(NotFinite, function, ring, polys)
        self.assertTrue(all(number > 20 for number in told.values()))

    def test_known(self):
        ring = (0, 2, "lex")
        x, y, one = of_texts(ring, "x", "y", "2")
        self.assertIs(is_finite(ring, ()), False)
        self.assertIs(is_finite(ring, ((),)), False)
        self.assertIs(is_finite(ring, (x,)), False)
        self.assertIs(is_finite(ring, (x, y)), True)
        self.assertIs(is_finite(ring, (one,)), True)
        self.assertIs(is_finite(ring, of_texts(ring, "x^2-y^3", "x*y-1")), True)
        self.assertIs(is_finite(ring, of_texts(ring, "x^2-y", "x*y-x^3")), False)


class StandardMonomials(unittest.TestCase):

    def test_against_standard_monomials(self):
        for ring, polys in finite_lots(4, top=2):
            found = quotient_basis(ring, polys)
            self.assertIsInstance(found, tuple)
            self.assertEqual([m for m in found if sum(m) <= 12], standard_monomials(ring, polys, 12))
            heads = leading_monomials(ring, polys)
            self.assertFalse(any(divides(head, m) for m in found for head in heads))
            for m in [m for m in found if sum(m) == max(map(sum, found))]:
                for k in range(ring[1]):
                    wider = m[:k] + (m[k] + 1,) + m[k + 1:]
                    self.assertTrue(any(divides(head, wider) for head in heads))

    def test_the_ideal_of_one(self):
        for ring in rings(4, (0, 3)):
            one, x = of_texts(ring, "1", "x")
            self.assertEqual(quotient_basis(ring, (one,)), ())
            self.assertEqual(quotient_basis(ring, (x, minus(ring, x, one))), ())
            self.assertEqual(times_matrix(ring, (one,), x), ())
            self.assertEqual(least_polynomial(ring, (one,), x), ((1, 1),) if ring[0] == 0 else (1,))

    def test_sixty_and_sixty_one(self):
        for field in (0, 2, 31):
            for order in ("lex", "deglex", "degrevlex", ("weights", (3, 20))):
                ring = (field, 2, order)
                polys = of_texts(ring, "x^10", "y^6")
                self.assertEqual(len(quotient_basis(ring, polys)), 60)
                self.assertEqual(len(times_matrix(ring, polys, ())), 60)
                least_polynomial(ring, polys, polys[0])
                for more in (of_texts(ring, "x^10", "x*y^6", "y^7"), of_texts(ring, "x^60", "y^60"),
                             of_texts(ring, "x^40-y", "y^40-x")):
                    for function in (quotient_basis, lambda r, q: times_matrix(r, q, ()),
                                     lambda r, q: least_polynomial(r, q, ())):
                        with self.assertRaises(TooMany) as caught:
                            function(ring, more)
                        self.assertEqual(caught.exception.most, 60)
                    self.assertIs(is_finite(ring, more), True)
        ring = (5, 1, "lex")
        self.assertEqual(len(quotient_basis(ring, of_texts(ring, "x^60"))), 60)


class Matrices(unittest.TestCase):

    def test_against_normal_forms(self):
        for ring, polys in finite_lots():
            monomials = quotient_basis(ring, polys)
            one = (1, 1) if ring[0] == 0 else 1
            for p in (random_polynomial(random.Random(1), ring, 4, 4), ()):
                found = times_matrix(ring, polys, p)
                self.assertIsInstance(found, tuple)
                expected = [numbers_in(ring[0], normal_form(ring, polys, times(ring, p, ((one, m),))), monomials)
                            for m in monomials]
                self.assertEqual(found, tuple(expected))

    def test_sums_and_products(self):
        for ring, polys in finite_lots():
            rng = random.Random(2)
            p, q = random_polynomial(rng, ring, 3, 4), random_polynomial(rng, ring, 3, 4)
            one, other = times_matrix(ring, polys, p), times_matrix(ring, polys, q)
            product = matrix_product(ring[0], one, other)
            self.assertEqual(product, matrix_product(ring[0], other, one))
            self.assertEqual(product, times_matrix(ring, polys, times(ring, p, q)))
            self.assertEqual(matrix_sum(ring[0], one, other), times_matrix(ring, polys, plus(ring, p, q)))

    def test_one_and_zero(self):
        for ring, polys in finite_lots(2, (0, 5)):
            size = len(quotient_basis(ring, polys))
            zero, one = ((0, 1), (1, 1)) if ring[0] == 0 else (0, 1)
            unit = ((one, (0,) * ring[1]),)
            self.assertEqual(times_matrix(ring, polys, unit),
                             tuple(tuple(one if j == k else zero for k in range(size)) for j in range(size)))
            self.assertEqual(times_matrix(ring, polys, ()), ((zero,) * size,) * size)

    def test_great_exponents(self):
        ring = (31, 2, "lex")
        polys = of_texts(ring, "x^3-y-1", "y^4+x*y+2")
        for text in ("x^60", "y^60", "x^30*y^30", "x^59*y+y^59*x+3"):
            p, = of_texts(ring, text)
            monomials = quotient_basis(ring, polys)
            form = normal_form(ring, polys, p)
            self.assertEqual(times_matrix(ring, polys, p)[0], numbers_in(31, form, monomials))


class LeastPolynomials(unittest.TestCase):

    def test_in_the_ideal_and_none_of_a_lower_degree(self):
        for ring, polys in finite_lots(3, (0, 2, 5), 2):
            field = ring[0]
            p = random_polynomial(random.Random(3), ring, 2, 3)
            found = least_polynomial(ring, polys, p)
            self.assertIsInstance(found, tuple)
            self.assertEqual(found[-1], (1, 1) if field == 0 else 1)
            self.assertEqual(put_in(ring, polys, found, p), ())
            # The powers of p of a lower degree do not depend on one another: elimination leaves none of them.
            monomials = quotient_basis(ring, polys)
            rows = []
            for k in range(len(found) - 1):
                unit = tuple((1, 1) if field == 0 else 1 for _ in range(1))
                numbers = ((0, 1) if field == 0 else 0,) * k + unit
                rows.append([to_number(field, n) for n in
                             numbers_in(field, put_in(ring, polys, numbers, p), monomials)])
            self.assertEqual(rank(field, rows), len(rows))

    def test_known(self):
        ring = (0, 2, "degrevlex")
        polys = of_texts(ring, "x^2-2", "y^2-3")
        self.assertEqual(least_polynomial(ring, polys, of_texts(ring, "x+y")[0]),
                         ((1, 1), (0, 1), (-10, 1), (0, 1), (1, 1)))
        self.assertEqual(least_polynomial(ring, polys, of_texts(ring, "x")[0]), ((-2, 1), (0, 1), (1, 1)))
        self.assertEqual(least_polynomial(ring, polys, of_texts(ring, "1/2")[0]), ((-1, 2), (1, 1)))
        self.assertEqual(least_polynomial(ring, polys, ()), ((0, 1), (1, 1)))
        ring = (2, 1, "lex")
        self.assertEqual(least_polynomial(ring, of_texts(ring, "x^60"), of_texts(ring, "x")[0]), (0,) * 60 + (1,))

    def test_the_same_in_all_orders(self):
        for order in ("lex", "deglex", ("weights", (7, 2))):
            ring = (7, 2, order)
            polys = of_texts(ring, "x^3-y^2+1", "y^3-x*y-2")
            self.assertEqual(least_polynomial(ring, polys, of_texts(ring, "x-y^2")[0]),
                             least_polynomial((7, 2, "degrevlex"), of_texts((7, 2, "degrevlex"), "x^3-y^2+1",
                                                                           "y^3-x*y-2"),
                                              of_texts((7, 2, "degrevlex"), "-y^2+x")[0]))


class Errors(unittest.TestCase):

    def test_behind_the_errors_of_the_arguments(self):
        ring = (5, 2, "lex")
        x, long = of_texts(ring, "x", "x^60")
        y = of_texts(ring, "y^60")[0]
        for function in (times_matrix, least_polynomial):
            for polys in ((x,), (long, y), (x, y)):
                for p in (None, 7, [], "x", x + x, (((1, 1), (1, 0)),), True):
                    self.assertRaises(BadPolynomial, function, ring, polys, p)
            self.assertRaises(BadPolynomials, function, ring, (x, 7), None)
            self.assertRaises(BadRing, function, (5, 2), (x, 7), None)
            self.assertRaises(NotFinite, function, ring, (x,), x)
            self.assertRaises(NotFinite, function, ring, (long,), x)
            self.assertRaises(TooMany, function, ring, (long, y), x)
        for function in (is_finite, quotient_basis):
            self.assertRaises(BadPolynomials, function, ring, (x,) * 13)
            self.assertRaises(BadPolynomials, function, ring, (x, None))
            self.assertRaises(BadRing, function, None, (x, None))


if __name__ == "__main__":
    unittest.main()
