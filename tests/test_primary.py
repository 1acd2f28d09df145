"""Point 40: primary parts over prime fields."""
import random
import unittest
from itertools import product

from idealcore.bases import basis
from idealcore.errors import BadPolynomials, BadRing, NotFinite, NotPrime, TooMany
from idealcore.ideals import ideal_sum, in_radical, meet
from idealcore.membership import normal_form
from idealcore.points import points_ideal
from idealcore.polys import minus, power, times
from idealcore.primary import idempotents, part_count, primary_ideals
from idealcore.zeros import least_polynomial, quotient_basis
from tests.lots import finite_lot, of_texts
from tests.oracle import orders_of, random_polynomial

ALL = (primary_ideals, part_count, idempotents)


def one_of(ring):
    return ((1, (0,) * ring[1]),)


def some_rings():
    return [(field, many, order) for field, many in ((2, 1), (2, 3), (3, 2), (5, 2), (7, 1), (2, 4), (31, 2))
            for order in orders_of(many)]


def is_irreducible(prime, numbers):
    """Whether a polynomial in one variable, told by its numbers from the power 0 on, has no factor of less degree."""
    top = len(numbers) - 1
    for degree in range(1, top // 2 + 1):
        for ahead in product(range(prime), repeat=degree):
            factor = list(ahead) + [1]
            left = list(numbers)
            for k in range(top - degree, -1, -1):
                lead = left[k + degree]
                for j, n in enumerate(factor):
                    left[k + j] = (left[k + j] - lead * n) % prime
            if not any(left):
                return False
    return True


def is_power_of_irreducible(prime, numbers):
    """Whether a polynomial in one variable with the leading number 1 is a power of one that is irreducible."""
    top = len(numbers) - 1
    for degree in range(1, top + 1):
        if top % degree:
            continue
        for ahead in product(range(prime), repeat=degree):
            factor = list(ahead) + [1]
            total = [1]
            for _ in range(top // degree):
                wider = [0] * (len(total) + degree)
                for i, a in enumerate(total):
                    for j, b in enumerate(factor):
                        wider[i + j] = (wider[i + j] + a * b) % prime
                total = wider
            if total == list(numbers) and is_irreducible(prime, factor):
                return True
    return False


class Parts(unittest.TestCase):

    def check(self, ring, polys):
        found = primary_ideals(ring, polys)
        self.assertIsInstance(found, list)
        self.assertEqual(found, sorted(found))
        self.assertEqual(part_count(ring, polys), len(found))
        common = (one_of(ring),)
        for part in found:
            self.assertIsInstance(part, tuple)
            self.assertNotEqual(part, (one_of(ring),))
            if max(len(common), len(part)) <= 12:
                self.assertEqual(basis(ring, part), part)
                common = meet(ring, common, part)
        if len(common) <= 12:
            self.assertEqual(common, basis(ring, polys))
        for k, part in enumerate(found):
            for other in found[:k]:
                self.assertEqual(ideal_sum(ring, part, other), (one_of(ring),))
        return found

    def check_idempotents(self, ring, polys, parts):
        found = idempotents(ring, polys)
        self.assertIsInstance(found, list)
        self.assertEqual(len(found), len(parts))
        for k, p in enumerate(found):
            self.assertEqual(normal_form(ring, polys, p), p)
            for j, part in enumerate(parts):
                self.assertEqual(normal_form(ring, part, p), one_of(ring) if j == k else ())

    def test_meets_sums_and_idempotents(self):
        for ring in some_rings():
            rng = random.Random(repr(ring))
            for _ in range(3):
                polys = finite_lot(rng, ring, 3 if ring[1] < 4 else 2)
                self.check_idempotents(ring, polys, self.check(ring, polys))

    def test_each_part_is_primary(self):
        for ring in ((2, 1, "lex"), (2, 2, "lex"), (3, 2, "deglex"), (2, 3, "degrevlex")):
            rng = random.Random(repr(ring) + "primary")
            for _ in range(3):
                for part in primary_ideals(ring, finite_lot(rng, ring, 3)):
                    for _ in range(4):
                        p = random_polynomial(rng, ring, 2, 3)
                        numbers = least_polynomial(ring, part, p)
                        # Such a quotient ring is local: the least polynomials are powers of irreducible ones.
                        if len(numbers) <= 7:
                            self.assertTrue(is_power_of_irreducible(ring[0], numbers))
                        nothing = in_radical(ring, part, p)
                        whole = ideal_sum(ring, part, (p,)) == (one_of(ring),)
                        self.assertNotEqual(nothing is not None, whole)

    def test_the_number_by_the_words(self):
        for ring in ((2, 2, "lex"), (3, 2, "degrevlex"), (2, 3, "deglex")):
            rng = random.Random(repr(ring) + "count")
            for _ in range(4):
                polys = finite_lot(rng, ring, 2)
                monomials = quotient_basis(ring, polys)
                count = 0
                for numbers in product(range(ring[0]), repeat=len(monomials)):
                    f = tuple((n, m) for n, m in zip(numbers[::-1], monomials[::-1]) if n)
                    count += normal_form(ring, polys, minus(ring, power(ring, f, ring[0]), f)) == ()
                self.assertEqual(count, ring[0] ** part_count(ring, polys))

    def test_planted_points(self):
        for ring in ((2, 4, "lex"), (5, 2, "degrevlex"), (31, 3, "lex"), (7, 2, ("weights", (3, 1)))):
            rng = random.Random(repr(ring) + "points")
            points = tuple({tuple(rng.randrange(ring[0]) for _ in range(ring[1])) for _ in range(9)})
            polys = points_ideal(ring, points)
            if len(polys) > 12:
                continue
            expected = sorted(points_ideal(ring, (point,)) for point in points)
            self.assertEqual(primary_ideals(ring, polys), expected)
            self.assertEqual(part_count(ring, polys), len(points))

    def test_planted_powers(self):
        ring = (5, 2, "lex")
        planted = [of_texts(ring, "x^2", "x*y", "y^3"), of_texts(ring, "x-1", "y^2+2"), of_texts(ring, "x^2-2*x*y", "y^2"),
                   of_texts(ring, "x-2", "y^2-2*y+1"), of_texts(ring, "x^2+2", "y-x")]
        for lot in ([0, 1, 3], [1, 4], [0, 3, 4], [2], [1, 2, 3, 4]):
            common = (one_of(ring),)
            for k in lot:
                common = meet(ring, common, planted[k])
            self.assertEqual(primary_ideals(ring, common), sorted(basis(ring, planted[k]) for k in lot))
            self.check_idempotents(ring, common, primary_ideals(ring, common))

    def test_one_variable(self):
        for prime, text, count in ((2, "x^4+x", 3), (2, "x^8+x", 4), (3, "x^9-x", 6), (31, "x^31-x", 31),
                                   (7, "x^6-1", 6), (5, "x^4+2", 1), (5, "x^5-x+1", 1), (2, "x^60", 1),
                                   (2, "x^32+x", 8), (31, "x^30-1", 30), (3, "x^6+2*x^3+1", 1)):
            for order in ("lex", "degrevlex"):
                ring = (prime, 1, order)
                polys = of_texts(ring, text)
                self.assertEqual(part_count(ring, polys), count)
                self.assertEqual(len(self.check(ring, polys)), count)

    def test_the_ideal_of_one(self):
        for ring in some_rings():
            for polys in (of_texts(ring, "1"), of_texts(ring, "x", "x+1", "0")):
                self.assertEqual(primary_ideals(ring, polys), [])
                self.assertEqual(part_count(ring, polys), 0)
                self.assertEqual(idempotents(ring, polys), [])

    def test_one_part(self):
        ring = (3, 2, "lex")
        for texts in (("x", "y"), ("x^2", "y^2"), ("x^2+1", "y"), ("x^2+y", "y^2+1"), ("x^3", "x*y", "y^4")):
            polys = of_texts(ring, *texts)
            if part_count(ring, polys) == 1:
                self.assertEqual(primary_ideals(ring, polys), [basis(ring, polys)])
                self.assertEqual(idempotents(ring, polys), [one_of(ring)])
        self.assertEqual(part_count(ring, of_texts(ring, "x^2+1", "y^2+1")), 2)
        self.assertEqual(part_count(ring, of_texts(ring, "x^2+1", "y^2-y-1")), 2)

    def test_sorted_as_tuples(self):
        ring = (5, 1, "lex")
        polys = of_texts(ring, "x^3-x")
        # Not by the size of the ideals or the order of the points: the numbers come first in a tuple.
        self.assertEqual(primary_ideals(ring, polys), [(((1, (1,)),),), (((1, (1,)), (1, (0,))),),
                                                       (((1, (1,)), (4, (0,))),)])
        self.assertEqual([normal_form(ring, part, p) for part, p in
                          zip(primary_ideals(ring, polys), idempotents(ring, polys))], [one_of(ring)] * 3)

    def test_sixty(self):
        ring = (31, 2, "deglex")
        x, y = of_texts(ring, "x", "y")
        polys = [one_of(ring), one_of(ring)]
        for k in range(10):
            polys[0] = times(ring, polys[0], minus(ring, x, ((k, (0, 0)),) if k else ()))
        for k in range(6):
            polys[1] = times(ring, polys[1], minus(ring, y, ((5 * k, (0, 0)),) if k else ()))
        self.assertEqual(part_count(ring, tuple(polys)), 60)
        found = primary_ideals(ring, tuple(polys))
        self.assertEqual(found, sorted(points_ideal(ring, ((a, 5 * b),)) for a in range(10) for b in range(6)))
        self.assertEqual(len(idempotents(ring, tuple(polys))), 60)
        for function in ALL:
            with self.assertRaises(TooMany) as caught:
                function(ring, of_texts(ring, "x^10", "x*y^6", "y^7"))
            self.assertEqual(caught.exception.most, 60)


class Errors(unittest.TestCase):

    def test_the_order_of_errors(self):
        ring = (0, 2, "lex")
        x, y, far = of_texts(ring, "x", "y", "x^60")
        for function in ALL:
            for polys in ((x, y), (x,), (), (far, of_texts(ring, "y^60")[0])):
                self.assertRaises(NotPrime, function, ring, polys)
            self.assertRaises(BadPolynomials, function, ring, (x, None))
            self.assertRaises(BadPolynomials, function, ring, (x,) * 13)
            self.assertRaises(BadPolynomials, function, ring, [x])
            self.assertRaises(BadRing, function, (0, 2), (x, None))
            self.assertRaises(BadRing, function, (9, 2, "lex"), ())
        ring = (5, 2, "lex")
        x, far = of_texts(ring, "x", "x^60")
        for function in ALL:
            for polys in ((), ((),), (x,), (far,), of_texts(ring, "x*y", "x^9")):
                self.assertRaises(NotFinite, function, ring, polys)
            self.assertRaises(TooMany, function, ring, (far, of_texts(ring, "y^60")[0]))
            self.assertRaises(BadPolynomials, function, ring, (x, 7))


if __name__ == "__main__":
    unittest.main()
