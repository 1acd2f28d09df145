"""Points 34 and 35: zeros in a prime field, and ideals of points."""
import random
import unittest
from fractions import Fraction
from itertools import product

from idealcore.bases import basis, is_basis, leading_monomials, standard_monomials
from idealcore.errors import BadNumbers, BadPoints, BadPolynomials, BadRing, NotPrime, TooMany
from idealcore.ideals import meet
from idealcore.membership import normal_form, same_ideal
from idealcore.points import field_basis, interpolated, no_zero, points_ideal, separators, shows_no_zero, zeros
from idealcore.polys import evaluate, minus
from idealcore.texts import read
from idealcore.zeros import quotient_basis
from tests.lots import ODD, lot, of_texts, rings
from tests.oracle import from_number, orders_of, products_sum, random_polynomial

OF_FIELD = (zeros, field_basis, no_zero, lambda ring, polys: shows_no_zero(ring, polys, None))


def small_rings(orders=True):
    found = []
    for field, many in ((2, 1), (2, 4), (3, 2), (3, 3), (5, 2), (5, 3), (7, 2), (31, 1), (13, 2)):
        for order in orders_of(many)[:None if orders else 1]:
            found.append((field, many, order))
    return found


def field_polys(ring):
    names = "xyzw"[:ring[1]]
    return tuple(read(ring, f"{name}^{ring[0]}-{name}") for name in names)


def one_of(ring):
    return (((1, 1) if ring[0] == 0 else 1, (0,) * ring[1]),)


def plain_zeros(ring, polys):
    field, many, _ = ring
    return tuple(a for a in product(range(field), repeat=many) if all(evaluate(ring, p, a) == 0 for p in polys))


def without_zeros(rng, ring):
    """Generators without zeros in the field."""
    while True:
        polys = lot(rng, ring, 4, 4, 5)
        if rng.random() < 0.3:
            place = rng.randrange(ring[1])
            x = read(ring, "xyzw"[place])
            polys += (x, minus(ring, x, one_of(ring)))
        if not plain_zeros(ring, polys):
            return polys


class Zeros(unittest.TestCase):

    def test_point_by_point(self):
        for ring in small_rings():
            rng = random.Random(repr(ring))
            for top in (2, 6):
                polys = lot(rng, ring, 2, top, 4)
                found = zeros(ring, polys)
                self.assertIsInstance(found, tuple)
                self.assertEqual(found, plain_zeros(ring, polys))

    def test_great_exponents(self):
        rng = random.Random(34)
        for ring in ((2, 2, "lex"), (3, 2, "lex"), (5, 2, "deglex"), (31, 1, "lex"), (7, 3, "lex")):
            polys = tuple(random_polynomial(rng, ring, 60, 6) for _ in range(2))
            for some in (polys, polys[:1]):
                self.assertEqual(zeros(ring, some), plain_zeros(ring, some))

    def test_known(self):
        ring = (3, 2, "lex")
        x, y, one = of_texts(ring, "x", "y", "1")
        self.assertEqual(zeros(ring, ()), tuple(product(range(3), repeat=2)))
        self.assertEqual(zeros(ring, ((),)), tuple(product(range(3), repeat=2)))
        self.assertEqual(zeros(ring, (x, y)), ((0, 0),))
        self.assertEqual(zeros(ring, (one,)), ())
        self.assertEqual(zeros(ring, of_texts(ring, "x^2+y^2")), ((0, 0),))
        self.assertEqual(zeros(ring, of_texts(ring, "x^3-x")), tuple(product(range(3), repeat=2)))

    def test_the_greatest_numbers_of_points(self):
        for ring, number in (((31, 2, "lex"), 961), ((5, 4, "degrevlex"), 625), ((7, 3, "lex"), 343),
                             ((31, 1, "lex"), 31), ((2, 4, "lex"), 16)):
            self.assertEqual(len(zeros(ring, ())), number)
        ring = (31, 2, "lex")
        self.assertEqual(zeros(ring, of_texts(ring, "x*y-1", "x-y")), ((1, 1), (30, 30)))


class FieldBases(unittest.TestCase):

    def test_against_bases(self):
        for ring in small_rings():
            rng = random.Random(repr(ring) + "basis")
            polys = lot(rng, ring, 2, 3, 3)
            found = field_basis(ring, polys)
            self.assertIsInstance(found, tuple)
            self.assertEqual(found, basis(ring, polys + field_polys(ring)))

    def test_as_many_standard_monomials_as_zeros(self):
        for ring in small_rings(False) + [(31, 2, "degrevlex"), (5, 4, "deglex"), (7, 3, "lex"), (23, 2, "lex")]:
            rng = random.Random(repr(ring) + "many")
            for count in (1, 2):
                polys = tuple(random_polynomial(rng, ring, 5, 8) for _ in range(count))
                told = zeros(ring, polys)
                found = field_basis(ring, polys)
                heads = [p[0][1] for p in found]
                standard = [m for m in product(range(ring[0]), repeat=ring[1])
                            if not any(all(a <= b for a, b in zip(head, m)) for head in heads)]
                self.assertEqual(len(standard), len(told))
                self.assertTrue(all(evaluate(ring, p, a) == 0 for p in found for a in told[:20]))

    def test_all_points_and_none(self):
        for ring in ((31, 2, "lex"), (5, 4, "degrevlex"), (2, 1, "lex"), (3, 3, ("block", 1))):
            self.assertEqual(field_basis(ring, ()), basis(ring, field_polys(ring)))
            self.assertEqual(field_basis(ring, (one_of(ring),)), (one_of(ring),))

    def test_many_zeros(self):
        ring = (31, 2, "degrevlex")
        polys = of_texts(ring, "x^15*y^15-x*y^15+y-x^29*y")
        self.assertEqual(field_basis(ring, polys), basis(ring, polys + field_polys(ring)))


class NoZero(unittest.TestCase):

    def check(self, ring, polys):
        found = no_zero(ring, polys)
        self.assertIsInstance(found, tuple)
        self.assertEqual(len(found), len(polys) + ring[1])
        self.assertEqual(products_sum(ring, found, polys + field_polys(ring)), one_of(ring))
        self.assertIs(shows_no_zero(ring, polys, found), True)

    def test_cofactors(self):
        for ring in small_rings():
            self.check(ring, without_zeros(random.Random(repr(ring) + "none"), ring))

    def test_few_terms_over_great_primes(self):
        # The cofactors have up to 500 terms, so that they can be passed again.
        for prime in (23, 29, 31):
            rng = random.Random(prime)
            checked = 0
            while checked < 3:
                polys = tuple(random_polynomial(rng, (prime, 2, "lex"), 2, 6) for _ in range(2))
                if not zeros((prime, 2, "lex"), polys):
                    self.check((prime, 2, "lex"), polys)
                    checked += 1

    def test_none_if_there_are_zeros(self):
        for ring in small_rings(False):
            rng = random.Random(repr(ring) + "some")
            for _ in range(6):
                polys = lot(rng, ring, 2, 3, 4)
                self.assertEqual(no_zero(ring, polys) is None, bool(plain_zeros(ring, polys)))
            self.assertIsNone(no_zero(ring, ()))
            self.assertIsNone(no_zero(ring, ((),)))

    def test_known(self):
        for ring in ((3, 2, "lex"), (31, 2, "degrevlex"), (5, 4, "lex"), (31, 1, "lex"), (7, 3, "lex")):
            self.check(ring, of_texts(ring, "1"))
            self.check(ring, of_texts(ring, "x", "0", "x-2"))
            self.check(ring, of_texts(ring, "x^2+2*x+2") if ring[0] in (3,) else of_texts(ring, "x^2-3"))
        for ring in ((2, 2, "lex"), (2, 4, "degrevlex")):
            self.check(ring, of_texts(ring, "x^2+x+1"))
            self.check(ring, of_texts(ring, "x*y+x+y", "x*y+1"))
        self.check((31, 2, "lex"), of_texts((31, 2, "lex"), "x^2+y^2-3", "x*y-x-1", "y^2-5"))

    def test_twelve_generators_and_great_exponents(self):
        for ring in ((5, 3, "lex"), (2, 4, "deglex"), (31, 1, "lex"), (7, 2, "lex")):
            rng = random.Random(repr(ring))
            for top in (3, 30):
                polys = tuple(random_polynomial(rng, ring, top, 6) for _ in range(12))
                if not plain_zeros(ring, polys):
                    self.check(ring, polys)

    def test_bent_and_other_values(self):
        ring = (3, 2, "lex")
        x, one = of_texts(ring, "x", "1")
        self.assertIs(shows_no_zero(ring, (one,), (one, (), ())), True)
        self.assertIs(shows_no_zero(ring, (x, minus(ring, x, one)), (one, ((2, (0, 0)),), (), ())), True)
        for value in ODD + [(one,), (one, ()), (one, (), (), ()), [one, (), ()], (x, (), ()), (one, one, ()),
                            (one, (), one), (one, (), None), (one, (), []), (((2, (0, 0)),), (), ()), (one, (), 0),
                            (((1, (0, 0)), (0, (0, 0))), (), ()), ((((1, 1), (0, 0)),), (), ())]:
            self.assertIs(shows_no_zero(ring, (one,), value), False)
        polys = of_texts(ring, "x^2+y^2+1", "x-y", "x*y")
        found = no_zero(ring, polys)
        self.assertIs(shows_no_zero(ring, polys, found), True)
        for place in range(len(found)):
            bent = found[:place] + (minus(ring, found[place], one),) + found[place + 1:]
            self.assertIs(shows_no_zero(ring, polys, bent), False)
        self.assertIs(shows_no_zero(ring, (), ((), ())), False)
        self.assertIs(shows_no_zero(ring, (x,), ((), (), ())), False)

    def test_cofactors_in_the_place_of_field_polynomials(self):
        ring = (2, 1, "lex")
        x, one, both = of_texts(ring, "x", "1", "x^2+x+1")
        self.assertIs(shows_no_zero(ring, (both,), (one, one)), True)
        self.assertIs(shows_no_zero(ring, (both,), (one, x)), False)


class FieldErrors(unittest.TestCase):

    def test_not_prime_comes_behind_the_others(self):
        x = read((0, 2, "lex"), "x")
        for function in OF_FIELD:
            self.assertRaises(NotPrime, function, (0, 2, "lex"), (x,))
            self.assertRaises(NotPrime, function, (0, 4, "lex"), ())
            self.assertRaises(BadPolynomials, function, (0, 2, "lex"), (x, 7))
            self.assertRaises(BadPolynomials, function, (0, 2, "lex"), (x,) * 13)
            self.assertRaises(BadRing, function, (4, 2, "lex"), (x, 7))
            self.assertRaises(BadRing, function, None, None)

    def test_too_many_points(self):
        for field, many in ((11, 3), (31, 3), (7, 4), (31, 4)):
            ring = (field, many, "lex")
            for function in OF_FIELD:
                with self.assertRaises(TooMany) as caught:
                    function(ring, of_texts(ring, "x"))
                self.assertEqual(caught.exception.most, 1000)
                self.assertRaises(BadPolynomials, function, ring, (None,))
        for field, many in ((31, 2), (5, 4), (7, 3), (31, 1)):
            ring = (field, many, "lex")
            for function in OF_FIELD:
                function(ring, of_texts(ring, "x"))


def some_points(rng, ring, count):
    field, many, _ = ring
    found = []
    for _ in range(count):
        if field:
            point = tuple(rng.randrange(field) for _ in range(many))
        else:
            point = tuple(from_number(0, Fraction(rng.randint(-3, 3), rng.choice((1, 1, 2, 3)))) for _ in range(many))
        if point not in found:
            found.append(point)
    return tuple(found)


class Points(unittest.TestCase):

    def lots(self):
        for ring in rings(4, (0, 2, 5)):
            rng = random.Random(repr(ring))
            for count in (1, 3, 7):
                yield ring, some_points(rng, ring, count)

    def test_ideals(self):
        for ring, points in self.lots():
            found = points_ideal(ring, points)
            self.assertIsInstance(found, tuple)
            self.assertTrue(all(evaluate(ring, p, a) == evaluate(ring, (), a) for p in found for a in points))
            self.assertTrue(is_basis(ring, found))
            if len(found) <= 12:
                self.assertEqual(basis(ring, found), found)
                self.assertEqual(len(quotient_basis(ring, found)), len(points))

    def test_against_meets(self):
        for ring, points in self.lots():
            if ring[1] > 2 or not points:
                continue
            common = (one_of(ring),)
            for point in points:
                own = tuple(minus(ring, read(ring, name), ((a, (0,) * ring[1]),) if a not in (0, (0, 1)) else ())
                            for name, a in zip("xyzw", point))
                common = meet(ring, common, own)
            self.assertTrue(same_ideal(ring, common, points_ideal(ring, points)))

    def test_no_point_and_one(self):
        for ring in rings(4, (0, 7)):
            one = one_of(ring)
            self.assertEqual(points_ideal(ring, ()), (one,))
            self.assertEqual(interpolated(ring, (), ()), ())
            self.assertEqual(separators(ring, ()), ())
            zero = ((0, 1) if ring[0] == 0 else 0,) * ring[1]
            names = [read(ring, name) for name in "xyzw"[:ring[1]]]
            self.assertEqual(points_ideal(ring, (zero,)), basis(ring, tuple(names)))
            self.assertEqual(separators(ring, (zero,)), (one,))

    def test_twenty_and_twenty_one(self):
        for field, many in ((0, 2), (0, 4), (5, 2), (2, 4), (31, 1)):
            for order in orders_of(many):
                ring = (field, many, order)
                rng = random.Random(repr(ring))
                points = some_points(rng, ring, 60)[:20]
                found = points_ideal(ring, points)
                heads = [p[0][1] for p in found]
                self.assertTrue(all(evaluate(ring, p, a) == evaluate(ring, (), a) for p in found for a in points))
                standard = [m for m in product(range(21), repeat=many) if sum(m) <= 20
                            and not any(all(a <= b for a, b in zip(head, m)) for head in heads)] if many < 4 else None
                if standard is not None:
                    self.assertEqual(len(standard), len(points))
                with self.assertRaises(BadPoints) as caught:
                    points_ideal(ring, some_points(rng, ring, 300)[:21] if field != 2 else points + ((0,) * many,) * 9)
                if field == 0:
                    self.assertIsNone(caught.exception.index)

    def test_values(self):
        for ring, points in self.lots():
            rng = random.Random(len(points))
            if ring[0]:
                values = tuple(rng.randrange(ring[0]) for _ in points)
            else:
                values = tuple(from_number(0, Fraction(rng.randint(-5, 5), rng.randint(1, 4))) for _ in points)
            found = interpolated(ring, points, values)
            self.assertEqual(tuple(evaluate(ring, found, a) for a in points), values)
            ideal = points_ideal(ring, points)
            if len(ideal) <= 12:
                self.assertEqual(normal_form(ring, ideal, found), found)

    def test_separators(self):
        for ring, points in self.lots():
            found = separators(ring, points)
            self.assertIsInstance(found, tuple)
            zero, one = ((0, 1), (1, 1)) if ring[0] == 0 else (0, 1)
            for index, p in enumerate(found):
                values = tuple(one if k == index else zero for k in range(len(points)))
                self.assertEqual(tuple(evaluate(ring, p, a) for a in points), values)
                self.assertEqual(p, interpolated(ring, points, values))
            self.assertEqual(len(found), len(points))

    def test_standard_monomials(self):
        ring = (0, 2, "deglex")
        points = tuple(((a, 1), (b, 1)) for a in range(3) for b in range(2))
        self.assertEqual(leading_monomials(ring, points_ideal(ring, points)), ((0, 2), (3, 0)))
        self.assertEqual(len(standard_monomials(ring, points_ideal(ring, points), 12)), 6)

    def test_great_numbers(self):
        ring = (0, 1, "lex")
        points = (((10 ** 190, 1),), ((1, 10 ** 190),), ((-3, 7),))
        found = interpolated(ring, points, ((1, 1), (0, 1), (10 ** 100, 3)))
        for point, value in zip(points, (1, 0, Fraction(10 ** 100, 3))):
            total = sum(Fraction(*number) * Fraction(*point[0]) ** m[0] for number, m in found)
            self.assertEqual(total, value)


class PointErrors(unittest.TestCase):

    ring = (0, 2, "lex")
    p = ((1, 2), (0, 1))

    def functions(self):
        return (points_ideal, separators, lambda ring, points: interpolated(ring, points, None))

    def test_points(self):
        bad = [None, 7, "x", True, [], {}, (), ((1, 2),), ((1, 2), (0, 1), (0, 1)), ((2, 4), (0, 1)), (1, 2),
               ((1, 2), None), [(1, 2), (0, 1)], ((1, 0), (0, 1)), ((10 ** 200, 1), (0, 1)), self.p]
        for function in self.functions():
            for value in bad:
                with self.assertRaises(BadPoints) as caught:
                    function(self.ring, (self.p, value, None))
                self.assertEqual(caught.exception.index, 1)
            others = tuple(((k, 1), (0, 1)) for k in range(25))
            for value in bad[:-1]:
                for index in (0, 19):
                    with self.assertRaises(BadPoints) as caught:
                        function(self.ring, others[:index] + (value, others[0])[:20 - index])
                    self.assertEqual(caught.exception.index, index)
            for index in (1, 5, 19):
                with self.assertRaises(BadPoints) as caught:
                    function(self.ring, others[:index] + (others[index - 1],))
                self.assertEqual(caught.exception.index, index)
            for value in (None, 7, "x", True, [], {}, [self.p], others[:21], (None,) * 21):
                with self.assertRaises(BadPoints) as caught:
                    function(self.ring, value)
                self.assertIsNone(caught.exception.index)
            self.assertRaises(BadRing, function, (0, 2), None)
            with self.assertRaises(BadPoints) as caught:
                function((5, 2, "lex"), ((1, 2), (1, 5)))
            self.assertEqual(caught.exception.index, 1)

    def test_numbers(self):
        points = (self.p, ((0, 1), (0, 1)))
        for value in (None, 7, "x", True, [], {}, (), ((1, 1),), ((1, 1),) * 3, [(1, 1), (1, 1)]):
            with self.assertRaises(BadNumbers) as caught:
                interpolated(self.ring, points, value)
            self.assertIsNone(caught.exception.index)
        for bad in (None, 7, "x", True, [], (), (2, 4), (1, 0), (1, -1), (10 ** 200, 1), [1, 1], (True, 1)):
            for index in (0, 1):
                with self.assertRaises(BadNumbers) as caught:
                    interpolated(self.ring, points, ((1, 1),) * index + (bad, None)[:2 - index])
                self.assertEqual(caught.exception.index, index)
        with self.assertRaises(BadNumbers) as caught:
            interpolated((5, 1, "lex"), ((1,), (2,), (3,)), (4, 0, 5))
        self.assertEqual(caught.exception.index, 2)
        with self.assertRaises(BadNumbers) as caught:
            interpolated(self.ring, (), ((1, 1),))
        self.assertIsNone(caught.exception.index)


if __name__ == "__main__":
    unittest.main()
