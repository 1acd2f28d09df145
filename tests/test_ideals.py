"""Points 12 and 13: ideals put together, saturations and radicals."""
import random
import unittest
from itertools import combinations_with_replacement

from idealcore.bases import basis, standard_monomials
from idealcore.errors import BadInteger, BadPolynomial, BadPolynomials, BadRing
from idealcore.ideals import ideal_power, ideal_product, ideal_sum, in_radical, meet, quotient, saturation
from idealcore.membership import normal_form, same_ideal
from idealcore.polys import plus, power, times
from tests import oracle
from tests.lots import even_lot, even_polynomial, lot, of_texts, pairs_of_products, point_ideal, rings
from tests.oracle import divides, random_polynomial

TWO_LOTS = (ideal_sum, ideal_product, meet, quotient)


def one_of(ring):
    return of_texts(ring, "1")[0]


def is_inside(ring, found, p):
    """Whether a reduced basis of any length divides p without a rest."""
    return oracle.divide(ring, p, found)[1] == ()


def product_of(ring, polys):
    found = one_of(ring)
    for p in polys:
        found = times(ring, found, p)
    return found


def counts(ring, found, top):
    """How many monomials of each degree up to top the leading monomials of a basis do not divide.

    Only for generators whose monomials have one degree each, for which it does not depend on the order.
    """
    heads = [p[0][1] for p in found]
    values = []
    for degree in range(top + 1):
        monomials = [m for m in standard_monomials(ring, (), degree) if sum(m) == degree]
        values.append(sum(1 for m in monomials if not any(divides(head, m) for head in heads)))
    return values


def monomial_ideal(ring, monomials):
    number = 1 if ring[0] else (1, 1)
    return tuple(((number, m),) for m in monomials)


def least(monomials):
    """The monomials that no other one divides, as a set."""
    return {m for m in monomials if not any(k != m and divides(k, m) for k in monomials)}


class Together(unittest.TestCase):

    def check_reduced(self, ring, found):
        self.assertIsInstance(found, tuple)
        self.assertEqual(oracle.basis(ring, found), found)

    def test_sums(self):
        for ring in rings():
            rng = random.Random(repr(ring))
            one, other = lot(rng, ring, most=2), lot(rng, ring, most=2)
            self.assertEqual(ideal_sum(ring, one, other), oracle.basis(ring, one + other))
            self.assertEqual(ideal_sum(ring, other, one), ideal_sum(ring, one, other))
            self.assertEqual(ideal_sum(ring, one, ()), basis(ring, one))

    def test_sums_of_many(self):
        ring = (7, 2, "lex")
        one = tuple(monomial_ideal(ring, [(k, 12 - k) for k in range(12)]))
        other = tuple(monomial_ideal(ring, [(12 - k, k) for k in range(12)]))
        self.assertEqual(len(ideal_sum(ring, one, other)), 13)

    def test_products(self):
        for ring in rings():
            rng = random.Random(repr(ring))
            one, other = lot(rng, ring, most=2), lot(rng, ring, most=2)
            products = tuple(pairs_of_products(ring, one, other))
            found = ideal_product(ring, one, other)
            self.check_reduced(ring, found)
            self.assertEqual(found, basis(ring, products))
            self.assertEqual(ideal_product(ring, other, one), found)
            for p in products:
                self.assertTrue(is_inside(ring, found, p))

    def test_products_of_small_ones(self):
        for ring in rings():
            rng = random.Random(repr(ring))
            one, other = lot(rng, ring, most=2, top=2, terms=2), lot(rng, ring, most=2, top=1, terms=2)
            self.assertEqual(ideal_product(ring, one, other), oracle.basis(ring, pairs_of_products(ring, one, other)))

    def test_products_of_many(self):
        ring = (7, 4, "lex")
        one = of_texts(ring, *["x*y", "z^2", "w^2-z*y", "x^2", "y^2", "x*z", "x*w", "y*w", "z*w", "w^3", "z^3", "y^3"])
        found = ideal_product(ring, one, one[::-1])
        self.assertEqual(found, ideal_power(ring, one, 2))
        self.check_reduced(ring, found)

    def test_powers(self):
        for ring in rings():
            rng = random.Random(repr(ring))
            polys = lot(rng, ring, most=2, top=2, terms=2)
            for exponent in range(5):
                products = [product_of(ring, some) for some in combinations_with_replacement(polys, exponent)]
                if max(len(p) for p in products) <= 6 or exponent < 3:
                    self.assertEqual(ideal_power(ring, polys, exponent), oracle.basis(ring, products))
                else:
                    before = ideal_power(ring, polys, exponent - 1)
                    found = ideal_power(ring, polys, exponent)
                    self.check_reduced(ring, found)
                    if len(before) <= 12 and len(polys) <= 12:
                        self.assertEqual(found, ideal_product(ring, before, polys))

    def test_powers_of_edges(self):
        for ring in ((0, 2, "lex"), (2, 3, "deglex")):
            one = one_of(ring)
            for polys in ((), ((),), ((), ())):
                self.assertEqual(ideal_power(ring, polys, 0), (one,))
                for exponent in range(1, 5):
                    self.assertEqual(ideal_power(ring, polys, exponent), ())
            for exponent in range(5):
                self.assertEqual(ideal_power(ring, (one, ()), exponent), (one,))
            x, p = of_texts(ring, "x", "x-1")
            self.assertEqual(ideal_power(ring, (x, p), 4), (one,))
            self.assertEqual(ideal_power(ring, (x,), 4), (power(ring, x, 4),))
            self.assertEqual(ideal_power(ring, (p,), 1), (p,))

    def test_powers_of_twelve(self):
        ring = (0, 3, "degrevlex")
        polys = monomial_ideal(ring, [(a, b, 3 - a - b) for a in range(4) for b in range(4 - a)] + [(3, 0, 0)] * 2)
        self.assertEqual(len(polys), 12)
        self.assertEqual(len(ideal_power(ring, polys, 4)), 91)

    def test_exponents_outside(self):
        ring = (5, 2, "lex")
        for exponent in (-1, 5, True, False, None, "1", (), [2], 10 ** 30):
            with self.assertRaises(BadInteger):
                ideal_power(ring, of_texts(ring, "x"), exponent)

    def test_meets_hold_what_is_in_both(self):
        for ring in rings():
            rng = random.Random(repr(ring))
            one, other = lot(rng, ring, most=2, top=2), lot(rng, ring, most=2, top=2)
            found = meet(ring, one, other)
            self.check_reduced(ring, found)
            for p in found:
                self.assertEqual((normal_form(ring, one, p), normal_form(ring, other, p)), ((), ()))
            for p in pairs_of_products(ring, one, other):
                self.assertTrue(is_inside(ring, found, p))
            self.assertEqual(meet(ring, other, one), found)

    def test_meets_hold_all_that_is_in_both(self):
        for ring in rings():
            rng = random.Random(repr(ring))
            one, other = even_lot(rng, ring, most=2), even_lot(rng, ring, most=2)
            found = counts(ring, meet(ring, one, other), 6)
            alone = [counts(ring, basis(ring, polys), 6) for polys in (one, other)]
            together = counts(ring, basis(ring, one + other), 6)
            self.assertEqual(found, [a + b - c for a, b, c in zip(alone[0], alone[1], together)])

    def test_meets_of_monomials(self):
        for ring in rings():
            rng = random.Random(repr(ring))
            one, other = [[tuple(rng.randint(0, 3) for _ in range(ring[1])) for _ in range(3)] for _ in range(2)]
            lcms = least([tuple(max(a, b) for a, b in zip(m, k)) for m in one for k in other])
            found = meet(ring, monomial_ideal(ring, one), monomial_ideal(ring, other))
            self.assertEqual(({p[0][1] for p in found}, {len(p) for p in found}), (lcms, {1}))
            quotients = None
            for k in other:
                shifted = {tuple(max(a - b, 0) for a, b in zip(m, k)) for m in one}
                quotients = shifted if quotients is None else {tuple(max(a, b) for a, b in zip(m, n))
                                                               for m in quotients for n in shifted}
            found = quotient(ring, monomial_ideal(ring, one), monomial_ideal(ring, other))
            self.assertEqual(({p[0][1] for p in found}, {len(p) for p in found}), (least(quotients), {1}))

    def test_meets_of_one_variable(self):
        ring = (0, 1, "lex")
        self.assertEqual(meet(ring, of_texts(ring, "x^2-1"), of_texts(ring, "x^2-3*x+2")),
                         of_texts(ring, "x^3-2*x^2-x+2"))
        self.assertEqual(meet(ring, of_texts(ring, "2*x^2+2*x"), of_texts(ring, "1/2*x^3")), of_texts(ring, "x^4+x^3"))
        self.assertEqual(quotient(ring, of_texts(ring, "x^3-x"), of_texts(ring, "x^2-2*x+1")), of_texts(ring, "x^2+x"))

    def test_meets_of_lines_that_stand_apart(self):
        for field in (0, 3, 31):
            for order in ("lex", "deglex", "degrevlex", ("block", 2)):
                ring = (field, 3, order)
                one, other = of_texts(ring, "x", "y-1"), of_texts(ring, "x-1", "y")
                for a, b in ((1, 1), (2, 1), (2, 2)):
                    left, right = ideal_power(ring, one, a), ideal_power(ring, other, b)
                    self.assertEqual(meet(ring, left, right), ideal_product(ring, left, right))

    def test_meets_of_points(self):
        ring = (7, 2, "degrevlex")
        points = [(0, 0), (1, 2), (3, 2), (5, 6), (6, 1)]
        found = (one_of(ring),)
        for many, point in enumerate(points):
            found = meet(ring, found, point_ideal(ring, point))
            self.assertEqual(len(standard_monomials(ring, found, 6)), many + 1)
            for p in found:
                self.assertEqual([oracle.evaluate(7, p, point) for point in points[:many + 1]], [0] * (many + 1))

    def test_quotients(self):
        for ring in rings():
            rng = random.Random(repr(ring))
            one, other = lot(rng, ring, most=2), lot(rng, ring, most=2, top=1)
            products = tuple(pairs_of_products(ring, one, other))
            for some in (one, products):
                found = quotient(ring, some, other)
                self.check_reduced(ring, found)
                for p in pairs_of_products(ring, found, other):
                    self.assertEqual(normal_form(ring, some, p), ())
                for p in some:
                    self.assertTrue(is_inside(ring, found, p))
            for p in one:
                self.assertTrue(is_inside(ring, found, p))

    def test_quotients_hold_all(self):
        for ring in rings():
            rng = random.Random(repr(ring))
            polys, degree = even_lot(rng, ring, most=3), rng.randint(1, 2)
            p = even_polynomial(rng, ring, degree, 2)
            found = counts(ring, quotient(ring, polys, (p,)), 5)
            whole, modulo = counts(ring, basis(ring, polys), 5 + degree), counts(ring, basis(ring, polys + (p,)), 5 + degree)
            self.assertEqual(found, [whole[d + degree] - modulo[d + degree] for d in range(6)])

    def test_quotients_by_several_are_meets(self):
        for ring in rings(2, (0, 3)):
            rng = random.Random(repr(ring))
            polys, other = even_lot(rng, ring), even_lot(rng, ring, most=3, top=2)
            found = (one_of(ring),)
            for p in other:
                found = meet(ring, found, quotient(ring, polys, (p,)))
            self.assertEqual(quotient(ring, polys, other), found)

    def test_edges(self):
        for ring in ((0, 2, "lex"), (5, 2, "degrevlex"), (2, 1, "lex")):
            one, x = of_texts(ring, "1", "x")
            for zero in ((), ((),), ((), ())):
                self.assertEqual(ideal_sum(ring, zero, zero), ())
                self.assertEqual(ideal_sum(ring, (x,), zero), (x,))
                self.assertEqual(ideal_product(ring, (x,), zero), ())
                self.assertEqual(ideal_product(ring, zero, (one,)), ())
                self.assertEqual(meet(ring, (x,), zero), ())
                self.assertEqual(meet(ring, zero, (x,)), ())
                self.assertEqual(meet(ring, zero, zero), ())
                self.assertEqual(quotient(ring, (x,), zero), (one,))
                self.assertEqual(quotient(ring, zero, zero), (one,))
                self.assertEqual(quotient(ring, zero, (x,)), ())
                self.assertEqual(quotient(ring, zero, (one,)), ())
            self.assertEqual(ideal_sum(ring, (x,), (one,)), (one,))
            self.assertEqual(ideal_product(ring, (x, ()), (one,)), (x,))
            self.assertEqual(meet(ring, (x,), (one,)), (x,))
            self.assertEqual(meet(ring, ((), one), ((), x)), (x,))
            self.assertEqual(meet(ring, (one,), (one,)), (one,))
            self.assertEqual(quotient(ring, (x,), (one,)), (x,))
            self.assertEqual(quotient(ring, (x,), (x, one)), (x,))
            self.assertEqual(quotient(ring, (one,), (x,)), (one,))
            self.assertEqual(quotient(ring, (x,), (x,)), (one,))
            self.assertEqual(quotient(ring, (times(ring, x, x),), ((), x)), (x,))

    def test_which_error_comes_first(self):
        ring = (5, 1, "lex")
        x = of_texts(ring, "x")[0]
        for function in TWO_LOTS:
            self.assertRaises(BadRing, function, (5, 1, "x"), None, None)
            for one, other, index in ((None, None, None), ((x, None), 3, 1), ((x,), ((), x, 4), 2), ((x,), x, 0),
                                      ((x,), (x,) * 13, None), ((x,) * 13, (3,), None), ((3,), (x,) * 13, 0),
                                      ([x], (x,), None), ((x,), [x], None), ({}, {}, None)):
                with self.assertRaises(BadPolynomials) as caught:
                    function(ring, one, other)
                self.assertEqual(caught.exception.index, index)
            for index in range(12):
                for one, other in (((x,) * index + (None,), None), ((x,), ((),) * index + (True,))):
                    with self.assertRaises(BadPolynomials) as caught:
                        function(ring, one, other)
                    self.assertEqual(caught.exception.index, index)
            function(ring, (x,) * 12, ((),) * 12)


class Saturations(unittest.TestCase):

    def quotients(self, ring, polys, p):
        """The exponent and the ideal by quotients one after another."""
        found, exponent = basis(ring, polys), 0
        while True:
            wider = quotient(ring, found, (p,)) if len(found) <= 12 else None
            if wider is None:
                return None
            if wider == found:
                return (exponent, found)
            found, exponent = wider, exponent + 1

    def test_saturations(self):
        for ring in rings(3, (0, 2, 7)):
            rng = random.Random(repr(ring))
            p = random_polynomial(rng, ring, 2, 2)
            polys = lot(rng, ring, most=2)
            multiples = tuple(times(ring, q, power(ring, p, rng.randint(0, 2))) for q in polys)
            for some in (polys, multiples):
                told = self.quotients(ring, some, p)
                if told is not None:
                    self.assertEqual(saturation(ring, some, p), told)

    def test_exponents_of_powers(self):
        ring = (5, 2, "degrevlex")
        x, y, one = of_texts(ring, "x", "y", "1")
        for exponent in list(range(1, 13)) + [30, 60]:
            polys = (((1, (exponent, 0)),),)
            self.assertEqual(saturation(ring, polys, x), (exponent, (one,)))
            self.assertEqual(in_radical(ring, polys, x), exponent)
            polys = (((1, (exponent, 60 - exponent)),), ((1, (0, 60)),))
            self.assertEqual(saturation(ring, polys, x), (exponent, of_texts(ring, f"y^{60 - exponent}")
                                                          if exponent < 60 else (one,)))
        self.assertEqual(saturation(ring, of_texts(ring, "x^5*y^2"), y), (2, of_texts(ring, "x^5")))

    def test_great_exponents(self):
        ring = (5, 3, "lex")
        x = of_texts(ring, "x")[0]
        for texts, exponent in ((("x^60-y", "y^60"), 3600), (("x^30-y", "y^9"), 270), (("x^7-z", "y-z", "z^13"), 91),
                                (("x^60-y", "y^60-z", "z^60"), 216000)):
            polys = of_texts(ring, *texts)
            self.assertEqual(in_radical(ring, polys, x), exponent)
            self.assertEqual(saturation(ring, polys, x), (exponent, of_texts(ring, "1")))

    def test_edges_of_saturations(self):
        for ring in ((0, 2, "lex"), (3, 2, "deglex")):
            one, x, two = of_texts(ring, "1", "x", "2")
            self.assertEqual(saturation(ring, (x,), ()), (1, (one,)))
            self.assertEqual(saturation(ring, (one,), ()), (0, (one,)))
            self.assertEqual(saturation(ring, (), ()), (1, (one,)))
            self.assertEqual(saturation(ring, (), x), (0, ()))
            self.assertEqual(saturation(ring, ((), ()), one), (0, ()))
            self.assertEqual(saturation(ring, (x,), two), (0, (x,)))
            self.assertEqual(saturation(ring, (x,), x), (1, (one,)))
            self.assertEqual(saturation(ring, (one,), x), (0, (one,)))
            p = of_texts(ring, "y+1")[0]
            self.assertEqual(saturation(ring, (x,), p), (0, (x,)))
            self.assertEqual(saturation(ring, (times(ring, x, p), ()), p), (1, (x,)))
            self.assertEqual(saturation(ring, of_texts(ring, "x", "x+1"), p), (0, (one,)))

    def test_lines_apart(self):
        ring = (0, 3, "degrevlex")
        polys = meet(ring, ideal_power(ring, of_texts(ring, "x", "y"), 2), of_texts(ring, "x-1", "z"))
        self.assertEqual(saturation(ring, polys, of_texts(ring, "x")[0]), (2, basis(ring, of_texts(ring, "x-1", "z"))))
        self.assertEqual(saturation(ring, polys, of_texts(ring, "z")[0]),
                         (1, ideal_power(ring, of_texts(ring, "x", "y"), 2)))

    def test_radicals(self):
        for ring in rings(3, (0, 2, 7)):
            rng = random.Random(repr(ring))
            p, q = random_polynomial(rng, ring, 2, 2), random_polynomial(rng, ring, 2, 2)
            exponent = rng.randint(1, 3)
            polys = (times(ring, power(ring, p, exponent), power(ring, q, 2)), times(ring, p, q))
            self.check_radical(ring, polys, times(ring, p, q))
            self.check_radical(ring, polys, p)
            self.check_radical(ring, (power(ring, p, exponent), q), plus(ring, p, q))
            self.check_radical(ring, lot(rng, ring), p)

    def check_radical(self, ring, polys, p):
        found = in_radical(ring, polys, p)
        powers = [normal_form(ring, polys, power(ring, p, k)) == () for k in range(1, 7)]
        if found is None:
            self.assertEqual(powers, [False] * 6)
            self.assertNotEqual(saturation(ring, polys, p)[1], (one_of(ring),))
        else:
            self.assertEqual(powers, [k >= found for k in range(1, 7)])
            self.assertEqual(saturation(ring, polys, p)[1], (one_of(ring),))

    def test_edges_of_radicals(self):
        for ring in ((0, 2, "lex"), (3, 2, "deglex")):
            one, x, y = of_texts(ring, "1", "x", "y")
            self.assertEqual(in_radical(ring, (one,), x), 1)
            self.assertEqual(in_radical(ring, (one,), ()), 1)
            self.assertEqual(in_radical(ring, (one,), one), 1)
            self.assertEqual(in_radical(ring, (), ()), 1)
            self.assertEqual(in_radical(ring, (x,), ()), 1)
            self.assertIsNone(in_radical(ring, (), x))
            self.assertIsNone(in_radical(ring, ((), ()), one))
            self.assertIsNone(in_radical(ring, (x,), one))
            self.assertIsNone(in_radical(ring, (x,), y))
            self.assertEqual(in_radical(ring, (x,), x), 1)
            squares = (times(ring, x, x), times(ring, y, y))
            self.assertEqual(in_radical(ring, squares, plus(ring, x, y)), 3)

    def test_which_error_comes_first(self):
        ring = (5, 1, "lex")
        x = of_texts(ring, "x")[0]
        for function in (saturation, in_radical):
            self.assertRaises(BadRing, function, (5, 1, "x"), None, None)
            for polys, p, kind, index in ((None, None, BadPolynomials, None), ((x, 1), None, BadPolynomials, 1),
                                          ((x,) * 13, x, BadPolynomials, None), ((x,), None, BadPolynomial, None),
                                          ((x,), [x], BadPolynomial, None), ((x,), (x,), BadPolynomial, None)):
                with self.assertRaises(kind) as caught:
                    function(ring, polys, p)
                if kind is BadPolynomials:
                    self.assertEqual(caught.exception.index, index)


class Laws(unittest.TestCase):

    def test_sums_and_meets_of_the_same(self):
        for ring in rings(2, (0, 5)):
            polys = lot(random.Random(repr(ring)), ring, most=2)
            found = basis(ring, polys)
            self.assertEqual(meet(ring, polys, polys), found)
            self.assertEqual(ideal_sum(ring, polys, polys), found)
            self.assertEqual(ideal_product(ring, polys, polys), ideal_power(ring, polys, 2))
            self.assertEqual(ideal_power(ring, polys, 1), found)
            if any(polys):
                self.assertTrue(same_ideal(ring, quotient(ring, polys, polys), (one_of(ring),)))


if __name__ == "__main__":
    unittest.main()
