"""Points 10 and 11: certificates and members."""
import random
import unittest

from idealcore.bases import basis, is_basis
from idealcore.division import divide
from idealcore.errors import BadPolynomial, BadPolynomials, BadRing
from idealcore.membership import basis_certificate, member, normal_form, outsider, same_ideal, shows_basis
from idealcore.membership import shows_member
from idealcore.polys import minus, plus, scaled, times
from idealcore.texts import read
from tests import oracle
from tests.oracle import divides, orders_of, products_sum, random_polynomial

ODD = [0, 7, -1, "", "x", True, False, None, (), ((),), ((), ()), ((), (), ()), (None,), (1, 2, 3), [], [()], {},
       {"a": 1}, ((), (), (), ()), ([], [], []), ({}, {}, {}), (((),), ((),), ((),)), (True, False, None)]


def rings(most=3):
    return [(field, many, order) for field in (0, 2, 5, 31) for many in range(1, most + 1)
            for order in orders_of(many)]


def lots(ring, tries=3, top=3, terms=3):
    """Some lots of generators, zeros among them."""
    rng = random.Random(repr(ring))
    found = []
    for _ in range(tries):
        polys = [random_polynomial(rng, ring, top, terms) for _ in range(rng.randint(1, 3))]
        if rng.random() < 0.3:
            polys.insert(rng.randint(0, len(polys)), ())
        found.append(tuple(polys))
    return found


def of_texts(ring, *texts):
    return tuple(read(ring, text) for text in texts)


def replaced(value, path, thing):
    """A nested tuple with a thing in the place that a path tells."""
    if not path:
        return thing
    at = path[0]
    return value[:at] + (replaced(value[at], path[1:], thing),) + value[at + 1:]


class Certificates(unittest.TestCase):

    def check_certificate(self, ring, polys, value):
        some, ahead, back = value
        self.assertEqual((len(ahead), len(back)), (len(some), len(polys)))
        for p, row in zip(some, ahead):
            self.assertEqual(len(row), len(polys))
            self.assertEqual(products_sum(ring, row, polys), p)
        for p, row in zip(polys, back):
            self.assertEqual(len(row), len(some))
            self.assertEqual(products_sum(ring, row, some), p)
        for part in (value, some, ahead, back) + ahead + back:
            self.assertIsInstance(part, tuple)

    def test_own_certificates(self):
        for ring in rings():
            for polys in lots(ring):
                value = basis_certificate(ring, polys)
                self.assertEqual(value[0], basis(ring, polys))
                self.check_certificate(ring, polys, value)
                self.assertIs(shows_basis(ring, polys, value), True)

    def test_edges(self):
        ring = (5, 2, "lex")
        one, x = of_texts(ring, "1", "x")
        self.assertEqual(basis_certificate(ring, ()), ((), (), ()))
        self.assertEqual(basis_certificate(ring, ((), ())), ((), (), ((), ())))
        self.assertIs(shows_basis(ring, (), ((), (), ())), True)
        self.assertIs(shows_basis(ring, ((), ()), ((), (), ((), ()))), True)
        self.assertIs(shows_basis(ring, ((), ()), ((), (), ())), False)
        for polys in ((x,) * 12, (one,), (x, plus(ring, x, one)), ((), x, ())):
            value = basis_certificate(ring, polys)
            self.check_certificate(ring, polys, value)
            self.assertIs(shows_basis(ring, polys, value), True)

    def test_other_right_certificates(self):
        ring = (7, 2, "lex")
        one, x, y, xx = of_texts(ring, "1", "x", "y", "x^2")
        self.assertIs(shows_basis(ring, (x, y), ((x, y), ((one, ()), ((), one)), ((one, ()), ((), one)))), True)
        two = read(ring, "2")
        half = read(ring, "1/2")
        value = ((scaled(ring, x, 2), xx, ()), ((two,), (x,), ((),)), ((half, (), xx),))
        self.assertIs(shows_basis(ring, (x,), value), True)
        value = ((x, x), ((one,), (one,)), ((read(ring, "y"), read(ring, "1-y")),))
        self.assertIs(shows_basis(ring, (x,), value), True)
        value = ((x,) * 40, ((one,),) * 40, ((one,) + ((),) * 39,))
        self.assertIs(shows_basis(ring, (x,), value), True)
        value = ((x,) * 41, ((one,),) * 41, ((one,) + ((),) * 40,))
        self.assertIs(shows_basis(ring, (x,), value), False)

    def test_generators_that_are_no_basis(self):
        ring = (7, 2, "lex")
        one, p, q = of_texts(ring, "1", "x^2-y", "x*y-1")
        identity = ((one, ()), ((), one))
        self.assertIs(is_basis(ring, (p, q)), False)
        self.assertIs(shows_basis(ring, (p, q), ((p, q), identity, identity)), False)
        found = basis(ring, (p, q))
        self.assertIs(shows_basis(ring, found, (found, identity, identity)), True)

    def test_a_basis_of_another_ideal(self):
        ring = (7, 2, "lex")
        one, x, y = of_texts(ring, "1", "x", "y")
        self.assertIs(shows_basis(ring, (x, y), ((x,), ((one, ()),), ((one,), ((),)))), False)
        self.assertIs(shows_basis(ring, (x,), ((one,), ((one,),), ((x,),))), False)
        self.assertIs(shows_basis(ring, (x,), ((x, y), ((one,), ((),)), ((one, ()),))), False)

    def test_bent_certificates(self):
        for ring in rings(2):
            one = read(ring, "1")
            for polys in lots(ring, tries=2):
                value = basis_certificate(ring, polys)
                some, ahead, back = value
                bent = [value[:2], value + ((),), list(value), (list(some), ahead, back), (some, list(ahead), back),
                        (some, ahead, list(back)), (some, ahead[1:], back) if ahead else None,
                        (some, ahead, back[1:]), (some, ahead, back + back), (back, ahead, some)]
                for part, rows in ((1, ahead), (2, back)):
                    others = polys if part == 1 else some
                    for i, row in enumerate(rows):
                        bent += [replaced(value, (part, i), thing) for thing in (row[1:] or None, row + ((),),
                                                                                 list(row), None)]
                        for j, cofactor in enumerate(row):
                            bent += [replaced(value, (part, i, j), thing) for thing in (None, 1, list(cofactor), "x")]
                            if others[j]:
                                bent.append(replaced(value, (part, i, j), plus(ring, cofactor, one)))
                for i, p in enumerate(some):
                    bent += [replaced(value, (0, i), thing) for thing in (plus(ring, p, one), (), list(p), None, 3)]
                for thing in bent:
                    if thing != value:
                        self.assertIs(shows_basis(ring, polys, thing), False, thing)

    def test_other_values(self):
        ring = (7, 2, "lex")
        polys = of_texts(ring, "x^2-y", "x*y-1")
        for value in ODD:
            self.assertIs(shows_basis(ring, polys, value), False)

    def test_cofactors_beyond_the_bounds(self):
        ring = (5, 2, "lex")
        polys = of_texts(ring, "x-y^60", "x^2-1")
        value = basis_certificate(ring, polys)
        self.check_certificate(ring, polys, value)
        self.assertIs(shows_basis(ring, polys, value), False)

    def test_wrong_arguments(self):
        ring = (5, 1, "lex")
        x = read(ring, "x")
        self.assertRaises(BadRing, shows_basis, (6, 1, "lex"), None, None)
        for function in (basis_certificate, lambda r, v: shows_basis(r, v, None)):
            for value, index in (((x,) * 13, None), ([x], None), ((x, None), 1)):
                with self.assertRaises(BadPolynomials) as caught:
                    function(ring, value)
                self.assertEqual(caught.exception.index, index)


class Members(unittest.TestCase):

    def test_normal_forms(self):
        for ring in rings():
            rng = random.Random(repr(ring))
            for polys in lots(ring, tries=2):
                found = basis(ring, polys)
                for p in polys + (random_polynomial(rng, ring, 5, 5), ()):
                    form = normal_form(ring, polys, p)
                    self.assertEqual(form, oracle.divide(ring, p, found)[1])
                    self.assertFalse(any(divides(q[0][1], m) for q in found for _, m in form))
                    self.assertIsNotNone(member(ring, polys, minus(ring, p, form)))
                    self.assertEqual(normal_form(ring, polys, form), form)

    def test_members(self):
        for ring in rings():
            rng = random.Random(repr(ring))
            for polys in lots(ring, tries=2):
                p = ()
                for q in polys:
                    p = plus(ring, p, times(ring, q, random_polynomial(rng, ring, 2, 2)))
                for inside in (p,) + polys + ((),):
                    value = member(ring, polys, inside)
                    self.assertIsInstance(value, tuple)
                    self.assertEqual(len(value), len(polys))
                    self.assertEqual(products_sum(ring, value, polys), inside)
                    self.assertIs(shows_member(ring, polys, inside, value), True)

    def test_others(self):
        for ring in rings():
            rng = random.Random(repr(ring))
            for polys in lots(ring, tries=2):
                p = random_polynomial(rng, ring, 4, 3)
                inside = oracle.divide(ring, p, basis(ring, polys))[1] == ()
                value = member(ring, polys, p)
                self.assertIs(value is not None, inside)
                self.assertIs(normal_form(ring, polys, p) == (), inside)
                self.assertIs(shows_member(ring, polys, p, None), False)

    def test_edges(self):
        ring = (0, 2, "degrevlex")
        one, x = of_texts(ring, "1", "x")
        self.assertEqual(member(ring, (), ()), ())
        self.assertIsNone(member(ring, (), x))
        self.assertEqual(products_sum(ring, member(ring, ((), ()), ()), ((), ())), ())
        self.assertIsNone(member(ring, ((), ()), one))
        self.assertEqual(normal_form(ring, (), x), x)
        self.assertEqual(normal_form(ring, (x, ()), x), ())
        value = member(ring, ((), x, ()), x)
        self.assertEqual((len(value), value[1]), (3, one))
        self.assertIs(shows_member(ring, (), (), ()), True)
        self.assertIs(shows_member(ring, (), x, ()), False)
        self.assertIs(shows_member(ring, ((),), (), (x,)), True)
        self.assertIs(shows_member(ring, ((),), (), ((),)), True)

    def test_right_and_bent_cofactors(self):
        ring = (7, 2, "lex")
        p, q, y, one = of_texts(ring, "x^2-y", "x*y-1", "y", "1")
        polys = (p, q)
        inside = plus(ring, p, times(ring, q, y))
        self.assertIs(shows_member(ring, polys, inside, (one, y)), True)
        self.assertIs(shows_member(ring, polys, inside, (plus(ring, one, q), minus(ring, y, p))), True)
        for value in ODD + [(one,), (one, y, ()), [one, y], (y, one), (one, ()), (one, plus(ring, y, one)),
                            (one, list(y)), (one, ((7, (0, 1)),)), (one, ((1, (0, 1)), (1, (1, 0)))),
                            (one, ((1, (0, 61)),)), (one, None)]:
            self.assertIs(shows_member(ring, polys, inside, value), False, value)
        self.assertIs(shows_member(ring, polys, (), ((), ())), True)

    def test_one_in_the_ideal(self):
        ring = (0, 2, "lex")
        polys = of_texts(ring, "2*x^3*y-x+3*y^2-1", "x^2-3*y^3+1/2*x*y", "x*y^2+5*x-7*y+2")
        value = member(ring, polys, read(ring, "1"))
        self.assertEqual(products_sum(ring, value, polys), read(ring, "1"))
        self.assertIs(shows_member(ring, polys, read(ring, "1"), value), True)
        self.assertEqual(basis(ring, polys), (read(ring, "1"),))

    def test_outsiders(self):
        for ring in rings():
            for one, other in zip(lots(ring), lots(ring)[1:]):
                found = [basis(ring, one), basis(ring, other)]
                told = [next((k for k, p in enumerate(lot) if divide(ring, p, some[:40])[1]), None)
                        for lot, some in ((one, found[1]), (other, found[0]))]
                self.assertEqual([outsider(ring, one, other), outsider(ring, other, one)], told)
                self.assertIs(same_ideal(ring, one, other), told == [None, None])
                self.assertIs(same_ideal(ring, one, one[::-1] + one), True)
                if len(found[0]) <= 12:
                    self.assertIs(same_ideal(ring, one, found[0]), True)

    def test_outsider_edges(self):
        ring = (5, 2, "lex")
        one, x, y, p = of_texts(ring, "1", "x", "y", "x*y")
        self.assertIsNone(outsider(ring, (), ()))
        self.assertIsNone(outsider(ring, ((), ()), ()))
        self.assertEqual(outsider(ring, ((), x), ()), 1)
        self.assertEqual(outsider(ring, (p, (), x, y), (y,)), 2)
        self.assertIsNone(outsider(ring, (x, y), (one,)))
        self.assertIs(same_ideal(ring, (), ((), ())), True)
        self.assertIs(same_ideal(ring, (p,), (x,)), False)
        self.assertIs(same_ideal(ring, (x,), (p,)), False)
        self.assertIs(same_ideal(ring, (x, plus(ring, x, one)), (one,)), True)

    def test_which_error_comes_first(self):
        ring = (5, 1, "lex")
        x = read(ring, "x")
        self.assertRaises(BadRing, member, (5, 1, "x"), None, None)
        for function in (normal_form, member, lambda *arguments: shows_member(*arguments, None)):
            for polys, p, kind, index in ((None, None, BadPolynomials, None), ((x, 1), None, BadPolynomials, 1),
                                          ((x,) * 13, x, BadPolynomials, None), ((x,), None, BadPolynomial, None),
                                          ((x,), [x], BadPolynomial, None)):
                with self.assertRaises(kind) as caught:
                    function(ring, polys, p)
                if kind is BadPolynomials:
                    self.assertEqual(caught.exception.index, index)
        for function in (outsider, same_ideal):
            for one, other, index in ((None, None, None), ((x, None), 3, 1), ((x,), ((), x, 4), 2), ((x,), x, 0),
                                      ((x,), (x,) * 13, None), ((x,) * 13, (3,), None), ((3,), (x,) * 13, 0)):
                with self.assertRaises(BadPolynomials) as caught:
                    function(ring, one, other)
                self.assertEqual(caught.exception.index, index)


if __name__ == "__main__":
    unittest.main()
