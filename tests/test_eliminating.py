"""Points 14 and 15: elimination, kernels, preimages and images."""
import random
import unittest

from idealcore.bases import basis
from idealcore.eliminating import eliminate, in_image, kernel, preimage
from idealcore.errors import BadPlaces, BadPolynomial, BadPolynomials, BadRing, OtherRing
from idealcore.membership import normal_form
from idealcore.polys import reordered, substitute
from tests import oracle
from tests.lots import lot, of_texts, rings
from tests.oracle import from_dict, orders_of, random_polynomial, to_dict


def has_places(p, places):
    return any(monomial[place] for _, monomial in p for place in places)


def moved(p, ring, order):
    """A polynomial with its variables in another order, order[k] being the variable that comes to the place k."""
    return from_dict(ring, {tuple(m[k] for k in order): n for m, n in to_dict(ring[0], p).items()})


def subsets(many):
    found = [()]
    for place in range(many):
        found += [places + (place,) for places in found]
    return [places for places in found if len(places) < many]


class Eliminating(unittest.TestCase):

    def by_lex(self, ring, polys, places):
        """The same by the reduced basis in "lex" with the variables at the places first, moved back."""
        field, many, _ = ring
        order = list(places) + [k for k in range(many) if k not in places]
        lex = (field, many, "lex")
        found = basis(lex, tuple(moved(p, lex, order) for p in polys))
        kept = [p for p in found if not has_places(p, range(len(places)))]
        back = [order.index(k) for k in range(many)]
        return tuple(moved(p, ring, back) for p in kept)

    def test_each_lot_of_places(self):
        for ring in rings(4, (0, 3), least=1):
            rng = random.Random(repr(ring))
            polys = lot(rng, ring, most=3, top=2)
            for places in subsets(ring[1]):
                found = eliminate(ring, polys, places)
                kept = self.by_lex(ring, polys, places)
                if len(kept) <= 12:
                    self.assertEqual(found, basis(ring, kept))
                self.assertFalse(any(has_places(p, places) for p in found))
                for p in found:
                    self.assertEqual(normal_form(ring, polys, p), ())

    def test_lex_rings_hold_it_in_the_reduced_basis(self):
        for field in (0, 2, 5, 31):
            for many in (2, 3):
                ring = (field, many, "lex")
                rng = random.Random(repr(ring))
                for _ in range(4):
                    polys = lot(rng, ring, most=3)
                    for k in range(many):
                        places = tuple(range(k))
                        self.assertEqual(eliminate(ring, polys, places),
                                         tuple(p for p in basis(ring, polys) if not has_places(p, places)))

    def test_no_places(self):
        for ring in rings(3, (0, 5)):
            polys = lot(random.Random(repr(ring)), ring)
            self.assertEqual(eliminate(ring, polys, ()), basis(ring, polys))

    def test_known(self):
        ring = (0, 3, "lex")
        polys = of_texts(ring, "x^2+y^2+z^2-1", "x-y", "x+z")
        self.assertEqual(eliminate(ring, polys, (0,)), of_texts(ring, "z^2-1/3", "y+z"))
        self.assertEqual(eliminate(ring, polys, (0, 1)), of_texts(ring, "z^2-1/3"))
        self.assertEqual(eliminate(ring, polys, (1, 2)), of_texts(ring, "x^2-1/3"))
        self.assertEqual(eliminate(ring, polys, (2,)), of_texts(ring, "y^2-1/3", "x-y"))
        self.assertEqual(eliminate(ring, of_texts(ring, "x*y-1"), (0,)), ())
        self.assertEqual(eliminate(ring, of_texts(ring, "x*y-1", "y"), (0,)), of_texts(ring, "1"))
        self.assertEqual(eliminate(ring, (), (0,)), ())
        self.assertEqual(eliminate(ring, ((), ()), (0, 2)), ())
        self.assertEqual(eliminate((7, 1, "lex"), (((1, (3,)),),), ()), (((1, (3,)),),))

    def test_wrong_places(self):
        ring = (5, 3, "lex")
        polys = of_texts(ring, "x", "y")
        for places in ((0, 1, 2), (0, 0), (1, 0), (True,), (0, True), (False,), (3,), (-1,), (0, 3), [0], [], None, 0,
                       True, "0", "", {}, {0: 1}, (None,), ("0",), ((0,),), (0, 1, 2, 3), (2, 1), (1, 1, 2)):
            with self.assertRaises(BadPlaces, msg=places):
                eliminate(ring, polys, places)
        for many in (1, 2, 4):
            with self.assertRaises(BadPlaces):
                eliminate((5, many, "lex"), (), tuple(range(many)))
            with self.assertRaises(BadPlaces):
                eliminate((5, many, "lex"), (), (many,))
        self.assertRaises(BadRing, eliminate, (5, 3), None, None)
        for value, index in (((1,), 0), (None, None), (polys + (None,), 2), (((),) * 13, None)):
            with self.assertRaises(BadPolynomials) as caught:
                eliminate(ring, value, None)
            self.assertEqual(caught.exception.index, index)


def line(field, *texts):
    """A ring in one variable and polynomials of it."""
    ring = (field, 1, "lex")
    return ring, of_texts(ring, *texts)


class Kernels(unittest.TestCase):

    def test_curves(self):
        for field in (0, 2, 3, 31):
            for order in orders_of(3):
                ring = (field, 3, order)
                target, values = line(field, "x", "x^2", "x^3")
                self.assertEqual(kernel(ring, target, values), basis(ring, of_texts(ring, "y-x^2", "z-x^3")))
                target, values = line(field, "x^3", "x^4", "x^5")
                known = of_texts(ring, "y^2-x*z", "x^3-y*z", "z^2-x^2*y")
                self.assertEqual(kernel(ring, target, values), basis(ring, known))
            ring = (field, 2, "degrevlex")
            target, values = line(field, "x^2-1", "x^3-x")
            self.assertEqual(kernel(ring, target, values), basis(ring, of_texts(ring, "y^2-x^3-x^2")))
            target, values = line(field, "x^60", "x^59")
            found = kernel(ring, target, values)
            self.assertEqual(found, of_texts(ring, "y^60-x^59"))

    def test_twisted_cubic(self):
        target = (5, 2, "lex")
        values = of_texts(target, "x^3", "x^2*y", "x*y^2", "y^3")
        for order in orders_of(4):
            ring = (5, 4, order)
            self.assertEqual(kernel(ring, target, values), basis(ring, of_texts(ring, "x*z-y^2", "x*w-y*z", "y*w-z^2")))

    def test_surfaces(self):
        ring, target = (0, 4, "deglex"), (0, 4, ("block", 2))
        values = of_texts(target, "x*z", "x*w", "y*z", "y*w")
        self.assertEqual(kernel(ring, target, values), basis(ring, of_texts(ring, "x*w-y*z")))
        ring, target = (0, 3, "lex"), (0, 2, "degrevlex")
        self.assertEqual(kernel(ring, target, of_texts(target, "x^2", "x*y", "y^2")), of_texts(ring, "x*z-y^2"))
        self.assertEqual(kernel(ring, target, of_texts(target, "x*y", "y", "x")), of_texts(ring, "x-y*z"))

    def test_no_kernel(self):
        ring = (7, 2, "lex")
        self.assertEqual(kernel(ring, ring, of_texts(ring, "x", "y")), ())
        self.assertEqual(kernel(ring, ring, of_texts(ring, "x+y^2", "y")), ())
        self.assertEqual(kernel(ring, ring, of_texts(ring, "x^2", "y^3")), ())
        self.assertEqual(kernel((7, 1, "lex"), ring, of_texts(ring, "x*y-1")), ())

    def test_values_all_the_same(self):
        for field in (0, 5):
            ring = (field, 3, "lex")
            target, (p,) = line(field, "x^2+x")
            self.assertEqual(kernel(ring, target, (p, p, p)), of_texts(ring, "y-z", "x-z"))
            self.assertEqual(kernel(ring, target, ((), (), ())), of_texts(ring, "z", "y", "x"))

    def test_numbers_as_values(self):
        ring = (0, 2, "lex")
        target, values = line(0, "2", "-1/3")
        self.assertEqual(kernel(ring, target, values), of_texts(ring, "y+1/3", "x-2"))
        target, values = line(0, "x^3-x", "5/2")
        self.assertEqual(kernel(ring, target, values), of_texts(ring, "y-5/2"))
        self.assertEqual(kernel((0, 1, "lex"), target, values[1:]), of_texts((0, 1, "lex"), "x-5/2"))

    def test_random_maps(self):
        for ring, target in self.pairs():
            rng = random.Random(repr((ring, target)))
            values = tuple(random_polynomial(rng, target, 2, 2) for _ in range(ring[1]))
            found = kernel(ring, target, values)
            self.assertEqual(oracle.basis(ring, found), found)
            for p in found:
                self.assertEqual(substitute(ring, p, target, values), ())
            for k in range(3):
                p = random_polynomial(rng, ring, 2, 3)
                inside = substitute(ring, p, target, values) == ()
                self.assertIs(oracle.divide(ring, p, found)[1] == (), inside)

    def pairs(self):
        return [((field, many, order), (field, other, last)) for field in (0, 2, 5) for many in (1, 2, 3)
                for other in (1, 2, 3) for order, last in zip(orders_of(many), orders_of(other)[::-1])]

    def test_preimages(self):
        for ring, target in self.pairs():
            rng = random.Random(repr((ring, target)))
            values = tuple(random_polynomial(rng, target, 2, 2) for _ in range(ring[1]))
            polys = lot(rng, target, most=2, top=2, terms=2)
            found = preimage(ring, target, values, polys)
            self.assertEqual(oracle.basis(ring, found), found)
            for p in found:
                image = substitute(ring, p, target, values)
                if len(image) <= 500 and max([sum(m) for _, m in image], default=0) <= 60:
                    self.assertEqual(normal_form(target, polys, image), ())
            for k in range(3):
                p = random_polynomial(rng, ring, 2, 3)
                inside = normal_form(target, polys, substitute(ring, p, target, values)) == ()
                self.assertIs(oracle.divide(ring, p, found)[1] == (), inside)
            self.assertEqual(preimage(ring, target, values, ()), kernel(ring, target, values))
            self.assertEqual(preimage(ring, target, values, ((), ())), kernel(ring, target, values))

    def test_known_preimages(self):
        ring = (5, 2, "lex")
        target, values = line(5, "x^2", "x^3")
        one, t = of_texts(target, "1", "x^4")
        self.assertEqual(preimage(ring, target, values, (one,)), of_texts(ring, "1"))
        self.assertEqual(preimage(ring, target, values, (t,)), basis(ring, of_texts(ring, "x^2", "x*y", "y^2")))
        self.assertEqual(preimage(ring, target, values, of_texts(target, "x-1")), of_texts(ring, "y-1", "x-1"))
        same = of_texts(ring, "x^2-y", "y^2")
        self.assertEqual(preimage(ring, ring, of_texts(ring, "x", "y"), same), basis(ring, same))

    def test_same_map_with_other_orders(self):
        for one in orders_of(2):
            for other in orders_of(3):
                ring, target = (3, 2, one), (3, 3, other)
                values = of_texts(target, "x*y-z", "z^2+x")
                polys = of_texts(target, "x-z", "y*z")
                self.assertEqual(preimage(ring, target, values, polys),
                                 tuple(basis(ring, tuple(reordered((3, 2, "lex"), p, ring) for p in preimage(
                                     (3, 2, "lex"), (3, 3, "lex"), of_texts((3, 3, "lex"), "x*y-z", "z^2+x"),
                                     of_texts((3, 3, "lex"), "x-z", "y*z"))))))


class Images(unittest.TestCase):

    def test_found_polynomials_are_carried_back(self):
        for ring, target in Kernels().pairs():
            rng = random.Random(repr((target, ring)))
            values = tuple(random_polynomial(rng, target, 2, 2) for _ in range(ring[1]))
            for _ in range(2):
                p = substitute(ring, random_polynomial(rng, ring, 3, 3), target, values)
                found = in_image(ring, target, values, p)
                self.assertEqual(substitute(ring, found, target, values), p)
                q = random_polynomial(rng, target, 3, 3)
                found = in_image(ring, target, values, q)
                if found is not None:
                    self.assertEqual(substitute(ring, found, target, values), q)

    def test_symmetric_polynomials(self):
        for order in orders_of(3):
            for field in (0, 2, 3):
                ring, target = (field, 3, order), (field, 3, order)
                values = of_texts(target, "x+y+z", "x*y+y*z+z*x", "x*y*z")
                p = of_texts(target, "x^3+y^3+z^3")[0]
                found = in_image(ring, target, values, p)
                self.assertEqual(found, of_texts(ring, "x^3-3*x*y+3*z")[0])
                self.assertIsNone(in_image(ring, target, values, of_texts(target, "x^3+y^3")[0]))
                self.assertIsNone(in_image(ring, target, values, of_texts(target, "x")[0]))

    def test_semigroups(self):
        ring = (2, 2, "lex")
        target, values = line(2, "x^4", "x^7")
        for exponent in range(61):
            p = ((1, (exponent,)),)
            inside = any((exponent - 7 * k) % 4 == 0 for k in range(exponent // 7 + 1))
            found = in_image(ring, target, values, p)
            self.assertIs(found is not None, inside, exponent)
            if inside:
                self.assertEqual(substitute(ring, found, target, values), p)

    def test_edges(self):
        ring = (0, 2, "lex")
        target, values = line(0, "2", "3")
        self.assertEqual(substitute(ring, in_image(ring, target, values, ()), target, values), ())
        p = of_texts(target, "7/5")[0]
        self.assertEqual(substitute(ring, in_image(ring, target, values, p), target, values), p)
        self.assertIsNone(in_image(ring, target, values, of_texts(target, "x")[0]))
        values = ((), of_texts(target, "x")[0])
        p = of_texts(target, "x^60-1/2*x")[0]
        self.assertEqual(substitute(ring, in_image(ring, target, values, p), target, values), p)

    def test_which_error_comes_first(self):
        ring, target = (5, 2, "lex"), (5, 1, "lex")
        x = ((1, (1,)),)
        for function in (kernel, preimage, in_image):
            more = (None,) if function is not kernel else ()
            self.assertRaises(BadRing, function, (5, 2), None, None, *more)
            self.assertRaises(BadRing, function, ring, (5, 2), None, *more)
            self.assertRaises(OtherRing, function, ring, (3, 1, "lex"), None, *more)
            self.assertRaises(OtherRing, function, ring, (0, 2, "lex"), None, *more)
            for values, index in ((None, None), ((x,), None), ((x, x, x), None), ([x, x], None), ((x, None), 1),
                                  ((None, x), 0), ((((1, (1, 0)),), x), 0), ((x, ((1, (61,)),)), 1), ({}, None),
                                  ((), None), ((True, False), 0), ("xy", None)):
                with self.assertRaises(BadPolynomials) as caught:
                    function(ring, target, values, *more)
                self.assertEqual(caught.exception.index, index)
        for polys, index in ((None, None), ((x,) * 13, None), ([x], None), ((x, None), 1), ((((1, (1, 0)),),), 0)):
            with self.assertRaises(BadPolynomials) as caught:
                preimage(ring, target, (x, x), polys)
            self.assertEqual(caught.exception.index, index)
        for p in (None, (x,), [x], ((1, (1, 0)),), 0, "x", True, {}):
            with self.assertRaises(BadPolynomial):
                in_image(ring, target, (x, x), p)


if __name__ == "__main__":
    unittest.main()
