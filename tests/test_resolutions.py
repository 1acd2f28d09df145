"""Points 19 to 21: minimal generators, minimal resolutions, Betti numbers and regularity."""
import random
import unittest
from itertools import combinations
from unittest.mock import patch

from idealcore.bases import basis, standard_monomials
from idealcore.errors import BadPolynomials, BadRing, IdealError, NotEven, TooMany
from idealcore.hilbert import hilbert_numerator
from idealcore.ideals import ideal_power
from idealcore.membership import normal_form
from idealcore.polys import degree, plus, scaled, times
from idealcore.resolutions import betti_numbers, minimal_generators, regularity, resolution, shows_resolution
from idealcore.syzygies import vector_syzygies
from idealcore.vectors import module_member
from tests import vector_oracle
from tests.lots import ODD, even_lot, even_polynomial, of_texts, rings
from tests.oracle import divides

FUNCTIONS = (minimal_generators, resolution, betti_numbers, regularity)


def zeros(many):
    return ((),) * many


def plain_minimal_generators(ring, polys):
    """As the document tells, one after another."""
    kept = []
    for index in sorted(range(len(polys)), key=lambda k: (degree(ring, polys[k]), k)):
        if normal_form(ring, tuple(polys[k] for k in kept), polys[index]):
            kept.append(index)
    return tuple(kept)


def degrees_of(step, place_degrees):
    """The degrees of the vectors of a step, None for one that has no degree."""
    found = []
    for vector in step:
        told = {sum(m) + place_degrees[k] for k, p in enumerate(vector) for _, m in p}
        found.append(told.pop() if len(told) == 1 else None)
    return found


def numerator_of(triples):
    """The sum with changing signs that tells the Hilbert numerator."""
    found = {}
    for step, at, number in triples:
        found[at] = found.get(at, 0) + (-1) ** step * number
    row = [found.get(at, 0) for at in range(max(found, default=-1) + 1)]
    while row and row[-1] == 0:
        row.pop()
    return tuple(row)


class Generators(unittest.TestCase):

    def test_which_are_kept(self):
        for ring in rings(4, (0, 2, 5)):
            rng = random.Random(repr(ring))
            polys = even_lot(rng, ring, most=4, top=2)
            products = [times(ring, p, even_polynomial(rng, ring, 1, 2)) for p in polys[:2]]
            polys = list(polys) + products + [plus(ring, products[0], products[0])]
            rng.shuffle(polys)
            self.assertEqual(minimal_generators(ring, tuple(polys)), plain_minimal_generators(ring, polys))

    def test_order_and_equal_degrees(self):
        ring = (5, 3, "lex")
        x, y, z, sums, xx, xy, one = of_texts(ring, "x", "y", "z", "x+y", "x^2", "x*y", "1")
        self.assertEqual(minimal_generators(ring, (xx, x, y, sums, xy, z)), (1, 2, 5))
        self.assertEqual(minimal_generators(ring, (sums, x, y)), (0, 1))
        self.assertEqual(minimal_generators(ring, (xy, xx, z, xx)), (2, 0, 1))
        self.assertEqual(minimal_generators(ring, (xy, xx, one, z)), (2,))
        self.assertEqual(minimal_generators(ring, (one, scaled(ring, one, 2))), (0,))
        self.assertEqual(minimal_generators(ring, (x, scaled(ring, x, 2))), (0,))
        cubes = of_texts(ring, "x^3+y^3", "x^2*y", "x^3-y^3", "x^3")
        self.assertEqual(minimal_generators(ring, cubes), (0, 1, 2))
        self.assertEqual(minimal_generators(ring, of_texts(ring, "y^3", "x^2", "x*y", "x^2*z+y^3")), (1, 2, 0))
        # The product is in the ideal of later ones of lower degree.
        self.assertEqual(minimal_generators(ring, of_texts(ring, "x*y*z", "x*z", "y^2")), (1, 2))

    def test_edges(self):
        ring = (0, 2, "degrevlex")
        x = of_texts(ring, "x")[0]
        self.assertEqual(minimal_generators(ring, ()), ())
        self.assertEqual(minimal_generators(ring, ((),)), ())
        self.assertEqual(minimal_generators(ring, ((), x, ())), (1,))
        self.assertEqual(minimal_generators(ring, (x,) * 12), (0,))
        many = tuple(((((1, 1), (k, 11 - k)),) for k in range(12)))
        self.assertEqual(minimal_generators(ring, many), tuple(range(12)))

    def test_uneven_ones(self):
        ring = (5, 2, "lex")
        x, bad, other = of_texts(ring, "x", "x+1", "x^2+y")
        for function in FUNCTIONS + (lambda r, p: shows_resolution(r, p, None),):
            self.assertRaises(BadRing, function, (5, 2), None)
            for polys, index in (((bad,), 0), ((x, bad), 1), ((x, (), other, bad), 2), ((bad, other), 0),
                                 ((x,) * 11 + (bad,), 11)):
                with self.assertRaises(NotEven) as caught:
                    function(ring, polys)
                self.assertEqual(caught.exception.index, index)
            for polys, index in (((bad, None), 1), ((bad,) * 13, None), (None, None), ([x], None), ({}, None),
                                 ((x, True), 1), ((bad, x + x), 1)):
                with self.assertRaises(BadPolynomials) as caught:
                    function(ring, polys)
                self.assertEqual(caught.exception.index, index)
            function(ring, ((), x, ()))


class Resolutions(unittest.TestCase):

    def check(self, ring, polys, steps):
        self.check_words(ring, polys, steps)
        self.assertIs(shows_resolution(ring, polys, steps), True)

    def check_words(self, ring, polys, steps):
        """Each word of the document, with syzygies by another function."""
        self.assertIsInstance(steps, tuple)
        self.assertLessEqual(len(steps), ring[1])
        ahead, place_degrees = None, [0]
        for number, step in enumerate(steps):
            self.assertIsInstance(step, tuple)
            self.assertTrue(1 <= len(step) <= 12)
            rank = len(place_degrees)
            for vector in step:
                self.assertIsInstance(vector, tuple)
                self.assertEqual(len(vector), rank)
                self.assertNotEqual(vector, zeros(rank))
                if number:
                    self.assertFalse(any(p and degree(ring, p) == 0 for p in vector))
                    self.assertEqual(vector_oracle.sum_of_products(ring, len(ahead[0]), vector, ahead),
                                     zeros(len(ahead[0])))
            degrees = degrees_of(step, place_degrees)
            self.assertNotIn(None, degrees)
            if number:
                found = vector_syzygies(ring, len(ahead[0]), ahead)
                self.assertTrue(found)
                self.check_generates(ring, rank, step, found)
            else:
                self.assertEqual(basis(ring, tuple(p for p, in step)), basis(ring, polys))
            ahead, place_degrees = step, degrees
        if ahead is None:
            self.assertEqual(basis(ring, polys), ())
        else:
            self.assertEqual(vector_syzygies(ring, len(ahead[0]), ahead), ())

    def check_generates(self, ring, rank, step, wanted):
        for vector in wanted:
            row = module_member(ring, rank, step, vector)
            self.assertIsNotNone(row)
            self.assertEqual(vector_oracle.sum_of_products(ring, rank, row, step), vector)

    def test_own_resolutions(self):
        for ring in rings(4, (0, 2, 5)):
            rng = random.Random(repr(ring))
            polys = even_lot(rng, ring, most=3, top=2)
            self.check(ring, polys, resolution(ring, polys))

    def test_more_generators(self):
        for field in (0, 3, 31):
            for many, texts in ((2, ["x^3", "x^2*y", "x*y^2", "y^3"]), (3, ["x^2", "y^2", "z^2", "x*y*z"]),
                                (3, ["x*y", "y*z", "z*x"]), (4, ["x*y", "y*z", "z*w", "w*x"]),
                                (4, ["x*z-y^2", "x*w-y*z", "y*w-z^2"]), (4, ["x", "y", "z", "w"]),
                                (4, ["x^2+y^2", "z^2-w^2", "x*y+z*w"]), (3, ["x^2+y^2+z^2", "x*y", "x^3"])):
                for order in ("lex", "degrevlex"):
                    ring = (field, many, order)
                    polys = of_texts(ring, *texts)
                    self.check(ring, polys, resolution(ring, polys))

    def test_zero_and_one(self):
        for ring in ((0, 2, "lex"), (5, 1, "degrevlex")):
            one, x, two = of_texts(ring, "1", "x", "2")
            for polys in ((), ((),), ((),) * 12):
                self.assertEqual(resolution(ring, polys), ())
                self.assertIs(shows_resolution(ring, polys, ()), True)
                self.assertIs(shows_resolution(ring, polys, (((x,),),)), False)
                self.assertIs(shows_resolution(ring, polys, ((),)), False)
                self.assertIs(shows_resolution(ring, polys, ((((),),),)), False)
            for polys in ((one,), (x, two), ((), two, x)):
                self.check(ring, polys, resolution(ring, polys))
                self.assertIs(shows_resolution(ring, polys, (((one,),),)), True)
                self.assertIs(shows_resolution(ring, polys, (((two,),),)), True)
                self.assertIs(shows_resolution(ring, polys, ()), False)
                self.assertIs(shows_resolution(ring, polys, (((one,), (x,)),)), False)
                self.assertIs(shows_resolution(ring, polys, (((one,), (x,)), ((x, of_texts(ring, "-1")[0]),))), False)
                self.assertIs(shows_resolution(ring, polys, (((x,),),)), False)
            self.assertIs(shows_resolution(ring, (x,), ()), False)

    def test_other_right_ones(self):
        ring = (7, 3, "lex")
        x, y, z, sums = of_texts(ring, "x", "y", "z", "x+y")
        minus = [scaled(ring, p, 6) for p in (x, y, z)]
        self.assertIs(shows_resolution(ring, (x, y), (((x,), (y,)), ((y, minus[0]),))), True)
        self.assertIs(shows_resolution(ring, (x, y), (((y,), (x,)), ((minus[0], y),))), True)
        self.assertIs(shows_resolution(ring, (x, y), (((x,), (sums,)), ((sums, minus[0]),))), True)
        self.assertIs(shows_resolution(ring, (sums, y, x), (((scaled(ring, x, 3),), (y,)), (
            (y, scaled(ring, x, 4)),))), True)
        first = ((x,), (y,), (z,))
        second = ((y, minus[0], ()), (z, (), minus[0]), ((), z, minus[1]))
        third = ((z, minus[1], x),)
        self.assertIs(shows_resolution(ring, (x, y, z), (first, second, third)), True)
        # Another set of syzygies, the sums of the first two in the place of the first one.
        mixed = (tuple(plus(ring, a, b) for a, b in zip(second[0], second[1])),) + second[1:]
        told = ((z, of_texts(ring, "-z-y")[0], x),)
        self.assertIs(shows_resolution(ring, (x, y, z), (first, mixed, told)), True)
        self.assertIs(shows_resolution(ring, (x, y, z), (first, mixed, third)), False)
        self.assertIs(shows_resolution(ring, (z, y, x, sums, ()), (first, second, third)), True)

    def test_bent_ones(self):
        ring = (7, 3, "lex")
        for polys in (of_texts(ring, "x", "y", "z"), of_texts(ring, "x*y", "y*z", "x*z"), of_texts(ring, "x^2-y*z"),
                      of_texts(ring, "x^2", "x*y", "y^3", "z^2*x")):
            steps = resolution(ring, polys)
            one, x = of_texts(ring, "1", "x")
            bent = [steps[:-1], steps[1:], steps + steps[-1:], steps + ((),), list(steps), (steps,), steps[::-1] if
                    len(steps) > 1 else None, steps + (((x,) * len(steps[-1]),),), steps + ((zeros(len(steps[-1])),),)]
            for k, step in enumerate(steps):
                rank = len(step[0])
                bent += [steps[:k] + (thing,) + steps[k + 1:] for thing in
                         (step[:-1], step[1:], step + step[:1], step + (zeros(rank),), list(step), None, 3, "x",
                          step + (step[0] + ((),),), step * 13, ())]
                if len(steps) > k + 1 and len(step) > 1:
                    bent.append(steps[:k] + (step[::-1],) + steps[k + 1:])
                for i, vector in enumerate(step):
                    for thing in (zeros(rank), vector[1:], vector + ((),), list(vector), None,
                                  tuple(times(ring, x, p) for p in vector),
                                  tuple(plus(ring, p, times(ring, x, p)) for p in vector)):
                        bent.append(steps[:k] + (step[:i] + (thing,) + step[i + 1:],) + steps[k + 1:])
                    for j, p in enumerate(vector):
                        for thing in (plus(ring, p, x), plus(ring, p, one), one, None, list(p), 1, "x", ((7, (0, 0, 0)),)):
                            changed = vector[:j] + (thing,) + vector[j + 1:]
                            bent.append(steps[:k] + (step[:i] + (changed,) + step[i + 1:],) + steps[k + 1:])
            for value in bent:
                self.assertIs(shows_resolution(ring, polys, value), self.is_right(ring, polys, value), value)

    def is_right(self, ring, polys, value):
        try:
            self.check_words(ring, polys, value)
        except (AssertionError, IdealError, TypeError, IndexError, AttributeError, ValueError):
            return False
        return True

    def test_scaled_ones_stay_right(self):
        ring = (0, 3, "degrevlex")
        polys = of_texts(ring, "x*y", "y*z", "x^2+z^2")
        first, *others = resolution(ring, polys)
        self.assertIs(shows_resolution(ring, polys, (first, *others)), True)
        last = tuple(tuple(scaled(ring, p, (-2, 3)) for p in vector) for vector in others[-1])
        self.assertIs(shows_resolution(ring, polys, (first, *others[:-1], last)), True)

    def test_uneven_vectors(self):
        ring = (5, 2, "lex")
        x, y, mixed, one = of_texts(ring, "x", "y", "x+x*y", "1")
        minus = of_texts(ring, "-x")[0]
        self.assertIs(shows_resolution(ring, (x, y), (((x,), (y,)), ((y, minus),))), True)
        self.assertIs(shows_resolution(ring, (x, y), (((mixed,), (y,)), ((y, of_texts(ring, "-x-x*y")[0]),))), False)
        self.assertIs(shows_resolution(ring, (x, y), (((x,), (y,)), ((times(ring, y, y), of_texts(ring, "-x*y")[0]),))),
                      False)
        self.assertIs(shows_resolution(ring, (x,), (((x,), (x,)), ((one, of_texts(ring, "-1")[0]),))), False)

    def test_values_of_every_kind(self):
        ring = (3, 2, "lex")
        x, y = of_texts(ring, "x", "y")
        for value in ODD + [((x,),), (((x,), (y,)),), ((x, y),), (x, y), (((x,), (y,)), ((y, ((2, (1, 0)),)),), 1),
                            ((((x,), (y,)), ((y, ((2, (1, 0)),)),)),), ("ab", "cd"), (((1,), (2,)),), ((x,), (y,))]:
            self.assertIs(shows_resolution(ring, (x, y), value), False, value)
        self.assertIs(shows_resolution(ring, (x, y), (((x,), (y,)), ((y, ((2, (1, 0)),)),))), True)

    def test_twelve_vectors_and_more(self):
        ring = (0, 2, "lex")
        powers = ideal_power(ring, of_texts(ring, "x", "y"), 4)
        most = tuple(((((1, 1), (k, 11 - k)),) for k in range(12)))
        steps = resolution(ring, most)
        self.assertEqual([len(step) for step in steps], [12, 11])
        self.assertIs(shows_resolution(ring, most, steps), True)
        self.assertEqual(len(resolution(ring, powers)[1]), 4)
        ring = (5, 4, "degrevlex")
        products = of_texts(ring, "x^2", "x*y", "x*z", "x*w", "y^2", "y*z", "y*w", "z^2", "z*w", "w^2")
        uneven = of_texts(ring, "x+1")
        for function in (resolution, betti_numbers, regularity):
            with self.assertRaises(TooMany) as caught:
                function(ring, products)
            self.assertEqual(caught.exception.most, 12)
            self.assertRaises(NotEven, function, ring, products + uneven)
            self.assertRaises(BadPolynomials, function, ring, products + (None,))
            self.assertRaises(BadRing, function, (5, 4), products)
        self.assertEqual(minimal_generators(ring, products), tuple(range(10)))
        self.assertIs(shows_resolution(ring, products, (tuple((p,) for p in products),)), False)
        twelve = of_texts(ring, "z^3*w^2", "y^2*z*w", "x*z^3", "x*y*z^2*w^2", "x*y^3", "x^2*w^3", "x^2*y*z*w^2")
        self.assertEqual([len(step) for step in resolution(ring, twelve)], [7, 12, 6])
        self.assertIs(shows_resolution(ring, twelve, resolution(ring, twelve)), True)
        thirteen = of_texts(ring, "y^2*z^3*w^3", "x*y^2*z^3", "x*y^3*w^2", "x^2*y*z^3*w^2", "x^2*y^2*w^3",
                            "x^2*y^3*w", "x^3*w^2", "x^3*y*z^2*w")
        self.assertRaises(TooMany, resolution, ring, thirteen)
        with patch("idealcore.steps.MOST_VECTORS", 13):
            steps = resolution(ring, thirteen)
        self.assertEqual([len(step) for step in steps], [8, 13, 7, 1])
        self.assertIs(shows_resolution(ring, thirteen, steps), False)
        with patch("idealcore.resolutions.MOST_VECTORS", 13):
            self.assertIs(shows_resolution(ring, thirteen, steps), True)
        ring = (5, 3, "lex")
        products = ideal_power(ring, of_texts(ring, "x", "y", "z"), 2)
        self.assertEqual(betti_numbers(ring, products), [(0, 0, 1), (1, 2, 6), (2, 3, 8), (3, 4, 3)])
        # Ten generators, fifteen syzygies.
        with self.assertRaises(TooMany):
            betti_numbers(ring, ideal_power(ring, of_texts(ring, "x", "y", "z"), 3))


class Betti(unittest.TestCase):

    def test_powers_of_variables(self):
        for ring in rings(4, (0, 2)):
            names = "xyzw"[:ring[1]]
            for exponents in ((1, 1, 1, 1), (1, 2, 3, 4), (5, 2, 2, 7)):
                polys = of_texts(ring, *[f"{name}^{e}" for name, e in zip(names, exponents)])
                expected = {}
                for size in range(len(names) + 1):
                    for some in combinations(exponents[:len(names)], size):
                        expected[(size, sum(some))] = expected.get((size, sum(some)), 0) + 1
                self.assertEqual(betti_numbers(ring, polys), sorted((a, b, n) for (a, b), n in expected.items()))
                self.assertEqual(regularity(ring, polys), sum(exponents[:len(names)]) - len(names))

    def test_all_products_of_two_variables(self):
        for field in (0, 3):
            for many in range(1, 12):
                ring = (field, 2, "lex")
                polys = tuple((((1, 1) if field == 0 else 1, (k, many - k)),) for k in range(many + 1))
                self.assertEqual(betti_numbers(ring, polys), [(0, 0, 1), (1, many, many + 1), (2, many + 1, many)])
                self.assertEqual(regularity(ring, polys), many - 1)

    def test_known(self):
        ring = (31, 4, "degrevlex")
        polys = of_texts(ring, "x*z-y^2", "x*w-y*z", "y*w-z^2")
        self.assertEqual(betti_numbers(ring, polys), [(0, 0, 1), (1, 2, 3), (2, 3, 2)])
        self.assertEqual(regularity(ring, polys), 1)
        polys = of_texts(ring, "x*y", "z*w")
        self.assertEqual(betti_numbers(ring, polys), [(0, 0, 1), (1, 2, 2), (2, 4, 1)])
        polys = of_texts(ring, "x*w-y*z", "x*z^2-y^2*w", "y^3-x^2*z", "z^3-y*w^2")
        self.assertEqual(betti_numbers(ring, polys), [(0, 0, 1), (1, 2, 1), (1, 3, 3), (2, 4, 4), (3, 5, 1)])
        self.assertEqual(regularity(ring, polys), 2)

    def test_edges(self):
        for ring in ((0, 2, "lex"), (5, 1, "degrevlex")):
            one, x, two = of_texts(ring, "1", "x", "2")
            for polys in ((), ((),), ((), ())):
                self.assertEqual(betti_numbers(ring, polys), [(0, 0, 1)])
                self.assertEqual(regularity(ring, polys), 0)
            for polys in ((one,), (x, two), ((), two)):
                self.assertEqual(betti_numbers(ring, polys), [])
                self.assertIsNone(regularity(ring, polys))
            self.assertEqual(betti_numbers(ring, (x,)), [(0, 0, 1), (1, 1, 1)])
            self.assertEqual(regularity(ring, (x,)), 0)
            self.assertEqual(regularity(ring, of_texts(ring, "x^60")), 59)

    def test_generators_put_about_and_added_to(self):
        for ring in rings(3, (0, 2, 5)):
            rng = random.Random(repr(ring))
            polys = even_lot(rng, ring, most=3, top=2)
            told = betti_numbers(ring, polys)
            self.assertEqual(betti_numbers(ring, polys[::-1]), told)
            more = tuple(times(ring, p, even_polynomial(rng, ring, 2, 2)) for p in polys)
            self.assertEqual(betti_numbers(ring, more[:3] + polys + ((),) + polys), told)
            other = (ring[0], ring[1], "lex")
            lex = tuple(tuple(sorted(p, key=lambda term: term[1], reverse=True)) for p in polys)
            self.assertEqual(betti_numbers(other, lex), told)

    def test_against_hilbert_numerators(self):
        for ring in rings(4, (0, 2, 5)):
            rng = random.Random(repr(ring))
            polys = even_lot(rng, ring, most=3, top=2)
            told = betti_numbers(ring, polys)
            self.assertEqual(numerator_of(told), hilbert_numerator(ring, polys))
            self.assertEqual(told, sorted(told))
            if told:
                self.assertEqual(told[0], (0, 0, 1))
                self.assertEqual(regularity(ring, polys), max(at - step for step, at, _ in told))

    def test_against_counted_monomials(self):
        ring = (5, 3, "lex")
        rng = random.Random(3)
        for _ in range(10):
            monomials = [tuple(rng.randint(0, 2) for _ in range(3)) for _ in range(3)]
            polys = tuple(((1, m),) for m in monomials)
            row = numerator_of(betti_numbers(ring, polys))
            for at in range(7):
                told = sum(n * len([m for m in standard_monomials(ring, (), 12) if sum(m) == at - j])
                           for j, n in enumerate(row))
                left = [m for m in standard_monomials(ring, (), 12) if sum(m) == at]
                self.assertEqual(told, len([m for m in left if not any(divides(k, m) for k in monomials)]))


if __name__ == "__main__":
    unittest.main()
