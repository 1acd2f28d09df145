"""Point 17: modules of vectors."""
import random
import unittest

from idealcore.bases import basis
from idealcore.errors import BadRank, BadRing, BadVector, BadVectors
from idealcore.membership import member, normal_form
from idealcore.polys import minus, plus, times
from idealcore.vectors import module_basis, module_member, module_normal_form, shows_module_member
from tests import vector_oracle
from tests.lots import ODD, lot, of_texts, rings
from tests.oracle import random_polynomial

RANKS = (1, 2, 3)


def random_vector(rng, ring, rank, top=2, terms=2):
    return tuple(random_polynomial(rng, ring, rng.randint(0, top), terms) if rng.random() < 0.7 else ()
                 for _ in range(rank))


def vector_lot(rng, ring, rank, most=3, top=2, terms=2):
    """Some vectors, at times with a zero one among them."""
    vectors = [random_vector(rng, ring, rank, top, terms) for _ in range(rng.randint(1, most))]
    if rng.random() < 0.2:
        vectors.insert(rng.randint(0, len(vectors)), ((),) * rank)
    return tuple(vectors)


def plus_vectors(ring, one, other):
    return tuple(plus(ring, p, q) for p, q in zip(one, other))


def minus_vectors(ring, one, other):
    return tuple(minus(ring, p, q) for p, q in zip(one, other))


def cases(most=3, fields=(0, 2, 5)):
    for ring in rings(most, fields):
        for rank in RANKS:
            rng = random.Random(repr((ring, rank)))
            yield ring, rank, rng, vector_lot(rng, ring, rank)


class Bases(unittest.TestCase):

    def test_reduced_bases(self):
        for ring, rank, _, vectors in cases():
            found = module_basis(ring, rank, vectors)
            self.assertIsInstance(found, tuple)
            self.assertTrue(vector_oracle.is_reduced_basis(ring, found))
            for vector in vectors:
                self.assertTrue(vector_oracle.is_in(ring, vector, found))
            for vector in found:
                row = module_member(ring, rank, vectors, vector)
                self.assertEqual(vector_oracle.sum_of_products(ring, rank, row, vectors), vector)

    def test_against_the_simplest_algorithm(self):
        for ring in rings(2, (0, 3)):
            for rank in RANKS:
                rng = random.Random(repr((ring, rank)))
                vectors = vector_lot(rng, ring, rank, most=2)
                self.assertEqual(module_basis(ring, rank, vectors), vector_oracle.module_basis(ring, rank, vectors))

    def test_greater_ranks(self):
        for rank in (4, 7, 12):
            for ring in ((0, 2, "lex"), (5, 3, "degrevlex"), (2, 4, ("block", 2))):
                rng = random.Random(repr((ring, rank)))
                vectors = vector_lot(rng, ring, rank, most=4)
                found = module_basis(ring, rank, vectors)
                self.assertTrue(vector_oracle.is_reduced_basis(ring, found))
                for vector in vectors:
                    self.assertTrue(vector_oracle.is_in(ring, vector, found))

    def test_rank_one_is_as_ideals(self):
        for ring in rings(3, (0, 2, 31)):
            rng = random.Random(repr(ring))
            polys, p = lot(rng, ring), random_polynomial(rng, ring, 4, 4)
            vectors = tuple((q,) for q in polys)
            self.assertEqual(module_basis(ring, 1, vectors), tuple((q,) for q in basis(ring, polys)))
            self.assertEqual(module_normal_form(ring, 1, vectors, (p,)), (normal_form(ring, polys, p),))
            self.assertIs(module_member(ring, 1, vectors, (p,)) is None, member(ring, polys, p) is None)

    def test_which_places_are_greater(self):
        ring = (3, 2, "lex")
        x, y, one = of_texts(ring, "x", "y", "1")
        two = of_texts(ring, "2")[0]
        # Of equal monomials, the one at the smaller index leads; otherwise the greater monomial does.
        self.assertEqual(module_basis(ring, 2, ((two, two),)), ((one, one),))
        self.assertEqual(module_basis(ring, 2, ((one, x), (y, ()))), ((y, ()), (one, x)))
        self.assertEqual(module_basis(ring, 2, (((), one), (one, one))), (((), one), (one, ())))
        self.assertEqual(module_basis(ring, 3, ((y, (), ()), ((), x, ()), ((), (), x))),
                         ((y, (), ()), ((), (), x), ((), x, ())))

    def test_edges(self):
        for ring in ((0, 2, "lex"), (5, 1, "degrevlex")):
            one, x = of_texts(ring, "1", "x")
            for rank in (1, 2, 12):
                zero = ((),) * rank
                self.assertEqual(module_basis(ring, rank, ()), ())
                self.assertEqual(module_basis(ring, rank, (zero,)), ())
                self.assertEqual(module_basis(ring, rank, (zero,) * 12), ())
                vector = (x,) * rank
                self.assertEqual(module_basis(ring, rank, (vector,) * 12), (vector,))
                self.assertEqual(module_normal_form(ring, rank, (), vector), vector)
                self.assertEqual(module_normal_form(ring, rank, (zero,), vector), vector)
                self.assertEqual(module_normal_form(ring, rank, (vector,), vector), zero)
                units = tuple(tuple(one if i == j else () for j in range(rank)) for i in range(rank))
                self.assertEqual(module_basis(ring, rank, units), units[::-1])
                self.assertEqual(module_normal_form(ring, rank, units, vector), zero)
                self.assertEqual(module_member(ring, rank, units, vector), vector)

    def test_one_at_a_place(self):
        ring = (7, 2, "degrevlex")
        one, x, p, q = of_texts(ring, "1", "x", "x*y-1", "y")
        found = module_basis(ring, 2, ((x, ()), (p, ()), ((), q)))
        self.assertEqual(found, ((one, ()), ((), q)))


class NormalForms(unittest.TestCase):

    def test_normal_forms(self):
        for ring, rank, rng, vectors in cases():
            found = module_basis(ring, rank, vectors)
            tables = [vector_oracle.to_table(ring, vector) for vector in found]
            for vector in (random_vector(rng, ring, rank, 4, 4), vectors[0], ((),) * rank):
                form = module_normal_form(ring, rank, vectors, vector)
                expected = vector_oracle.rest(ring, vector_oracle.to_table(ring, vector), tables)
                self.assertEqual(form, vector_oracle.from_table(ring, rank, expected))
                self.assertTrue(vector_oracle.is_in(ring, minus_vectors(ring, vector, form), found))
                self.assertEqual(module_normal_form(ring, rank, vectors, form), form)


class Members(unittest.TestCase):

    def combination(self, rng, ring, rank, vectors):
        total = ((),) * rank
        for vector in vectors:
            factor = random_polynomial(rng, ring, 2, 2)
            total = plus_vectors(ring, total, tuple(times(ring, factor, p) for p in vector))
        return total

    def test_members(self):
        for ring, rank, rng, vectors in cases():
            for vector in vectors + (self.combination(rng, ring, rank, vectors), ((),) * rank):
                row = module_member(ring, rank, vectors, vector)
                self.assertIsInstance(row, tuple)
                self.assertEqual(len(row), len(vectors))
                self.assertEqual(vector_oracle.sum_of_products(ring, rank, row, vectors), vector)
                self.assertIs(shows_module_member(ring, rank, vectors, vector, row), True)

    def test_others(self):
        for ring, rank, rng, vectors in cases():
            vector = random_vector(rng, ring, rank, 3, 3)
            inside = vector_oracle.is_in(ring, vector, module_basis(ring, rank, vectors))
            self.assertIs(module_member(ring, rank, vectors, vector) is not None, inside)
            self.assertIs(module_normal_form(ring, rank, vectors, vector) == ((),) * rank, inside)

    def test_edges(self):
        ring = (0, 2, "lex")
        one, x = of_texts(ring, "1", "x")
        self.assertEqual(module_member(ring, 2, (), ((), ())), ())
        self.assertIsNone(module_member(ring, 2, (), (x, ())))
        self.assertIsNone(module_member(ring, 2, ((x, x),), (x, ())))
        self.assertIsNone(module_member(ring, 2, ((x, ()),), ((), x)))
        self.assertEqual(module_member(ring, 2, ((x, x),), (x, x)), (one,))
        row = module_member(ring, 2, (((), ()), (x, ()), ((), ())), (x, ()))
        self.assertEqual((len(row), row[1]), (3, one))
        self.assertIs(shows_module_member(ring, 2, (), ((), ()), ()), True)
        self.assertIs(shows_module_member(ring, 2, (), (x, ()), ()), False)
        self.assertIs(shows_module_member(ring, 2, (((), ()),), ((), ()), (x,)), True)

    def test_right_and_bent_cofactors(self):
        ring = (7, 2, "lex")
        p, q, y, one = of_texts(ring, "x^2-y", "x*y-1", "y", "1")
        vectors = ((p, q), (q, ()))
        vector = (plus(ring, times(ring, p, y), q), times(ring, q, y))
        self.assertIs(shows_module_member(ring, 2, vectors, vector, (y, one)), True)
        for value in ODD + [(y,), (y, one, ()), [y, one], (one, y), (y, ()), ((), one), (y, plus(ring, one, y)),
                            (y, list(one)), (y, ((7, (0, 0)),)), (y, ((1, (0, 0)), (1, (1, 0)))), (y, None),
                            (y, ((1, (0, 61)),)), ((y, one),), (y, (one,)), (plus(ring, y, p), one)]:
            self.assertIs(shows_module_member(ring, 2, vectors, vector, value), False, value)
        vectors = ((p, q), (p, q))
        self.assertIs(shows_module_member(ring, 2, vectors, (p, q), (plus(ring, one, y), minus(ring, (), y))), True)
        self.assertIs(shows_module_member(ring, 2, vectors, (p, ()), (one, ())), False)
        self.assertIs(shows_module_member(ring, 2, vectors, ((), q), (one, ())), False)

    def test_odd_values(self):
        ring = (5, 1, "lex")
        x, one = of_texts(ring, "x", "1")
        for value in ODD:
            self.assertIs(shows_module_member(ring, 2, ((x, one), (one, ())), (x, one), value), False, value)


class Errors(unittest.TestCase):

    def functions(self):
        return ((module_basis, ()), (module_normal_form, (None,)), (module_member, (None,)),
                (shows_module_member, (None, None)))

    def test_ranks(self):
        ring = (5, 1, "lex")
        for function, more in self.functions():
            self.assertRaises(BadRing, function, (5, 1, "x"), None, None, *more)
            for rank in (0, 13, -1, True, False, None, "1", "", (), (1,), [1], {}, 10 ** 30):
                with self.assertRaises(BadRank):
                    function(ring, rank, None, *more)
            for rank in (1, 12):
                with self.assertRaises(BadVectors):
                    function(ring, rank, None, *more)

    def test_vectors(self):
        ring = (5, 1, "lex")
        x = of_texts(ring, "x")[0]
        good = (x, ())
        for function, more in self.functions():
            for value in (None, [good], (good,) * 13, 0, True, "x", {}, [], {0: good}):
                with self.assertRaises(BadVectors) as caught:
                    function(ring, 2, value, *more)
                self.assertIsNone(caught.exception.index)
            for bad in (None, (x,), (x, x, x), [x, x], x, (x, None), (None, x), (x, [x]), (x, 0), True, "xx", {}, (),
                        (((1, (1, 0)),), x), (((5, (1,)),), x), (((1, (61,)),), x), ((x, x), x)):
                for index in (0, 1, 11):
                    with self.assertRaises(BadVectors) as caught:
                        function(ring, 2, (good,) * index + (bad,), *more)
                    self.assertEqual(caught.exception.index, index)
                with self.assertRaises(BadVectors) as caught:
                    function(ring, 2, (good, bad, None, bad), *more)
                self.assertEqual(caught.exception.index, 1)
        self.assertEqual(module_basis(ring, 2, (good,) * 12), (good,))

    def test_vector(self):
        ring = (5, 1, "lex")
        x = of_texts(ring, "x")[0]
        for function, more in ((module_normal_form, ()), (module_member, ()), (shows_module_member, (None,))):
            for bad in (None, (x,), (x, x, x), [x, x], x, (x, None), (x, [x]), 0, True, "xx", {}, (),
                        (((1, (1, 0)),), x), (((5, (1,)),), x)):
                with self.assertRaises(BadVector):
                    function(ring, 2, ((x, x),), bad, *more)
                with self.assertRaises(BadVectors):
                    function(ring, 2, ((x, x), 1), bad, *more)


if __name__ == "__main__":
    unittest.main()
