"""Point 18: syzygies of polynomials and of vectors, and those that S-polynomials tell."""
import random
import unittest
from itertools import combinations

from idealcore.bases import basis
from idealcore.division import divide
from idealcore.errors import BadPolynomials, BadRank, BadRing, BadVectors, NotBasis
from idealcore.polys import minus, scaled, times
from idealcore.resultants import common_divisor
from idealcore.syzygies import s_syzygies, syzygies, vector_syzygies
from idealcore.vectors import module_basis, module_member
from tests import oracle, vector_oracle
from tests.lots import even_lot, lot, of_texts, rings
from tests.oracle import from_dict, random_polynomial, to_dict
from tests.test_vectors import RANKS, vector_lot


def zeros(many):
    return ((),) * many


def as_vectors(polys):
    return tuple((p,) for p in polys)


class Syzygies(unittest.TestCase):

    def check(self, ring, rank, vectors, found):
        """That they are a reduced basis of syzygies that hold those that each two vectors and more tell."""
        self.assertIsInstance(found, tuple)
        self.assertTrue(vector_oracle.is_reduced_basis(ring, found))
        for syzygy in found:
            self.assertEqual(len(syzygy), len(vectors))
            self.assertEqual(vector_oracle.sum_of_products(ring, rank, syzygy, vectors), zeros(rank))

    def test_sums_are_zero(self):
        for ring in rings(3):
            rng = random.Random(repr(ring))
            for polys in (lot(rng, ring, top=2), lot(rng, ring, terms=2), even_lot(rng, ring)):
                self.check(ring, 1, as_vectors(polys), syzygies(ring, polys))

    def test_they_generate_all(self):
        # The syzygies of a basis, by F.-O. Schreyer, carried back to the generators, and what the generators leave
        # of themselves, generate all syzygies.
        for ring in rings(3, (0, 2, 5)):
            rng = random.Random(repr(ring))
            polys = lot(rng, ring, most=2, top=2) + (random_polynomial(rng, ring, 1, 2),)
            found = syzygies(ring, polys)
            for syzygy in self.all_syzygies(ring, polys):
                self.assertTrue(vector_oracle.is_in(ring, syzygy, found))

    def all_syzygies(self, ring, polys):
        some = basis(ring, polys)
        if len(some) > 12:
            return []
        ahead = [module_member(ring, 1, as_vectors(polys), (p,)) for p in some]
        told = [vector_oracle.sum_of_products(ring, len(polys), syzygy, ahead) for syzygy in s_syzygies(ring, some)]
        one = of_texts(ring, "1")[0]
        for k, p in enumerate(polys):
            row, _ = divide(ring, p, some)
            back = vector_oracle.sum_of_products(ring, len(polys), row, ahead)
            unit = tuple(one if i == k else () for i in range(len(polys)))
            told.append(tuple(minus(ring, a, b) for a, b in zip(unit, back)))
        return told

    def test_two_without_a_common_factor(self):
        for ring in rings(3, (0, 2, 5)):
            rng = random.Random(repr(ring))
            p, q = random_polynomial(rng, ring, 2, 3), random_polynomial(rng, ring, 2, 3)
            if p and q:
                common = common_divisor(ring, p, q)
                p, q = divide(ring, p, (common,))[0][0], divide(ring, q, (common,))[0][0]
                told = (q, minus(ring, (), p))
                self.assertEqual(syzygies(ring, (p, q)), module_basis(ring, 2, (told,)))
                more = (times(ring, p, common), times(ring, q, common))
                self.assertEqual(syzygies(ring, more), module_basis(ring, 2, (told,)))

    def test_monomials(self):
        # D. Taylor: the quotients of the least common multiples of each two generate all syzygies.
        for ring in rings(4, (0, 3)):
            rng = random.Random(repr(ring))
            monomials = [tuple(rng.randint(0, 3) for _ in range(ring[1])) for _ in range(4)]
            number, minus_one = (1, ring[0] - 1) if ring[0] else ((1, 1), (-1, 1))
            told = []
            for i, j in combinations(range(4), 2):
                common = tuple(max(a, b) for a, b in zip(monomials[i], monomials[j]))
                vector = [(), (), (), ()]
                for k, sign in ((i, number), (j, minus_one)):
                    vector[k] = ((sign, tuple(a - b for a, b in zip(common, monomials[k]))),)
                told.append(tuple(vector))
            polys = tuple(((number, m),) for m in monomials)
            self.assertEqual(syzygies(ring, polys), module_basis(ring, 4, tuple(told)))

    def test_known(self):
        ring = (0, 3, "lex")
        x, y, z = of_texts(ring, "x", "y", "z")
        neg = [minus(ring, (), p) for p in (x, y, z)]
        self.assertEqual(syzygies(ring, (x, y, z)), module_basis(ring, 3, (
            (y, neg[0], ()), (z, (), neg[0]), ((), z, neg[1]))))
        self.assertEqual(len(syzygies(ring, (x, y, z))), 3)
        self.assertEqual(syzygies(ring, (x, x)), (of_texts(ring, "1", "-1"),))

    def test_edges(self):
        for ring in ((0, 2, "lex"), (5, 1, "degrevlex")):
            one, x = of_texts(ring, "1", "x")
            self.assertEqual(syzygies(ring, ()), ())
            self.assertEqual(syzygies(ring, (x,)), ())
            self.assertEqual(syzygies(ring, (one,)), ())
            self.assertEqual(syzygies(ring, ((),)), ((one,),))
            self.assertEqual(syzygies(ring, ((), ())), (((), one), (one, ())))
            self.assertEqual(syzygies(ring, (x, (), x)), (((), one, ()), (one, (), minus(ring, (), one))))
            self.assertEqual(len(syzygies(ring, (x,) * 12)), 11)
            self.assertEqual(len(syzygies(ring, ((),) * 12)), 12)
            for rank in (1, 2, 12):
                self.assertEqual(vector_syzygies(ring, rank, ()), ())
                self.assertEqual(vector_syzygies(ring, rank, (zeros(rank),)), ((one,),))
                self.assertEqual(vector_syzygies(ring, rank, ((x,) * rank,)), ())
                self.assertEqual(len(vector_syzygies(ring, rank, ((x,) * rank,) * 12)), 11)
                self.assertEqual(len(vector_syzygies(ring, rank, (zeros(rank),) * 12)), 12)

    def test_vectors(self):
        for ring in rings(3, (0, 2, 5)):
            for rank in RANKS:
                rng = random.Random(repr((ring, rank)))
                vectors = vector_lot(rng, ring, rank, most=4)
                self.check(ring, rank, vectors, vector_syzygies(ring, rank, vectors))

    def test_planted_syzygies_of_vectors(self):
        for ring in rings(2, (0, 3)):
            for rank in RANKS:
                rng = random.Random(repr((ring, rank)))
                vectors = vector_lot(rng, ring, rank, most=2)
                factors = [random_polynomial(rng, ring, 2, 2) for _ in vectors]
                last = vector_oracle.sum_of_products(ring, rank, factors, vectors)
                planted = tuple(factors) + (scaled(ring, of_texts(ring, "1")[0], ring[0] - 1 if ring[0] else (-1, 1)),)
                found = vector_syzygies(ring, rank, vectors + (last,))
                self.check(ring, rank, vectors + (last,), found)
                self.assertTrue(vector_oracle.is_in(ring, planted, found))
                for syzygy in vector_syzygies(ring, rank, vectors):
                    self.assertTrue(vector_oracle.is_in(ring, syzygy + ((),), found))

    def test_rank_one_is_as_polynomials(self):
        for ring in rings(3, (0, 5)):
            polys = lot(random.Random(repr(ring)), ring, top=2)
            self.assertEqual(vector_syzygies(ring, 1, as_vectors(polys)), syzygies(ring, polys))

    def test_syzygies_of_units(self):
        ring = (7, 2, "deglex")
        one, x, y = of_texts(ring, "1", "x", "y")
        units = ((one, ()), ((), one))
        self.assertEqual(vector_syzygies(ring, 2, units), ())
        self.assertEqual(vector_syzygies(ring, 2, units + ((x, y),)), (of_texts(ring, "x", "y", "-1"),))

    def test_which_error_comes_first(self):
        ring = (5, 1, "lex")
        x = of_texts(ring, "x")[0]
        for function in (syzygies, s_syzygies):
            self.assertRaises(BadRing, function, (5, 1), None)
            for value, index in ((None, None), ((x,) * 13, None), ([x], None), ((x, None), 1), ((x, (), x + x), 2),
                                 ({}, None), (True, None), ((True,), 0), (((1, (1, 0)),), 0)):
                with self.assertRaises(BadPolynomials) as caught:
                    function(ring, value)
                self.assertEqual(caught.exception.index, index)
        self.assertRaises(BadRing, vector_syzygies, (5, 1), None, None)
        for rank in (0, 13, True, None, "1", (), [1]):
            self.assertRaises(BadRank, vector_syzygies, ring, rank, None)
        for value, index in ((None, None), (((x, x),) * 13, None), ([(x, x)], None), (((x, x), (x,)), 1), ((x,), 0),
                             (((x, x), (x, x), [x, x]), 2), ({}, None)):
            with self.assertRaises(BadVectors) as caught:
                vector_syzygies(ring, 2, value)
            self.assertEqual(caught.exception.index, index)


class OfPairs(unittest.TestCase):

    def expected(self, ring, polys, i, j):
        """The syzygy of a pair term by term, by plain arithmetic."""
        field = ring[0]
        row, left = oracle.divide(ring, oracle.s_polynomial(ring, polys[i], polys[j]), polys)
        self.assertEqual(left, ())
        places = [oracle.add(field, {}, to_dict(field, p), -1) for p in row]
        common = tuple(max(a, b) for a, b in zip(polys[i][0][1], polys[j][0][1]))
        for k, sign in ((i, 1), (j, -1)):
            number, monomial = polys[k][0]
            shift = tuple(a - b for a, b in zip(common, monomial))
            factor = oracle.inverse(field, oracle.to_number(field, number))
            places[k] = oracle.add(field, places[k], {shift: factor}, sign)
        return tuple(from_dict(ring, table) for table in places)

    def test_term_by_term(self):
        for ring in rings(3):
            rng = random.Random(repr(ring))
            for polys in (basis(ring, lot(rng, ring, top=2)), basis(ring, lot(rng, ring, most=2, top=2)) * 2):
                if len(polys) > 12:
                    continue
                polys = tuple(scaled(ring, p, rng.randint(1, ring[0] - 1) if ring[0] else (rng.choice((-2, 3, 1)), 5))
                              for p in polys)
                found = s_syzygies(ring, polys)
                self.assertIsInstance(found, list)
                self.assertEqual(found, [self.expected(ring, polys, i, j)
                                         for i, j in combinations(range(len(polys)), 2)])
                for syzygy in found:
                    self.assertEqual(oracle.products_sum(ring, syzygy, polys), ())

    def test_they_generate_all_syzygies(self):
        for ring in rings(3, (0, 5)):
            polys = basis(ring, lot(random.Random(repr(ring)), ring, most=2, top=2))
            told = tuple(s_syzygies(ring, polys)) if len(polys) < 6 else ()
            if 0 < len(told) <= 12:
                self.assertEqual(module_basis(ring, len(polys), told), syzygies(ring, polys))

    def test_edges(self):
        ring = (7, 2, "lex")
        one, x, two = of_texts(ring, "1", "x", "2*x")
        self.assertEqual(s_syzygies(ring, ()), [])
        self.assertEqual(s_syzygies(ring, (x,)), [])
        self.assertEqual(s_syzygies(ring, (x, x)), [of_texts(ring, "1", "-1")])
        self.assertEqual(s_syzygies(ring, (two, x)), [of_texts(ring, "1/2", "-1")])
        self.assertEqual(s_syzygies(ring, (one, x)), [of_texts(ring, "x", "-1")])
        self.assertEqual(len(s_syzygies(ring, (x,) * 12)), 66)
        self.assertEqual(s_syzygies(ring, of_texts(ring, "y^3-1", "x-y^2")), [of_texts(ring, "x-y^2", "1-y^3")])

    def test_what_is_no_basis(self):
        for ring in rings(2, (0, 5), least=2):
            p, q, x = of_texts(ring, "x^2-y", "x*y-1", "x")
            for polys in ((p, q), ((),), (x, ()), ((), x), ((), ()), (x, p, ()), (x, of_texts(ring, "x-1")[0])):
                with self.assertRaises(NotBasis):
                    s_syzygies(ring, polys)
            with self.assertRaises(BadPolynomials):
                s_syzygies(ring, (p, q, None))
            found = basis(ring, (p, q))
            self.assertEqual(len(s_syzygies(ring, found)), len(found) * (len(found) - 1) // 2)


if __name__ == "__main__":
    unittest.main()
