"""Points 30 to 32: complexes, their homology, and ideals without squares."""
import random
import unittest
from itertools import combinations

from idealcore.complexes import complex_of, covers, dual_complex, f_vector, faces, hochster, homology, nonfaces
from idealcore.complexes import polarized, square_betti
from idealcore.errors import BadComplex, BadField, BadInteger, BadMonomials, BadSets, TooMany
from idealcore.monoideals import least_monomials
from idealcore.resolutions import betti_numbers
from tests.lots import ODD
from tests.oracle import rank

OF_FACETS = (faces, f_vector, nonfaces, dual_complex)
OF_SETS = (complex_of, covers)
PLANE = ((0, 1, 3), (0, 1, 4), (0, 2, 3), (0, 2, 5), (0, 4, 5), (1, 2, 4), (1, 2, 5), (1, 3, 5), (2, 3, 4), (3, 4, 5))
TORUS = tuple(sorted(tuple(sorted((k, (k + a) % 7, (k + 3) % 7))) for k in range(7) for a in (1, 2)))


def all_sets(many):
    return [places for size in range(many + 1) for places in combinations(range(many), size)]


def part(one, other):
    return set(one) <= set(other)


def least(sets):
    return tuple(sorted(s for s in set(sets) if not any(t != s and part(t, s) for t in sets)))


def greatest(sets):
    return tuple(sorted(s for s in set(sets) if not any(t != s and part(s, t) for t in sets)))


def faces_of(many, facets):
    return [s for s in all_sets(many) if any(part(s, f) for f in facets)]


def plain_homology(field, many, own_faces):
    levels = [[s for s in own_faces if len(s) == k] for k in range(many + 2)]
    ranks = [0]
    for k in range(1, many + 2):
        rows = [[(-1) ** s.index(v) if part(t, s) and (v := next(iter(set(s) - set(t)))) in s else 0
                 for t in levels[k - 1]] for s in levels[k]]
        ranks.append(rank(field, rows) if rows else 0)
    return tuple(len(levels[k]) - ranks[k] - ranks[k + 1] for k in range(many + 1))


def some_sets(rng, many, most=8):
    pool = all_sets(many)
    return tuple(rng.choice(pool[1:] if rng.random() < 0.95 else pool) for _ in range(rng.randint(0, most)))


def lots(seed, rounds=40, top=6):
    rng = random.Random(seed)
    found = []
    for _ in range(rounds):
        many = rng.randint(1, top)
        found.append((many, some_sets(rng, many)))
    for many in (1, 3, 8):
        found += [(many, ()), (many, ((),)), (many, (tuple(range(many)),)), (many, tuple((k,) for k in range(many)))]
    return found


class Complexes(unittest.TestCase):

    def test_faces_and_numbers(self):
        for many, sets in lots(30):
            facets = greatest(sets)
            found = faces(many, facets)
            self.assertIsInstance(found, list)
            own = faces_of(many, facets)
            self.assertEqual(found, sorted(own, key=lambda s: (len(s), s)))
            numbers = tuple(sum(1 for s in own if len(s) == k) for k in range(max([len(s) + 1 for s in own], default=0)))
            self.assertEqual(f_vector(many, facets), numbers)

    def test_least_nonfaces(self):
        for many, sets in lots(31):
            facets = greatest(sets)
            own = faces_of(many, facets)
            self.assertEqual(nonfaces(many, facets), least([s for s in all_sets(many) if s not in own]))

    def test_there_and_back(self):
        for many, sets in lots(32):
            facets = greatest(sets)
            self.assertEqual(complex_of(many, nonfaces(many, facets)), facets)
            self.assertEqual(nonfaces(many, complex_of(many, sets)), least(sets))
            self.assertEqual(dual_complex(many, dual_complex(many, facets)), facets)

    def test_complexes_of_sets(self):
        for many, sets in lots(33):
            free = [s for s in all_sets(many) if not any(part(t, s) for t in sets)]
            self.assertEqual(complex_of(many, sets), greatest(free))

    def test_covers(self):
        for many, sets in lots(34):
            hitting = [s for s in all_sets(many) if all(set(s) & set(t) for t in sets)]
            found = covers(many, sets)
            self.assertEqual(found, least(hitting))
            if () not in sets:
                self.assertEqual(covers(many, found), least(sets))

    def test_covers_are_complements_of_facets(self):
        for many, sets in lots(35):
            own = tuple(sorted(tuple(k for k in range(many) if k not in facet) for facet in complex_of(many, sets)))
            self.assertEqual(covers(many, sets), own)

    def test_duals(self):
        for many, sets in lots(36):
            facets = greatest(sets)
            own = faces_of(many, facets)
            others = [tuple(k for k in range(many) if k not in s) for s in all_sets(many) if s not in own]
            self.assertEqual(dual_complex(many, facets), greatest(others))

    def test_edges(self):
        for many in (1, 2, 8):
            whole = tuple(range(many))
            self.assertEqual(faces(many, ()), [])
            self.assertEqual(f_vector(many, ()), ())
            self.assertEqual(nonfaces(many, ()), ((),))
            self.assertEqual(dual_complex(many, ()), (whole,))
            self.assertEqual(faces(many, ((),)), [()])
            self.assertEqual(f_vector(many, ((),)), (1,))
            self.assertEqual(nonfaces(many, ((),)), tuple((k,) for k in range(many)))
            self.assertEqual(dual_complex(many, (whole,)), ())
            self.assertEqual(nonfaces(many, (whole,)), ())
            self.assertEqual(len(faces(many, (whole,))), 2 ** many)
            self.assertEqual(complex_of(many, ()), (whole,))
            self.assertEqual(complex_of(many, ((),)), ())
            self.assertEqual(covers(many, ()), ((),))
            self.assertEqual(covers(many, ((),)), ())

    def test_seventy_sets(self):
        fours = tuple(combinations(range(8), 4))
        self.assertEqual(len(fours), 70)
        self.assertEqual(f_vector(8, fours), (1, 8, 28, 56, 70))
        self.assertEqual(nonfaces(8, fours), tuple(combinations(range(8), 5)))
        self.assertEqual(dual_complex(8, fours), tuple(combinations(range(8), 3)))
        self.assertEqual(covers(8, fours), tuple(combinations(range(8), 5)))
        self.assertEqual(complex_of(8, fours), tuple(combinations(range(8), 3)))
        self.assertEqual(complex_of(8, ((0, 1),) * 70), ((0, 2, 3, 4, 5, 6, 7), (1, 2, 3, 4, 5, 6, 7)))


class WrongSets(unittest.TestCase):

    bad = (None, 1, "x", True, [0], [], {}, (1, 0), (0, 0), (3,), (-1,), (True,), (0, True), ((0,),), (0.0,), ("0",))

    def test_sets(self):
        for function in OF_SETS:
            for sets in (None, 1, "x", True, [], [(0,)], {}, ((0,),) * 71, (None,) * 71):
                with self.assertRaises(BadSets) as caught:
                    function(3, sets)
                self.assertIsNone(caught.exception.index)
            for value in self.bad:
                for index in (0, 1, 69):
                    with self.assertRaises(BadSets) as caught:
                        function(3, ((0, 2),) * index + (value, None)[:70 - index])
                    self.assertEqual(caught.exception.index, index)
            function(3, ((0, 2),) * 70)

    def test_complexes(self):
        wrong = [None, 1, "x", True, [], [(0,)], {}, ((1,), (0,)), ((0,), (0,)), ((0,), (0, 1)), ((0, 1), (1,)),
                 ((), (0,)), ((), ()), ((0, 1, 2), (0, 2)), ((0,), 1), ((0, 2), (0, 1)), tuple((0,) for _ in range(71))]
        wrong += [((0, 1), value) for value in self.bad] + [(value,) for value in self.bad]
        fours = tuple(combinations(range(8), 4))
        for function in OF_FACETS:
            for facets in wrong:
                self.assertRaises(BadComplex, function, 3, facets)
            self.assertRaises(BadComplex, function, 8, fours + ((0, 1, 2, 3, 4),))
            self.assertRaises(BadComplex, function, 8, fours[::-1])
            function(8, fours)
        for facets in wrong:
            self.assertRaises(BadComplex, homology, 2, 3, facets)

    def test_numbers_of_vertices(self):
        for function in OF_FACETS + OF_SETS:
            for many in (0, 9, -1, True, False, None, "2", (2,), [2], {}, 2.0, 10 ** 30):
                self.assertRaises(BadInteger, function, many, ())
                self.assertRaises(BadInteger, function, many, None)

    def test_the_order_of_errors(self):
        for function, error in ((homology, BadComplex), (hochster, BadSets), (square_betti, BadSets)):
            for field in (1, 4, 33, 37, -2, True, None, "2", (2,), [2], {}):
                self.assertRaises(BadField, function, field, 3, ())
                self.assertRaises(BadField, function, field, 0, None)
            for many in (0, 9, True, None, "2", [2]):
                self.assertRaises(BadInteger, function, 2, many, ())
                self.assertRaises(BadInteger, function, 2, many, None)
            for value in ([], None, 7, ((1, 0),), ((3,),)):
                self.assertRaises(error, function, 0, 3, value)
        for index in (0, 1, 69):
            with self.assertRaises(BadSets) as caught:
                hochster(2, 3, ((0,),) * index + (5,))
            self.assertEqual(caught.exception.index, index)
        for sets in (((0,),) * 71, None):
            with self.assertRaises(BadSets) as caught:
                square_betti(2, 3, sets)
            self.assertIsNone(caught.exception.index)

    def test_odd_values(self):
        for function in OF_FACETS + OF_SETS:
            for value in ODD:
                try:
                    function(3, value)
                except (BadComplex, BadSets):
                    pass


class Homology(unittest.TestCase):

    def test_against_elimination(self):
        for many, sets in lots(37, 30):
            facets = greatest(sets)
            for field in (0, 2, 3):
                found = homology(field, many, facets)
                self.assertIsInstance(found, tuple)
                self.assertEqual(found, plain_homology(field, many, faces_of(many, facets)))

    def test_the_sum_by_signs(self):
        for many, sets in lots(38, 60, 8):
            facets = greatest(sets)
            signs = sum((-1) ** k * number for k, number in enumerate(f_vector(many, facets)))
            for field in (0, 2, 31):
                found = homology(field, many, facets)
                self.assertEqual(len(found), many + 1)
                self.assertEqual(sum((-1) ** k * number for k, number in enumerate(found)), signs)

    def test_spheres_cones_and_points(self):
        for many in range(1, 9):
            whole = tuple(range(many))
            rim = tuple(combinations(range(many), many - 1))
            for field in (0, 2, 7):
                self.assertEqual(homology(field, many, (whole,)), (0,) * (many + 1))
                self.assertEqual(homology(field, many, rim), tuple(1 if k == many - 1 else 0 for k in range(many + 1)))
                self.assertEqual(homology(field, many, tuple((k,) for k in range(many))),
                                 (0, many - 1) + (0,) * (many - 1))
                self.assertEqual(homology(field, many, ()), (0,) * (many + 1))
                self.assertEqual(homology(field, many, ((),)), (1,) + (0,) * many)
        for field in (0, 2, 7):
            cone = tuple(edge + (7,) for edge in combinations(range(5), 2))
            self.assertEqual(homology(field, 8, cone), (0,) * 9)

    def test_a_projective_plane_and_a_torus(self):
        self.assertEqual(homology(0, 6, PLANE), (0, 0, 0, 0, 0, 0, 0))
        self.assertEqual(homology(2, 6, PLANE), (0, 0, 1, 1, 0, 0, 0))
        self.assertEqual(homology(3, 6, PLANE), (0, 0, 0, 0, 0, 0, 0))
        for field in (0, 2, 3):
            self.assertEqual(homology(field, 7, TORUS), (0, 0, 2, 1, 0, 0, 0, 0))


class BettiNumbers(unittest.TestCase):

    def polys(self, field, many, sets):
        number = 1 if field else (1, 1)
        return tuple(((number, tuple(1 if k in s else 0 for k in range(many))),) for s in sets)

    def test_against_resolutions(self):
        for many, sets in lots(39, 40, 4):
            if many > 4:
                continue
            for field in (0, 2, 5):
                ring = (field, many, "degrevlex")
                expected = betti_numbers(ring, self.polys(field, many, sets))
                found = square_betti(field, many, sets)
                self.assertIsInstance(found, list)
                self.assertEqual(found, expected)

    def test_hochster_by_homology(self):
        for many, sets in lots(40, 20, 5):
            if many > 5:
                continue
            for field in (0, 2):
                free = [s for s in all_sets(many) if not any(part(t, s) for t in sets)]
                expected = []
                for places in all_sets(many):
                    told = plain_homology(field, many, [s for s in free if part(s, places)])
                    expected += [(len(places) - k, places, n) for k, n in enumerate(told) if n]
                found = hochster(field, many, sets)
                self.assertIsInstance(found, list)
                self.assertEqual(found, sorted(expected))

    def test_sums(self):
        for many, sets in lots(41, 20, 7):
            sums = {}
            for step, places, number in hochster(3, many, sets):
                self.assertGreater(number, 0)
                sums[step, len(places)] = sums.get((step, len(places)), 0) + number
            self.assertEqual(square_betti(3, many, sets), [key + (sums[key],) for key in sorted(sums)])

    def test_known(self):
        self.assertEqual(hochster(0, 2, ()), [(0, (), 1)])
        self.assertEqual(hochster(0, 2, ((),)), [])
        self.assertEqual(square_betti(0, 2, ((), (0,))), [])
        self.assertEqual(square_betti(0, 8, tuple(combinations(range(8), 5))),
                         [(0, 0, 1), (1, 5, 56), (2, 6, 140), (3, 7, 120), (4, 8, 35)])
        self.assertEqual(square_betti(2, 8, tuple((k,) for k in range(8))),
                         [(0, 0, 1), (1, 1, 8), (2, 2, 28), (3, 3, 56), (4, 4, 70), (5, 5, 56), (6, 6, 28), (7, 7, 8),
                          (8, 8, 1)])
        sets = nonfaces(6, PLANE)
        self.assertEqual(square_betti(0, 6, sets), [(0, 0, 1), (1, 3, 10), (2, 4, 15), (3, 5, 6)])
        self.assertEqual(square_betti(2, 6, sets), [(0, 0, 1), (1, 3, 10), (2, 4, 15), (3, 5, 6), (3, 6, 1), (4, 6, 1)])


class Polarized(unittest.TestCase):

    def test_by_the_words(self):
        rng = random.Random(42)
        for _ in range(100):
            many = rng.randint(1, 8)
            monos = tuple(tuple(rng.choice((0, 0, 1, rng.randint(0, 3))) for _ in range(many))
                          for _ in range(rng.randint(0, 4)))
            least_ones = least_monomials(many, monos)
            highest = [max([m[k] for m in least_ones], default=0) for k in range(many)]
            if sum(highest) > 8:
                with self.assertRaises(TooMany) as caught:
                    polarized(many, monos)
                self.assertEqual(caught.exception.most, 8)
                continue
            names = [(k, j) for k in range(many) for j in range(highest[k])]
            sets = tuple(tuple(i for i, (k, j) in enumerate(names) if j < m[k]) for m in least_ones)
            self.assertEqual(polarized(many, monos), (max(1, len(names)), sets))

    def test_the_same_betti_numbers(self):
        rng = random.Random(43)
        checked = 0
        while checked < 25:
            many = rng.randint(1, 4)
            monos = tuple(tuple(rng.randint(0, 3) for _ in range(many)) for _ in range(rng.randint(0, 4)))
            try:
                number, sets = polarized(many, monos)
            except TooMany:
                continue
            checked += 1
            for field in (0, 2):
                one = 1 if field else (1, 1)
                told = betti_numbers((field, many, "lex"), tuple(((one, m),) for m in monos))
                self.assertEqual(square_betti(field, number, sets), told)

    def test_edges(self):
        self.assertEqual(polarized(3, ()), (1, ()))
        self.assertEqual(polarized(3, ((0, 0, 0), (1, 1, 1))), (1, ((),)))
        self.assertEqual(polarized(1, ((8,),)), (8, (tuple(range(8)),)))
        self.assertEqual(polarized(8, ((1,) * 8,)), (8, (tuple(range(8)),)))
        self.assertEqual(polarized(2, ((8, 8), (1, 0))), (1, ((0,),)))
        self.assertEqual(polarized(3, ((0, 2, 0), (1, 1, 0), (0, 0, 3))), (6, ((3, 4, 5), (1, 2), (0, 1))))

    def test_too_many_comes_behind_the_others(self):
        self.assertRaises(TooMany, polarized, 2, ((8, 1),))
        self.assertRaises(TooMany, polarized, 3, ((3, 0, 0), (0, 3, 0), (0, 0, 3)))
        self.assertRaises(BadInteger, polarized, 9, ((8,) * 9,))
        for monos, index in ((((8, 8), (9, 0)), 1), (((8, 8),) * 13, None), ([(8, 8)], None)):
            with self.assertRaises(BadMonomials) as caught:
                polarized(2, monos)
            self.assertEqual(caught.exception.index, index)


if __name__ == "__main__":
    unittest.main()
