"""Points 36 and 37: lattices, fibres, costs and moves."""
import random
import unittest
from itertools import product

from idealcore.bases import basis
from idealcore.errors import BadCosts, BadMatrix, BadMonomial, BadMoves, BadRing, OtherTotals, TooMany
from idealcore.lattices import cheapest, fibre, is_joined, lattice_ideal, unjoined, walk
from idealcore.membership import normal_form
from tests.oracle import degrevlex_greater, orders_of


def totals(matrix, some):
    return tuple(sum(a * b for a, b in zip(row, some)) for row in matrix)


def some_matrix(rng, many=None, rows=None, top=4):
    many = many or rng.randint(1, 4)
    rows = rows or rng.randint(1, 3)
    return (tuple(rng.randint(1, top) for _ in range(many)),) + tuple(
        tuple(rng.randint(0, top) for _ in range(many)) for _ in range(rows - 1))


def plain_fibre(matrix, some):
    """All tuples with the totals of a solution, by counting up each place."""
    wanted = totals(matrix, some)
    many = len(some)
    found = []
    for ahead in product(*[range(wanted[0] // matrix[0][k] + 1) for k in range(many - 1)]):
        left = wanted[0] - sum(a * b for a, b in zip(matrix[0], ahead))
        if left >= 0 and left % matrix[0][-1] == 0:
            row = ahead + (left // matrix[0][-1],)
            if totals(matrix, row) == wanted:
                found.append(row)
    return sorted(found)


def steps_from(moves, some):
    found = []
    for move in moves:
        for sign in (1, -1):
            other = tuple(a + sign * b for a, b in zip(some, move))
            if min(other) >= 0:
                found.append(other)
    return found


def distances(moves, some):
    """How many moves lead from a tuple to each other one that they join with it."""
    found = {some: 0}
    edge = [some]
    while edge:
        wider = []
        for row in edge:
            for other in steps_from(moves, row):
                if other not in found:
                    found[other] = found[row] + 1
                    wider.append(other)
        edge = wider
    return found


def some_moves(rng, matrix, most=4):
    """Differences of tuples with the same totals."""
    many = len(matrix[0])
    found = []
    for _ in range(rng.randint(0, most)):
        lot = plain_fibre(matrix, tuple(rng.randint(0, 2) for _ in range(many)))
        one, other = rng.choice(lot), rng.choice(lot)
        found.append(tuple(a - b for a, b in zip(one, other)))
    return tuple(move for move in found if max(map(abs, move)) <= 20)


def matrices(seed, rounds, top=4):
    rng = random.Random(seed)
    found = [some_matrix(rng, top=top) for _ in range(rounds)]
    return found + [((1, 1, 1, 1),), ((2, 2, 2),), ((1, 1, 2, 2), (0, 0, 0, 0)), ((3, 1, 2), (1, 0, 0), (0, 0, 0)),
                    ((1, 1, 1, 1), (0, 1, 2, 3)), ((1, 2, 3), (1, 2, 3), (1, 2, 3)), ((5,),), ((1, 1), (0, 1))]


class LatticeIdeals(unittest.TestCase):

    def test_against_all_tuples_with_the_same_totals(self):
        for matrix in matrices(36, 12):
            many = len(matrix[0])
            for field in (0, 2, 31):
                for order in orders_of(many)[:4]:
                    ring = (field, many, order)
                    found = lattice_ideal(ring, matrix)
                    self.assertIsInstance(found, tuple)
                    for p in found:
                        self.assertEqual(len(p), 2)
                        self.assertEqual(totals(matrix, p[0][1]), totals(matrix, p[1][1]))
                    if len(found) > 12:
                        continue
                    self.assertEqual(basis(ring, found), found)
                    self.check_monomials(ring, found, matrix)

    def check_monomials(self, ring, found, matrix):
        """Two monomials have the same normal form exactly if they have the same totals."""
        one = (1, 1) if ring[0] == 0 else 1
        forms = {}
        for some in product(range(4 if ring[1] < 4 else 3), repeat=ring[1]):
            form = normal_form(ring, found, ((one, some),))
            self.assertEqual(len(form), 1)
            self.assertEqual(totals(matrix, form[0][1]), totals(matrix, some))
            self.assertEqual(forms.setdefault(totals(matrix, some), form), form)

    def test_known(self):
        self.assertEqual(lattice_ideal((5, 2, "lex"), ((1, 1),)), (((1, (1, 0)), (4, (0, 1))),))
        self.assertEqual(lattice_ideal((0, 2, "lex"), ((8, 7),)), ((((1, 1), (7, 0)), ((-1, 1), (0, 8))),))
        self.assertEqual(lattice_ideal((0, 2, "lex"), ((8, 6),)), ((((1, 1), (3, 0)), ((-1, 1), (0, 4))),))
        self.assertEqual(lattice_ideal((5, 2, "lex"), ((1, 1), (1, 0))), ())
        self.assertEqual(lattice_ideal((5, 1, "lex"), ((3,),)), ())
        self.assertEqual(lattice_ideal((2, 4, "degrevlex"), ((1, 1, 1, 1), (0, 1, 2, 3))),
                         (((1, (0, 0, 2, 0)), (1, (0, 1, 0, 1))), ((1, (0, 1, 1, 0)), (1, (1, 0, 0, 1))),
                          ((1, (0, 2, 0, 0)), (1, (1, 0, 1, 0)))))

    def test_great_matrices(self):
        rng = random.Random(37)
        for _ in range(60):
            matrix = some_matrix(rng, 4, rng.randint(1, 3), 8)
            for ring in ((0, 4, "lex"), (2, 4, "degrevlex"), (7, 4, ("weights", (1, 20, 7, 3)))):
                found = lattice_ideal(ring, matrix)
                heads = [p[0][1] for p in found]
                for p in found:
                    self.assertEqual(totals(matrix, p[0][1]), totals(matrix, p[1][1]))
                    # No variable and no other leading monomial divides both monomials.
                    self.assertEqual([min(a, b) for a, b in zip(p[0][1], p[1][1])], [0] * 4)
                some = tuple(rng.randint(0, 3) for _ in range(4))
                left = [row for row in plain_fibre(matrix, some)
                        if not any(all(a <= b for a, b in zip(head, row)) for head in heads)]
                self.assertEqual(len(left), 1)


class Fibres(unittest.TestCase):

    def test_against_all_tuples(self):
        rng = random.Random(38)
        for matrix in matrices(39, 40, 8):
            some = tuple(rng.randint(0, 6) for _ in matrix[0])
            own = plain_fibre(matrix, some)
            if len(own) > 2000:
                self.assertRaises(TooMany, fibre, matrix, some)
                continue
            found = fibre(matrix, some)
            self.assertIsInstance(found, list)
            self.assertEqual(found, own)
            self.assertIn(some, found)

    def test_two_thousand(self):
        # The tuples with a total t of three columns of 1 are (t + 1) * (t + 2) / 2.
        self.assertEqual(len(fibre(((1, 1, 1), (0, 0, 0)), (20, 20, 20))), 1891)
        self.assertEqual(len(fibre(((1, 1, 1),), (20, 20, 20))), 1891)
        for some in ((20, 20, 20, 20), (20, 20, 20, 0), (0, 0, 20, 2)):
            with self.assertRaises(TooMany) as caught:
                fibre(((1, 1, 1, 1),), some)
            self.assertEqual(caught.exception.most, 2000)
        for matrix, some in ((((1, 3, 6, 8),), (2, 1, 7, 8)), (((1, 3, 6, 8), (1, 3, 6, 8)), (2, 1, 7, 8))):
            found = fibre(matrix, some)
            self.assertEqual(len(found), 2000)
            self.assertEqual(found, sorted(set(found)))
            self.assertTrue(all(totals(matrix, row) == totals(matrix, some) for row in found))
        for matrix, some in ((((3, 5, 5, 6),), (2, 8, 0, 20)), (((3, 3, 7, 8),), (2, 0, 2, 19))):
            self.assertRaises(TooMany, fibre, matrix, some)
            self.assertRaises(TooMany, walk, matrix, (), some, some)
            self.assertIs(is_joined(matrix, (), some, some), True)
        self.assertEqual(walk(((1, 3, 6, 8),), (), (2, 1, 7, 8), (2, 1, 7, 8)), ((2, 1, 7, 8),))

    def test_known(self):
        self.assertEqual(fibre(((5,),), (20,)), [(20,)])
        self.assertEqual(fibre(((1, 1),), (0, 0)), [(0, 0)])
        self.assertEqual(fibre(((1, 1), (0, 1)), (3, 4)), [(3, 4)])
        self.assertEqual(fibre(((2, 3),), (3, 0)), [(0, 2), (3, 0)])


class Costs(unittest.TestCase):

    def plain_cheapest(self, lot, costs):
        best = None
        for row in lot:
            price = sum(a * b for a, b in zip(row, costs))
            if best is None or price < best[0] or price == best[0] and degrevlex_greater(best[1], row):
                best = (price, row)
        return best[1]

    def test_against_the_whole_fibre(self):
        rng = random.Random(40)
        for matrix in matrices(41, 60, 6):
            some = tuple(rng.randint(0, 5) for _ in matrix[0])
            lot = plain_fibre(matrix, some)
            for costs in ((1,) * len(some), matrix[0], tuple(rng.randint(1, 20) for _ in some),
                          tuple(rng.randint(1, 2) for _ in some)):
                self.assertEqual(cheapest(matrix, costs, some), self.plain_cheapest(lot, costs))

    def test_more_than_two_thousand(self):
        for matrix, some in ((((1, 1, 1, 1),), (20, 10, 0, 0)), (((1, 1, 2, 3),), (20, 10, 10, 5)),
                             (((3, 5, 5, 6),), (2, 8, 0, 20)), (((1, 1, 1, 8),), (20, 9, 3, 2))):
            lot = plain_fibre(matrix, some)
            self.assertGreater(len(lot), 2000)
            for costs in ((1,) * len(some), matrix[0], (3, 2, 5, 7)[:len(some)], (20, 20, 20, 20)[:len(some)]):
                self.assertEqual(cheapest(matrix, costs, some), self.plain_cheapest(lot, costs))

    def test_by_normal_forms(self):
        rng = random.Random(42)
        for matrix in matrices(43, 20, 3):
            some = tuple(rng.randint(0, 4) for _ in matrix[0])
            costs = tuple(rng.randint(1, 20) for _ in some)
            ring = (2, len(some), ("weights", costs))
            ideal = lattice_ideal(ring, matrix)
            if len(ideal) <= 12:
                self.assertEqual(normal_form(ring, ideal, ((1, some),)), ((1, cheapest(matrix, costs, some)),))

    def test_ties(self):
        # All tuples cost the same: the least in "degrevlex" has the least degree, then the most at the last place.
        self.assertEqual(cheapest(((1, 1, 1),), (1, 1, 1), (2, 0, 0)), (0, 0, 2))
        self.assertEqual(cheapest(((1, 2, 3),), (1, 2, 3), (6, 0, 0)), (0, 0, 2))
        self.assertEqual(cheapest(((1, 2, 3),), (1, 2, 3), (4, 0, 0)), (1, 0, 1))
        self.assertEqual(cheapest(((2, 2, 2, 2),), (7, 7, 7, 7), (20, 20, 20, 20)), (0, 0, 0, 80))


class Walks(unittest.TestCase):

    def check_walk(self, moves, one, other, row, length):
        self.assertIsInstance(row, tuple)
        self.assertEqual((row[0], row[-1]), (one, other))
        self.assertEqual(len(row), length)
        for k in range(len(row) - 1):
            self.assertIn(row[k + 1], steps_from(moves, row[k]))

    def test_by_all_steps(self):
        rng = random.Random(44)
        told = {True: 0, False: 0}
        for matrix in matrices(45, 60):
            moves = some_moves(rng, matrix)
            one = tuple(rng.randint(0, 3) for _ in matrix[0])
            lot = [row for row in plain_fibre(matrix, one) if max(row) <= 20]
            ways = distances(moves, one)
            for other in rng.sample(lot, min(6, len(lot))):
                self.assertIs(is_joined(matrix, moves, one, other), other in ways)
                self.assertIs(is_joined(matrix, moves, other, one), other in ways)
                row = walk(matrix, moves, one, other)
                self.assertEqual(row is not None, other in ways)
                if row is not None:
                    self.check_walk(moves, one, other, row, ways[other] + 1)
                told[other in ways] += 1
        self.assertTrue(all(number > 30 for number in told.values()))

    def test_one_and_other_the_same(self):
        for moves in ((), ((0, 0),), ((3, -2),)):
            self.assertIs(is_joined(((2, 3),), moves, (3, 0), (3, 0)), True)
            self.assertEqual(walk(((2, 3),), moves, (3, 0), (3, 0)), ((3, 0),))

    def test_no_moves_and_moves_of_zeros(self):
        for moves in ((), ((0, 0),), ((0, 0), (0, 0))):
            self.assertIs(is_joined(((2, 3),), moves, (3, 0), (0, 2)), False)
            self.assertIsNone(walk(((2, 3),), moves, (3, 0), (0, 2)))

    def test_more_than_two_thousand(self):
        matrix, moves = ((1, 1, 1, 1),), ((1, -1, 0, 0), (0, 1, -1, 0), (0, 0, 1, -1))
        self.assertIs(is_joined(matrix, moves, (20, 20, 20, 0), (0, 20, 20, 20)), True)
        self.assertIs(is_joined(matrix, moves[:2], (20, 20, 20, 0), (0, 20, 20, 20)), False)
        with self.assertRaises(TooMany) as caught:
            walk(matrix, moves, (20, 20, 20, 0), (0, 20, 20, 20))
        self.assertEqual(caught.exception.most, 2000)
        self.assertRaises(TooMany, walk, matrix, moves, (20, 20, 20, 0), (20, 20, 20, 0))
        self.assertRaises(OtherTotals, walk, matrix, moves, (20, 20, 20, 0), (20, 20, 20, 1))

    def test_tuples_beyond_twenty(self):
        # The only ways from one to the other lead over (25, 0) or (0, 25).
        moves = ((15, -15), (10, -10))
        self.assertIs(is_joined(((1, 1),), moves, (10, 15), (15, 10)), True)
        self.check_walk(moves, (10, 15), (15, 10), walk(((1, 1),), moves, (10, 15), (15, 10)), 3)
        self.assertEqual(walk(((1, 4),), ((20, -5), (16, -4)), (4, 4), (0, 5)), ((4, 4), (20, 0), (0, 5)))
        self.assertEqual(walk(((1, 8),), ((16, -2), (-8, 1)), (12, 1), (20, 0)), ((12, 1), (20, 0)))


class Unjoined(unittest.TestCase):

    def check_pair(self, matrix, moves, pair):
        self.assertIsInstance(pair, tuple)
        one, other = pair
        self.assertTrue(all(isinstance(row, tuple) and min(row) >= 0 for row in pair))
        self.assertEqual(totals(matrix, one), totals(matrix, other))
        self.assertNotIn(other, distances(moves, one))

    def test_moves_of_bases_join_all(self):
        for matrix in matrices(46, 40, 3):
            moves = tuple(tuple(a - b for a, b in zip(p[0][1], p[1][1]))
                          for p in lattice_ideal((2, len(matrix[0]), "deglex"), matrix))
            if len(moves) <= 12 and all(max(map(abs, move)) <= 20 for move in moves):
                self.assertIsNone(unjoined(matrix, moves))

    def test_some_moves(self):
        rng = random.Random(47)
        told = {True: 0, False: 0}
        for matrix in matrices(48, 80, 3):
            moves = some_moves(rng, matrix, 6)
            found = unjoined(matrix, moves)
            told[found is None] += 1
            if found is not None:
                self.check_pair(matrix, moves, found)
                continue
            for _ in range(4):
                lot = plain_fibre(matrix, tuple(rng.randint(0, 3) for _ in matrix[0]))
                self.assertEqual(sorted(distances(moves, lot[0])), lot)
        self.assertTrue(all(number > 10 for number in told.values()))

    def test_moves_that_join_only_great_tuples(self):
        # These moves have the right sums, but small tuples are left alone.
        matrix = ((1, 1, 1, 1), (0, 1, 2, 3))
        moves = ((1, -2, 1, 0), (0, 1, -2, 1))
        self.check_pair(matrix, moves, unjoined(matrix, moves))
        self.assertIsNone(unjoined(matrix, moves + ((1, -1, -1, 1),)))
        self.assertIsNone(unjoined(((2, 3),), ((3, -2),)))
        self.check_pair(((2, 3),), ((6, -4),), unjoined(((2, 3),), ((6, -4),)))
        self.check_pair(((2, 3),), (), unjoined(((2, 3),), ()))

    def test_nothing_to_join(self):
        self.assertIsNone(unjoined(((5,),), ()))
        self.assertIsNone(unjoined(((1, 1), (0, 1)), ()))
        self.assertIsNone(unjoined(((1, 1), (0, 1)), ((0, 0),)))


class Errors(unittest.TestCase):

    coins = ((1, 2, 3),)

    def test_matrices(self):
        bad = [None, 7, "x", True, (), [], {}, ((),), ((1,),) * 4, ((1, 1, 1, 1, 1),), ((0, 1),), ((1, 0),), ((1, 9),),
               ((1, 2), (1,)), ((1, 2), (1, 9)), ((1, 2), (-1, 1)), ((1, 2), (1, True)), [(1, 2)], ([1, 2],), (1, 2),
               ((1, 2), [1, 2]), ((1, 2), (1, 2), None), ((1, 2), ()), ((True, 2),), (((1,), 2),), ((1.0, 2),)]
        for matrix in bad:
            self.assertRaises(BadMatrix, lattice_ideal, (5, 2, "lex"), matrix)
            self.assertRaises(BadMatrix, fibre, matrix, (1, 1))
            self.assertRaises(BadMatrix, cheapest, matrix, (1, 1), (1, 1))
            self.assertRaises(BadMatrix, is_joined, matrix, (), (1, 1), (1, 1))
            self.assertRaises(BadMatrix, walk, matrix, (), (1, 1), (1, 1))
            self.assertRaises(BadMatrix, unjoined, matrix, ())
        for matrix in (((1, 8),), ((1, 1), (0, 0), (8, 8))):
            lattice_ideal((5, 2, "lex"), matrix)
            self.assertRaises(BadRing, lattice_ideal, (5, 2), matrix)
            for many in (1, 3, 4):
                self.assertRaises(BadMatrix, lattice_ideal, (5, many, "lex"), matrix)
        self.assertRaises(BadRing, lattice_ideal, None, None)

    def test_solutions_and_costs(self):
        for some in (None, 7, "x", True, (), (1, 1), (1, 1, 1, 1), [1, 1, 1], {}, (21, 0, 0), (-1, 0, 0), (True, 0, 0),
                     (None, 0, 0), ((1,), 0, 0), (1.0, 0, 0)):
            self.assertRaises(BadMonomial, fibre, self.coins, some)
            self.assertRaises(BadMonomial, cheapest, self.coins, (1, 1, 1), some)
            self.assertRaises(BadCosts, cheapest, self.coins, (0, 1, 1), some)
            for function in (is_joined, walk):
                self.assertRaises(BadMonomial, function, self.coins, (), some, (1, 1, 1))
                self.assertRaises(BadMonomial, function, self.coins, (), (1, 1, 1), some)
        for costs in (None, 7, "x", True, (), (1, 1), (1, 1, 1, 1), [1, 1, 1], {}, (21, 1, 1), (0, 1, 1), (True, 1, 1),
                      (-1, 1, 1), (None, 1, 1)):
            self.assertRaises(BadCosts, cheapest, self.coins, costs, (1, 1, 1))
        fibre(((8, 8, 8),), (20, 20, 20))
        cheapest(((8, 8, 8),), (20, 1, 20), (20, 20, 20))

    def test_moves(self):
        good = (2, -1, 0)
        for function in (unjoined, lambda m, v: is_joined(m, v, None, None), lambda m, v: walk(m, v, None, None)):
            for moves in (None, 7, "x", True, [], [good], {}, (good,) * 13, (None,) * 13):
                with self.assertRaises(BadMoves) as caught:
                    function(self.coins, moves)
                self.assertIsNone(caught.exception.index)
            for move in (None, 7, "x", True, (), (2, -1), (2, -1, 0, 0), [2, -1, 0], {}, (1, 0, 0), (0, 0, 1),
                         (21, 0, -7), (-21, 0, 7), (0, True, 0), (2, -1, None), (2.0, -1, 0)):
                for index in (0, 1, 11):
                    with self.assertRaises(BadMoves) as caught:
                        function(self.coins, (good,) * index + (move, None)[:12 - index])
                    self.assertEqual(caught.exception.index, index)
        self.assertIsNone(unjoined(((1, 1),), ((1, -1), (20, -20), (-20, 20), (0, 0))))
        with self.assertRaises(BadMoves) as caught:
            unjoined(((1, 1),), ((1, -1), (20, -20), (-21, 21)))
        self.assertEqual(caught.exception.index, 2)
        with self.assertRaises(BadMoves) as caught:
            unjoined(((1, 1), (0, 1)), ((0, 0), (1, -1)))
        self.assertEqual(caught.exception.index, 1)

    def test_other_totals(self):
        for function in (is_joined, walk):
            self.assertRaises(OtherTotals, function, self.coins, (), (1, 0, 0), (0, 1, 0))
            self.assertRaises(OtherTotals, function, ((1, 1), (0, 1)), (), (1, 0), (0, 1))
            self.assertRaises(BadMonomial, function, self.coins, (), (1, 0, 0), (0, 21, 0))
            self.assertRaises(BadMonomial, function, self.coins, (), (21, 0, 0), (0, 1, 0))
            self.assertRaises(BadMoves, function, self.coins, ((1, 0, 0),), (1, 0, 0), (0, 1, 0))
            self.assertRaises(BadMatrix, function, ((0, 1, 1),), ((1, 0, 0),), (1, 0, 0), (0, 1, 0))


if __name__ == "__main__":
    unittest.main()
