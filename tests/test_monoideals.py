"""Points 27 to 29: ideals of monomials."""
import random
import unittest
from itertools import combinations, permutations, product

from idealcore import ideals
from idealcore.bases import leading_monomials
from idealcore.errors import BadInteger, BadMonomial, BadMonomials, BadPlaces
from idealcore.monoideals import associated, irreducible_parts, least_monomials, mono_meet, mono_quotient, mono_radical
from idealcore.monoideals import primary_parts, quotient_order, shows_quotient_order, shows_witness, witness
from tests.lots import ODD
from tests.oracle import divides

WHOLE = (least_monomials, mono_radical, irreducible_parts, associated, primary_parts, quotient_order)


def inside(monos, m):
    return any(divides(k, m) for k in monos)


def box(many, top):
    return list(product(range(top + 1), repeat=many))


def least_of(many, top, is_inside):
    """The least monomials of an ideal, told by which monomials of a box are inside."""
    found = []
    for m in box(many, top):
        below = [m[:k] + (m[k] - 1,) + m[k + 1:] for k in range(many) if m[k]]
        if is_inside(m) and not any(is_inside(k) for k in below):
            found.append(m)
    return tuple(sorted(found))


def in_corner(corner, m):
    return any(a and e >= a for a, e in zip(corner, m))


def support(m):
    return tuple(k for k, e in enumerate(m) if e)


def unit(many, place):
    return tuple(1 if k == place else 0 for k in range(many))


def some_ideal(rng, many, top, most=12):
    return tuple(tuple(rng.choice((0, rng.randint(0, top))) for _ in range(many)) for _ in range(rng.randint(0, most)))


def lots(seed=27, rounds=40, top=8):
    """Numbers of variables with ideals, exponents being smaller with many variables."""
    rng = random.Random(seed)
    found = []
    for _ in range(rounds):
        many = rng.randint(1, 4)
        high = min(top, (8, 8, 8, 4)[many - 1])
        found.append((many, high, some_ideal(rng, many, high)))
    for many in (5, 6, 8):
        found.append((many, 2 if many < 8 else 1, some_ideal(rng, many, 2 if many < 8 else 1)))
    for many in (1, 2, 3, 8):
        found += [(many, 1, ()), (many, 1, ((0,) * many,)), (many, 1, ((1,) * many, (0,) * many))]
    return found


class LeastMonomials(unittest.TestCase):

    def test_against_a_box(self):
        for many, top, monos in lots():
            found = least_monomials(many, monos)
            self.assertIsInstance(found, tuple)
            self.assertEqual(found, least_of(many, top, lambda m: inside(monos, m)))
            self.assertEqual(least_monomials(many, found[:12]), found)

    def test_meets(self):
        rng = random.Random(1)
        for many, top, one in lots(2):
            other = some_ideal(rng, many, top)
            found = mono_meet(many, one, other)
            self.assertEqual(found, least_of(many, top, lambda m: inside(one, m) and inside(other, m)))
            self.assertEqual(found, mono_meet(many, other, one))

    def test_quotients(self):
        rng = random.Random(3)
        for many, top, monos in lots(4):
            for mono in ((0,) * many, tuple(rng.randint(0, top) for _ in range(many)), (8,) * many):
                found = mono_quotient(many, monos, mono)
                times = least_of(many, top, lambda m: inside(monos, tuple(a + b for a, b in zip(m, mono))))
                self.assertEqual(found, times)

    def test_radicals(self):
        for many, top, monos in lots(5):
            found = mono_radical(many, monos)
            self.assertEqual(found, least_of(many, 1, lambda m: inside(monos, tuple(8 * e for e in m))))

    def test_known(self):
        self.assertEqual(least_monomials(3, ((1, 2, 0), (1, 2, 0), (1, 2, 1), (0, 0, 3))), ((0, 0, 3), (1, 2, 0)))
        self.assertEqual(least_monomials(2, ()), ())
        self.assertEqual(least_monomials(2, ((3, 1), (0, 0))), ((0, 0),))
        self.assertEqual(mono_meet(2, (), ((1, 0),)), ())
        self.assertEqual(mono_meet(2, ((0, 0),), ((1, 0), (0, 8))), ((0, 8), (1, 0)))
        self.assertEqual(mono_quotient(2, ((3, 1),), (3, 8)), ((0, 0),))
        self.assertEqual(mono_quotient(2, (), (3, 8)), ())
        self.assertEqual(mono_radical(2, ((8, 0), (0, 1), (4, 4))), ((0, 1), (1, 0)))
        self.assertEqual(mono_radical(1, ()), ())

    def test_many_least_monomials(self):
        one = tuple((k, 8 - k, 0, 0) for k in range(9))
        other = tuple((0, 0, k, 8 - k) for k in range(9))
        self.assertEqual(mono_meet(4, one, other), tuple(sorted(a[:2] + b[2:] for a in one for b in other)))

    def test_ideals_of_polynomials(self):
        rng = random.Random(6)
        for field in (0, 3):
            for many in (1, 2, 3, 4):
                ring = (field, many, "lex")
                one, other = some_ideal(rng, many, 3, 5), some_ideal(rng, many, 3, 5)
                mono = tuple(rng.randint(0, 3) for _ in range(many))
                number = 1 if field else (1, 1)
                p, q = tuple(((number, m),) for m in one), tuple(((number, m),) for m in other)

                def heads(basis):
                    return tuple(sorted(k[0][1] for k in basis))
                self.assertEqual(least_monomials(many, one), tuple(sorted(leading_monomials(ring, p))))
                self.assertEqual(mono_meet(many, one, other), heads(ideals.meet(ring, p, q)))
                self.assertEqual(mono_quotient(many, one, mono), heads(ideals.quotient(ring, p, (((number, mono),),))))
                for m in box(many, 1):
                    power = ideals.in_radical(ring, p, ((number, m),))
                    self.assertEqual(power is not None, inside(mono_radical(many, one), m))


class Corners(unittest.TestCase):

    def test_the_meet_is_the_ideal_and_none_can_be_left_out(self):
        for many, top, monos in lots(7, 30, 5):
            found = irreducible_parts(many, monos)
            self.assertIsInstance(found, tuple)
            self.assertEqual(found, tuple(sorted(set(found))))
            high = max([e for m in monos for e in m], default=0)
            self.assertTrue(all(len(corner) == many and 0 <= min(corner) <= max(corner) <= high for corner in found))
            needed = set()
            for m in box(many, high):
                without = [corner for corner in found if not in_corner(corner, m)]
                self.assertEqual(inside(monos, m), not without)
                if len(without) == 1:
                    needed.add(without[0])
            self.assertEqual(needed, set(found))

    def test_eight_variables(self):
        rng = random.Random(8)
        for top in (1, 3, 8):
            for _ in range(4):
                monos = tuple(tuple(rng.choice((0, rng.randint(0, top))) for _ in range(8)) for _ in range(12))
                found = irreducible_parts(8, monos)
                for _ in range(300):
                    m = tuple(rng.randint(0, top) for _ in range(8))
                    self.assertEqual(inside(monos, m), all(in_corner(corner, m) for corner in found))
                for corner in found:
                    # The greatest monomial outside of a corner's ideal is in all others.
                    m = tuple(a - 1 if a else 9 for a in corner)
                    self.assertEqual([other for other in found if not in_corner(other, m)], [corner])

    def test_known(self):
        self.assertEqual(irreducible_parts(2, ((8, 0), (0, 8))), ((8, 8),))
        self.assertEqual(irreducible_parts(3, ((1, 1, 0), (0, 1, 1), (1, 0, 1))), ((0, 1, 1), (1, 0, 1), (1, 1, 0)))
        self.assertEqual(irreducible_parts(2, ((3, 0), (2, 1), (0, 2))), ((2, 2), (3, 1)))
        self.assertEqual(irreducible_parts(3, ()), ((0, 0, 0),))
        self.assertEqual(irreducible_parts(3, ((0, 0, 0), (1, 0, 0))), ())
        self.assertEqual(irreducible_parts(1, ((5,), (3,), (8,))), ((3,),))
        self.assertEqual(associated(3, ()), ((),))
        self.assertEqual(associated(3, ((0, 0, 0),)), ())
        self.assertEqual(associated(2, ((2, 0), (1, 1))), ((0,), (0, 1)))

    def test_associated(self):
        for many, top, monos in lots(9):
            found = associated(many, monos)
            self.assertIsInstance(found, tuple)
            self.assertEqual(found, tuple(sorted({support(corner) for corner in irreducible_parts(many, monos)})))


class Witnesses(unittest.TestCase):

    def places(self, many):
        return [places for size in range(many + 1) for places in combinations(range(many), size)]

    def is_witness(self, many, monos, places, mono):
        left = mono_quotient(many, monos, mono)
        return left == tuple(sorted(unit(many, place) for place in places))

    def test_each_lot_of_places(self):
        for many, top, monos in lots(10):
            told = associated(many, monos)
            for places in self.places(many):
                found = witness(many, monos, places)
                self.assertEqual(found is not None, places in told)
                self.assertIs(shows_witness(many, monos, places, found), places in told)
                if found is not None:
                    self.assertIsInstance(found, tuple)
                    self.assertTrue(all(0 <= e <= 8 for e in found))
                    self.assertTrue(self.is_witness(many, monos, places, found))

    def test_shows_each_monomial_of_a_box(self):
        for many, top, monos in lots(11, 12, 4):
            if many > 4:
                continue
            for places in self.places(many)[:8]:
                for m in box(many, min(top, 3)):
                    self.assertIs(shows_witness(many, monos, places, m), self.is_witness(many, monos, places, m))

    def test_great_exponents(self):
        monos = ((8, 8), (0, 8))
        self.assertEqual(witness(2, monos, (1,))[1], 7)
        self.assertIs(shows_witness(2, monos, (1,), (8, 7)), True)
        self.assertIs(shows_witness(2, monos, (1,), (9, 7)), False)
        self.assertIs(shows_witness(2, monos, (1,), (-1, 7)), False)

    def test_no_places(self):
        self.assertIs(shows_witness(2, (), (), (3, 4)), True)
        self.assertIsNotNone(witness(2, (), ()))
        self.assertIsNone(witness(2, ((1, 1),), ()))
        self.assertIsNone(witness(2, ((0, 0),), ()))
        self.assertIs(shows_witness(2, ((0, 0),), (), (0, 0)), False)
        self.assertIs(shows_witness(2, ((1, 1),), (), (1, 1)), False)

    def test_bent_and_other_values(self):
        monos = ((2, 0), (1, 1))
        for value in ODD + [(1,), (1, 0, 0), [1, 0], (True, 0), (1, False), ("1", 0), ((1, 0),), (1, None), (1.0, 0),
                            {1: 0}, (0, 0), (2, 0), (0, 1), (10 ** 30, 0)]:
            self.assertIs(shows_witness(2, monos, (0, 1), value), False)
        self.assertIs(shows_witness(2, monos, (0, 1), (1, 0)), True)
        self.assertIs(shows_witness(2, monos, (1,), (1, 0)), False)

    def test_wrong_places(self):
        for places in ((0, 0), (1, 0), (2,), (-1,), (True,), (None,), [0], [], None, 0, "0", {}, ((0,),), (0, 1, 2)):
            self.assertRaises(BadPlaces, witness, 2, ((1, 1),), places)
            self.assertRaises(BadPlaces, shows_witness, 2, ((1, 1),), places, None)
        self.assertIsNone(witness(2, ((1, 1),), (0, 1)))


class PrimaryParts(unittest.TestCase):

    def test_against_a_box(self):
        for many, top, monos in lots(12, 30, 4):
            corners = irreducible_parts(many, monos)
            found = primary_parts(many, monos)
            self.assertIsInstance(found, list)
            self.assertEqual([places for places, _ in found], list(associated(many, monos)))
            for places, least in found:
                own = [corner for corner in corners if support(corner) == places]
                self.assertEqual(least, least_of(many, top, lambda m: all(in_corner(corner, m) for corner in own)))

    def test_eight_variables(self):
        rng = random.Random(13)
        monos = tuple(tuple(rng.choice((0, 0, rng.randint(0, 8))) for _ in range(8)) for _ in range(12))
        found = primary_parts(8, monos)
        corners = irreducible_parts(8, monos)
        for places, least in found:
            own = [corner for corner in corners if support(corner) == places]
            for m in least:
                self.assertTrue(all(in_corner(corner, m) for corner in own))
                for k in support(m):
                    below = m[:k] + (m[k] - 1,) + m[k + 1:]
                    self.assertFalse(all(in_corner(corner, below) for corner in own))
            for _ in range(200):
                m = tuple(rng.randint(0, 8) if k in places else 0 for k in range(8))
                self.assertEqual(inside(least, m), all(in_corner(corner, m) for corner in own))

    def test_known(self):
        self.assertEqual(primary_parts(2, ()), [((), ())])
        self.assertEqual(primary_parts(2, ((0, 0),)), [])
        self.assertEqual(primary_parts(2, ((3, 0), (2, 1), (0, 2))), [((0, 1), ((0, 2), (2, 1), (3, 0)))])
        self.assertEqual(primary_parts(3, ((1, 1, 0), (1, 0, 1))), [((0,), ((1, 0, 0),)),
                                                                    ((1, 2), ((0, 0, 1), (0, 1, 0)))])


class QuotientOrders(unittest.TestCase):

    def is_order(self, many, least, order):
        for at, index in enumerate(order):
            left = mono_quotient(many, tuple(least[k] for k in order[:at]), least[index])
            if any(sum(m) != 1 for m in left):
                return False
        return True

    def test_against_all_orders(self):
        rng = random.Random(14)
        counts = {True: 0, False: 0}
        for _ in range(120):
            many = rng.randint(2, 4)
            monos = tuple(tuple(rng.randint(0, 3) for _ in range(many)) for _ in range(rng.randint(2, 5)))
            least = least_monomials(many, monos)
            self.assertLess(len(least), 8)
            right = [order for order in permutations(range(len(least))) if self.is_order(many, least, order)]
            found = quotient_order(many, monos)
            self.assertEqual(found is not None, bool(right))
            if found is not None:
                self.assertIn(found, right)
            for order in permutations(range(len(least))):
                self.assertIs(shows_quotient_order(many, monos, order), order in right)
            counts[bool(right)] += 1
        self.assertTrue(all(number > 10 for number in counts.values()))

    def test_twelve_monomials(self):
        powers = tuple((k, 8 - k, 0, 0, 0) for k in range(9)) + tuple(unit(5, k) for k in (2, 3, 4))
        self.assertIs(shows_quotient_order(5, powers, quotient_order(5, powers)), True)
        edges = tuple(unit(8, a)[:b] + (1,) + unit(8, a)[b + 1:] for a, b in combinations(range(8), 2))[:12]
        self.assertIs(shows_quotient_order(8, edges, quotient_order(8, edges)), True)
        apart = tuple(tuple(8 - k if j == 0 else k if j == 1 else 0 for j in range(3)) for k in range(0, 9, 2))
        self.assertIsNone(quotient_order(3, apart))
        self.assertIsNone(quotient_order(8, tuple(tuple(2 if k == j else 0 for k in range(8)) for j in range(8))))

    def test_known(self):
        self.assertEqual(quotient_order(2, ()), ())
        self.assertEqual(quotient_order(2, ((0, 0), (1, 0))), (0,))
        self.assertEqual(quotient_order(2, ((3, 3),)), (0,))
        self.assertIsNone(quotient_order(2, ((3, 0), (0, 3))))
        self.assertIs(shows_quotient_order(2, (), ()), True)
        self.assertIs(shows_quotient_order(2, ((3, 0), (0, 3)), (0, 1)), False)

    def test_bent_and_other_values(self):
        monos = ((2, 0), (1, 1), (3, 1))
        for value in ODD + [(0,), (1,), (0, 0), (1, 1), (0, 1, 1), (0, 1, 2), (1, 2), (2, 0), (-1, 0), (True, False),
                            (True, 0), (1, False), [0, 1], (0, None), ("0", "1"), (0, (1,)), (0, [1]), (0, 1.0), "01",
                            {0: 1}, (10 ** 30, 0)]:
            self.assertIs(shows_quotient_order(2, monos, value), False)
        self.assertIs(shows_quotient_order(2, monos, (1, 0)), True)


class WrongArguments(unittest.TestCase):

    def test_numbers_of_variables(self):
        for function in WHOLE:
            for many in (0, 9, -1, True, False, None, "2", (2,), [2], {}, 2.0, 10 ** 30):
                self.assertRaises(BadInteger, function, many, ())
                self.assertRaises(BadInteger, function, many, None)
            for many in (1, 8):
                function(many, ((1,) * many, (8,) * many))

    def test_bounds(self):
        for function in WHOLE:
            function(2, ((8, 0), (0, 8)))
            function(2, ((1, 1),) * 12)
            for index in (0, 1, 11):
                for mono in ((9, 0), (-1, 0), (1,), (1, 1, 1), (True, 1), [1, 1], None, "11", 1, (), (1, None), {}):
                    with self.assertRaises(BadMonomials) as caught:
                        function(2, ((1, 1),) * index + (mono, None)[:12 - index])
                    self.assertEqual(caught.exception.index, index)
            for monos in (((1, 1),) * 13, (None,) * 13, [(1, 1)], None, 1, "x", {}, True):
                with self.assertRaises(BadMonomials) as caught:
                    function(2, monos)
                self.assertIsNone(caught.exception.index)

    def test_two_lots(self):
        for bad, index in ((None, None), (((1, 1), 1), 1), (((9, 1),), 0)):
            for arguments in ((bad, ()), (bad, None), ((), bad)):
                with self.assertRaises(BadMonomials) as caught:
                    mono_meet(2, *arguments)
                self.assertEqual(caught.exception.index, index)

    def test_monomials(self):
        for mono in ((9, 0), (-1, 0), (1,), (1, 1, 1), (True, 1), [1, 1], None, "11", 1, (), (1, None), {}):
            self.assertRaises(BadMonomial, mono_quotient, 2, ((1, 1),), mono)
            self.assertRaises(BadMonomials, mono_quotient, 2, ((1, 1), 1), mono)


if __name__ == "__main__":
    unittest.main()
