"""Points 25 and 26: expansions, growth and lex ideals."""
import random
import unittest
from itertools import product
from math import comb

from idealcore.errors import BadGrowth, BadInteger, BadValues
from idealcore.growth import expansion, growth_gap, grown, lex_ideal
from idealcore.hilbert import hilbert_function
from tests.lots import even_lot, rings
from tests.oracle import divides


def of_degree(many, degree):
    """The monomials of a degree, descending in "lex"."""
    found = [m + (degree - sum(m),) for m in product(range(degree + 1), repeat=many - 1) if sum(m) <= degree]
    return sorted(found, reverse=True)


def values_of(many, monomials, top):
    """How many monomials of each degree are outside of the ideal of some monomials."""
    return tuple(sum(1 for m in of_degree(many, d) if not any(divides(k, m) for k in monomials))
                 for d in range(top + 1))


def plain_lex_ideal(many, values):
    """As the document tells, monomial by monomial."""
    found = []
    for degree, value in enumerate(values):
        monomials = of_degree(many, degree)
        for monomial in monomials[:len(monomials) - value]:
            if not any(divides(k, monomial) for k in found):
                found.append(monomial)
    return tuple(found)


class Expansions(unittest.TestCase):

    def check(self, number, degree):
        found = expansion(number, degree)
        self.assertIsInstance(found, tuple)
        self.assertLessEqual(len(found), degree)
        self.assertEqual(sum(comb(a, degree - i) for i, a in enumerate(found)), number)
        for i, a in enumerate(found):
            self.assertGreaterEqual(a, degree - i)
            if i:
                self.assertGreater(found[i - 1], a)
        self.assertEqual(grown(number, degree), sum(comb(a + 1, degree - i + 1) for i, a in enumerate(found)))

    def test_many_numbers_and_all_degrees(self):
        rng = random.Random(25)
        for degree in range(1, 13):
            for number in list(range(300)) + [999999, 1000000] + [rng.randint(300, 1000000) for _ in range(60)]:
                self.check(number, degree)

    def test_around_binomial_coefficients(self):
        for degree in range(1, 13):
            for top in range(degree, degree + 30):
                for number in (comb(top, degree) - 1, comb(top, degree), comb(top, degree) + 1):
                    if number <= 1000000:
                        self.check(number, degree)
                if comb(top, degree) <= 1000000:
                    self.assertEqual(expansion(comb(top, degree), degree), (top,))
                    self.assertEqual(grown(comb(top, degree), degree), comb(top + 1, degree + 1))

    def test_known(self):
        self.assertEqual(expansion(11, 3), (5, 2))
        self.assertEqual(expansion(27, 4), (6, 5, 2, 1))
        self.assertEqual(grown(27, 4), 21 + 15 + 1 + 1)
        self.assertEqual(expansion(1000000, 1), (1000000,))
        self.assertEqual(grown(1000000, 1), 500000500000)
        self.assertEqual(grown(5, 5), 5)
        self.assertEqual(expansion(5, 5), (5, 4, 3, 2, 1))

    def test_zero(self):
        for degree in range(1, 13):
            self.assertEqual(expansion(0, degree), ())
            self.assertEqual(grown(0, degree), 0)

    def test_wrong_arguments(self):
        for function in (expansion, grown):
            for value in (-1, 1000001, True, False, None, "1", (), [1], {}, (1,), 10 ** 30):
                self.assertRaises(BadInteger, function, value, 3)
                self.assertRaises(BadInteger, function, value, None)
            for value in (0, 13, -1, True, False, None, "1", (), [1], {}, 10 ** 30):
                self.assertRaises(BadInteger, function, 3, value)
            function(1000000, 12)
            function(0, 1)


class Gaps(unittest.TestCase):

    def plain_gap(self, many, values):
        for index, value in enumerate(values):
            most = 1 if index == 0 else many * values[0] if index == 1 else grown(values[index - 1], index - 1)
            if value > most:
                return index
        return None

    def test_each_index(self):
        for many in range(1, 7):
            whole = tuple(comb(d + many - 1, many - 1) for d in range(13))
            self.assertIsNone(growth_gap(many, whole))
            for index in range(13):
                for length in (index + 1, 13):
                    values = (whole[:index] + (whole[index] + 1,) + whole[index + 1:])[:length]
                    self.assertEqual(growth_gap(many, values), index)
                    with self.assertRaises(BadGrowth) as caught:
                        lex_ideal(many, values)
                    self.assertEqual(caught.exception.index, index)

    def test_at_the_bound(self):
        rng = random.Random(26)
        for many in range(1, 7):
            for _ in range(30):
                values = [1]
                for index in range(1, 13):
                    most = many if index == 1 else grown(values[-1], index - 1)
                    values.append(rng.choice((most, rng.randint(0, most), max(most - 1, 0))))
                self.assertIsNone(growth_gap(many, tuple(values)))
                index = rng.randint(2, 12)
                values[index] = grown(values[index - 1], index - 1) + 1
                if values[index] <= 1000000:
                    self.assertEqual(growth_gap(many, tuple(values)), index)

    def test_known(self):
        self.assertEqual(growth_gap(2, (1, 2, 3, 3, 4)), 4)
        self.assertIsNone(growth_gap(2, (1, 2, 2, 2)))
        self.assertEqual(growth_gap(2, (2,)), 0)
        self.assertIsNone(growth_gap(2, (1,)))
        self.assertIsNone(growth_gap(2, (0,)))
        self.assertEqual(growth_gap(2, (0, 1)), 1)
        self.assertIsNone(growth_gap(2, (0, 0, 0)))
        self.assertEqual(growth_gap(3, (1, 0, 1)), 2)
        self.assertEqual(growth_gap(3, (1, 4)), 1)
        self.assertIsNone(growth_gap(3, (1, 3, 6, 10)))
        self.assertEqual(growth_gap(3, (1, 3, 5, 8)), 3)
        self.assertIsNone(growth_gap(3, (1, 3, 5, 7)))
        self.assertEqual(growth_gap(3, (5, 3, 9)), 0)

    def test_random_values(self):
        rng = random.Random(27)
        for _ in range(500):
            many = rng.randint(1, 6)
            values = tuple([rng.randint(0, 1 + rng.randint(0, 1))] + [rng.randint(0, 8) for _ in range(rng.randint(0, 6))])
            self.assertEqual(growth_gap(many, values), self.plain_gap(many, values))

    def test_hilbert_functions_have_none(self):
        for ring in rings(4, (0, 3)):
            polys = even_lot(random.Random(repr(ring)), ring)
            values = hilbert_function(ring, polys, 12)
            self.assertIsNone(growth_gap(ring[1], values))

    def test_wrong_arguments(self):
        for function in (growth_gap, lex_ideal):
            for many in (0, 7, -1, True, False, None, "1", (), [1], {}, 10 ** 30):
                self.assertRaises(BadInteger, function, many, (1,))
                self.assertRaises(BadInteger, function, many, None)
                self.assertRaises(BadInteger, function, many, (9,))
            for values in ((), None, 1, True, "1", [1], {}, {0: 1}, (1, None), (1, True), (True,), (-1,), (1, -1),
                           (1000001,), (1, 2, 1000001), (1,) * 14, (9,) * 14, ("1",), ((1,),), (9, None), (1, 2.0)):
                self.assertRaises(BadValues, function, 2, values)
        self.assertEqual(growth_gap(1, (1,) * 13), None)
        self.assertEqual(growth_gap(6, (1000000,)), 0)


class LexIdeals(unittest.TestCase):

    def test_against_the_words(self):
        rng = random.Random(28)
        for many in range(1, 7):
            for _ in range(12):
                values = [rng.choice((1, 1, 1, 0))]
                for index in range(1, rng.randint(1, 6 if many > 3 else 8)):
                    most = many * values[0] if index == 1 else grown(values[-1], index - 1)
                    values.append(rng.choice((most, rng.randint(0, most))))
                found = lex_ideal(many, tuple(values))
                self.assertIsInstance(found, tuple)
                self.assertEqual(found, plain_lex_ideal(many, values))
                self.assertEqual(values_of(many, found, len(values) - 1), tuple(values))

    def test_known(self):
        self.assertEqual(lex_ideal(2, (1, 2, 2, 1)), ((2, 0), (1, 2)))
        self.assertEqual(lex_ideal(2, (1,)), ())
        self.assertEqual(lex_ideal(2, (0,)), ((0, 0),))
        self.assertEqual(lex_ideal(2, (0, 0, 0)), ((0, 0),))
        self.assertEqual(lex_ideal(3, (1, 2)), ((1, 0, 0),))
        self.assertEqual(lex_ideal(3, (1, 0)), ((1, 0, 0), (0, 1, 0), (0, 0, 1)))
        self.assertEqual(lex_ideal(1, (1, 1, 1, 0, 0)), ((3,),))
        self.assertEqual(lex_ideal(3, (1, 3, 3, 0)), ((2, 0, 0), (1, 1, 0), (1, 0, 1), (0, 3, 0), (0, 2, 1),
                                                      (0, 1, 2), (0, 0, 3)))

    def test_long_values(self):
        whole = tuple(comb(d + 5, 5) for d in range(13))
        self.assertEqual(lex_ideal(6, whole), ())
        self.assertEqual(len(lex_ideal(6, whole[:12] + (0,))), 6188)
        self.assertEqual(lex_ideal(6, (1, 6) + (6,) * 11)[0], (2, 0, 0, 0, 0, 0))

    def test_gaps_come_behind_the_others(self):
        self.assertRaises(BadInteger, lex_ideal, 7, (1, 9))
        self.assertRaises(BadValues, lex_ideal, 2, (1, 9, None))
        with self.assertRaises(BadGrowth) as caught:
            lex_ideal(2, (1, 3, 100))
        self.assertEqual(caught.exception.index, 1)


if __name__ == "__main__":
    unittest.main()
