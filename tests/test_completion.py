"""The inner works: that pairs are left out only where they leave nothing, and which generators are needed."""
import random
import unittest

from idealcore.bases import basis
from idealcore.checks import check_ring
from idealcore.coding import plain_coding
from idealcore.completion import Completion, completed_basis, reduced_among, reduced_basis
from idealcore.exponents import divides, least_ones
from idealcore.modules import Places
from idealcore.packed import packed, recoded
from idealcore.plain import packed_plainly, plain_reducers
from idealcore.reducing import monic, table_of
from idealcore.series import numerator
from idealcore.tally import generated_numbers
from tests.lots import even_lot, lot, rings
from tests.test_vectors import RANKS, vector_lot


def counted_below(monomials, grades, top):
    """How many monomials of each degree up to top, by grades, none of some monomials divides."""
    found = [0] * (top + 1)
    rows = [()]
    for grade in grades:
        rows = [row + (e,) for row in rows for e in range(top // grade + 1)]
    for row in rows:
        degree = sum(e * grade for e, grade in zip(row, grades))
        if degree <= top and not any(divides(m, row) for m in monomials):
            found[degree] += 1
    return found


def spread(numbers, grades, top):
    """The numbers of a dict, divided by 1 - t to the power of each grade, as a list up to a degree."""
    row = [numbers.get(degree, 0) for degree in range(top + 1)]
    for grade in grades:
        for degree in range(grade, top + 1):
            row[degree] += row[degree - grade]
    return row


class Tallies(unittest.TestCase):

    def test_numerators(self):
        rng = random.Random(1)
        for _ in range(60):
            grades = tuple(rng.randint(1, 3) for _ in range(rng.randint(1, 4)))
            monomials = [tuple(rng.randint(0, 3) for _ in grades) for _ in range(rng.randint(0, 5))]
            self.assertEqual(spread(numerator(monomials, grades), grades, 9), counted_below(monomials, grades, 9))
            least = least_ones(monomials)
            self.assertEqual(counted_below(least, grades, 9), counted_below(monomials, grades, 9))
            self.assertFalse(any(divides(a, b) for i, a in enumerate(least) for j, b in enumerate(least) if i != j))

    def test_bases_are_the_same_with_and_without(self):
        for ring in rings(4, (0, 2, 5)):
            rng = random.Random(repr(ring))
            coding = check_ring(ring)
            plain = plain_coding(coding)
            polys = lot(rng, ring, top=2)
            reducers = plain_reducers(coding, polys)
            values = [recoded(plain, coding, table_of(reducer)) for reducer in reducers]
            found = [completed_basis(coding, values, wanted) for wanted in (generated_numbers(plain, reducers), None)]
            told = [tuple(monic(coding, r) for r in reduced_among(coding, one.reducers)) for one in found]
            self.assertEqual(told[0], told[1])
            self.assertEqual(told[0], basis(ring, polys))

    def test_modules_are_the_same_with_and_without(self):
        for ring in rings(3, (0, 3)):
            for rank in RANKS:
                rng = random.Random(repr((ring, rank)))
                coding = check_ring(ring)
                places, plain = Places(coding, rank), Places(plain_coding(coding), rank)
                vectors = vector_lot(rng, ring, rank)
                reducers = reduced_basis(plain.coding, [plain.packed_vector(vector) for vector in vectors])
                values = [recoded(plain.coding, places.coding, table_of(reducer)) for reducer in reducers]
                numbers = generated_numbers(plain.coding, reducers)
                found = [completed_basis(places.coding, values, wanted) for wanted in (numbers, None)]
                told = [reduced_among(places.coding, one.reducers) for one in found]
                self.assertEqual(told[0], told[1])
                self.assertEqual(told[0], reduced_basis(places.coding, values))

    def test_nothing_is_lacking_at_the_end(self):
        for ring in rings(3, (0, 3)):
            coding = check_ring(ring)
            plain = plain_coding(coding)
            reducers = plain_reducers(coding, even_lot(random.Random(repr(ring)), ring))
            values = [recoded(plain, coding, table_of(reducer)) for reducer in reducers]
            done = Completion(coding, values, generated_numbers(plain, reducers))
            done.run()
            self.assertIsNone(done.tally.least_degree())


class Needed(unittest.TestCase):

    def test_generators_of_one_degree_each(self):
        for ring in rings(3, (0, 2)):
            coding = check_ring(ring)
            polys = even_lot(random.Random(repr(ring)), ring)
            done = Completion(coding, [packed(coding, p) for p in polys * 2])
            kept = done.needed_generators()
            self.assertEqual(len(kept), len(set(kept)))
            self.assertTrue(all(index < len(polys) for index in kept))
            self.assertEqual(basis(ring, tuple(polys[index] for index in kept)), basis(ring, polys))

    def test_zero_is_not_packed(self):
        coding = check_ring((5, 1, "lex"))
        self.assertEqual(len(packed_plainly(coding, ((), ((1, (1,)),), ()))), 1)


if __name__ == "__main__":
    unittest.main()
