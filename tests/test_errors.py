"""The errors of the interface: their names, their base class and their fields."""
import unittest

from idealcore import errors

WITHOUT_FIELDS = ["BadField", "BadNumber", "BadInteger", "ZeroDivisor", "BadRing", "BadMonomial", "BadPolynomial",
                  "BadPoint", "BadVariable", "OtherRing", "NotText", "BadPlaces", "BadRank", "BadVector", "NotBasis",
                  "BadValues", "BadComplex", "NotFinite", "NotPrime", "BadMatrix", "BadCosts", "OtherTotals",
                  "BadName"]
WITH_INDEX = ["BadPolynomials", "BadTerms", "BadVectors", "NotEven", "BadGrowth", "BadMonomials", "BadSets",
              "BadPoints", "BadNumbers", "BadMoves"]


class Errors(unittest.TestCase):

    def check_class(self, name):
        kind = getattr(errors, name)
        self.assertEqual(kind.__bases__, (errors.IdealError,), name)
        self.assertEqual(kind.__module__, "idealcore.errors")
        return kind

    def test_base(self):
        self.assertEqual(errors.IdealError.__bases__, (ValueError,))

    def test_without_fields(self):
        for name in WITHOUT_FIELDS:
            self.assertIsInstance(self.check_class(name)("why"), errors.IdealError)

    def test_with_index(self):
        for name in WITH_INDEX:
            kind = self.check_class(name)
            self.assertEqual([kind(3).index, kind(None).index, kind(index=0).index], [3, None, 0], name)

    def test_other_fields(self):
        self.assertEqual(self.check_class("InvalidText")(place=4).place, 4)
        self.assertEqual(self.check_class("TooMany")(most=10).most, 10)
        error = self.check_class("InvalidCommand")(line=3, column=7)
        self.assertEqual((error.line, error.column), (3, 7))


if __name__ == "__main__":
    unittest.main()
