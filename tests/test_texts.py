"""Points 6 and 7: texts."""
import random
import re
import unittest
from fractions import Fraction
from itertools import product

from idealcore.errors import BadPolynomial, BadRing, InvalidText, NotText
from idealcore.polys import degree
from idealcore.texts import read, write
from tests import oracle
from tests.oracle import from_dict, orders_of, random_polynomial

Q2 = (0, 2, "lex")
F7 = (7, 2, "lex")


def told_text(ring, p):
    """The text that point 6 tells."""
    rows = []
    for number, monomial in p:
        value = Fraction(number[0], number[1]) if ring[0] == 0 else Fraction(number)
        powers = [name if e == 1 else name + "^" + str(e) for name, e in zip("xyzw", monomial) if e]
        if abs(value) != 1 or not powers:
            powers.insert(0, str(abs(value)))
        rows.append(("-" if value < 0 else "+") + "*".join(powers))
    text = "".join(rows) or "0"
    return text[1:] if text[0] == "+" else text


class Writing(unittest.TestCase):

    def test_by_the_words(self):
        for field in (0, 2, 7, 31):
            for many in (1, 2, 3, 4):
                for order in orders_of(many):
                    ring = (field, many, order)
                    rng = random.Random(repr(ring))
                    for _ in range(8):
                        p = random_polynomial(rng, ring, 4, 6)
                        self.assertEqual(write(ring, p), told_text(ring, p))
                        self.assertEqual(read(ring, write(ring, p)), p)

    def test_known_texts(self):
        for p, text in (((), "0"), ((((1, 1), (0, 0)),), "1"), ((((-1, 1), (0, 0)),), "-1"),
                        ((((1, 1), (1, 0)),), "x"), ((((-1, 1), (0, 3)),), "-y^3"),
                        ((((1, 1), (2, 1)), ((-1, 1), (0, 0))), "x^2*y-1"),
                        ((((-3, 4), (1, 1)), ((5, 1), (0, 1)), ((-7, 3), (0, 0))), "-3/4*x*y+5*y-7/3"),
                        ((((1, 2), (60, 0)), ((-1, 2), (0, 60))), "1/2*x^60-1/2*y^60")):
            self.assertEqual(write(Q2, p), text)
            self.assertEqual(read(Q2, text), p)
        self.assertEqual(write(F7, ((6, (1, 0)), (1, (0, 1)), (1, (0, 0)))), "6*x+y+1")
        self.assertEqual(write((2, 1, "lex"), ((1, (1,)), (1, (0,)))), "x+1")
        self.assertEqual(write((5, 4, "degrevlex"), ((2, (1, 2, 3, 4)),)), "2*x*y^2*z^3*w^4")
        self.assertEqual(write((5, 2, "lex"), ((1, (1, 0)), (1, (0, 2)))), "x+y^2")
        self.assertEqual(write((5, 2, "deglex"), ((1, (0, 2)), (1, (1, 0)))), "y^2+x")
        big = 10 ** 200 - 1
        self.assertEqual(write((0, 1, "lex"), (((-big, big - 1), (1,)),)), f"-{big}/{big - 1}*x")

    def test_wrong_arguments(self):
        self.assertRaises(BadRing, write, (4, 2, "lex"), ())
        self.assertRaises(BadPolynomial, write, Q2, "x")
        self.assertRaises(BadPolynomial, write, Q2, ((1, (1, 0)),))


class Reading(unittest.TestCase):

    def check_place(self, ring, text, place):
        with self.assertRaises(InvalidText, msg=text) as caught:
            read(ring, text)
        self.assertEqual(caught.exception.place, place, text)

    def test_values(self):
        one = (1, 1)
        for text, terms in (("x", [(one, (1, 0))]), ("+x", [(one, (1, 0))]), ("-x", [((-1, 1), (1, 0))]),
                            ("  - x  ", [((-1, 1), (1, 0))]), ("0", []), ("-0/5*x", []), ("x-x", []),
                            ("2*3*x*1/2", [((3, 1), (1, 0))]), ("x*2*y*x", [((2, 1), (2, 1))]),
                            ("x^0*y^0", [(one, (0, 0))]), ("1/2", [((1, 2), (0, 0))]),
                            ("y*x", [(one, (1, 1))]), ("x^2*x^3*y^4*x", [(one, (6, 4))]),
                            ("6/4*x+1/2*x", [((2, 1), (1, 0))]), ("x^60", [(one, (60, 0))]),
                            ("x^30*y^30", [(one, (30, 30))]), ("0*x^60+1", [(one, (0, 0))]),
                            ("1+x", [(one, (1, 0)), (one, (0, 0))]), ("x + y - x", [(one, (0, 1))]),
                            (" x ^ 2 * 3 / 4 ", [((3, 4), (2, 0))]), ("1 / 2 + 1 / 3", [((5, 6), (0, 0))])):
            self.assertEqual(read(Q2, text), tuple(terms), text)
        self.assertEqual(read(F7, "8*x-1/3"), ((1, (1, 0)), (2, (0, 0))))
        self.assertEqual(read(F7, "14*x+7"), ())
        self.assertEqual(read((2, 1, "lex"), "x+x+1/3"), ((1, (0,)),))
        self.assertEqual(read((5, 4, "lex"), "w*z*y*x"), ((1, (1, 1, 1, 1)),))

    def test_long_integers(self):
        nines = "9" * 60
        self.assertEqual(read(Q2, nines), (((int(nines), 1), (0, 0)),))
        self.assertEqual(read(Q2, f"{nines}/{nines}*x"), (((1, 1), (1, 0)),))
        self.check_place(Q2, nines + "9", 0)
        self.check_place(Q2, "x + 1/" + nines + "9", 6)
        self.check_place(Q2, "x ^ " + nines + "9", 4)
        self.check_place(Q2, "x ^ " + nines, 4)
        self.check_place(Q2, "x+" + "9" * 10000 + "$", 2)
        product_of_nines = "*".join([nines] * 5)
        self.assertEqual(read(Q2, product_of_nines), (((int(nines) ** 5, 1), (0, 0)),))

    def test_integers_that_are_not_allowed(self):
        for text, place in (("00", 0), ("01", 0), ("x+ 007", 3), ("1/01", 2), ("x^00", 2), ("x^ 01", 3), ("1/0", 2),
                            ("3*x + 1/ 0*y", 9), ("x^61", 2), ("x^100*y", 2), ("x^ 99", 3), ("0/0", 2),
                            ("00x", 0), ("x^61$", 2)):
            self.check_place(Q2, text, place)
        for text, place in (("1/7", 2), ("1/14", 2), ("x*3/70", 4), ("1/0", 2)):
            self.check_place(F7, text, place)
        self.assertEqual(read(F7, "7/3"), ())

    def test_degrees(self):
        for text, place in (("x^60*y", 5), ("x^30*y^31", 5), ("x*x^60", 2), ("0*x^60*y", 7), ("x^30*x^30*3*x", 12),
                            ("1+x^60 * y ^ 1", 9), ("x^60*y*", 5), ("x^60*y$", 5), ("x^60+y^60*x+", 10),
                            ("x^60*y^61", 7), ("y^10*x^55", 5), ("x^60*y^", 7), ("x^60*y^$", 7)):
            self.check_place(Q2, text, place)
        self.assertEqual(degree(Q2, read(Q2, "x^60*y^0+y^59*x")), 60)

    def test_texts_that_end_too_early(self):
        for text in ("", " ", "   ", "+", "-", " - ", "x+", "x-", "x*", "2*", "x^", "x ^ ", "1/", "1 / ", "x+y* "):
            self.check_place(Q2, text, len(text))

    def test_characters_that_cannot_stand(self):
        for text, place in (("--x", 1), ("+-x", 1), ("x+-y", 2), ("x++y", 2), ("2x", 1), ("x2", 1), ("xy", 1),
                            ("x y", 2), ("1 2", 2), ("12 3*x", 3), ("x^1 2", 4), ("1/2 3", 4), ("x^-1", 2),
                            ("x^y", 2), ("x^+2", 2), ("x/2", 1), ("1/2/3", 3), ("1/x", 2), ("1/-2", 2), ("*x", 0),
                            ("x**2", 2), ("x^2^2", 3), ("2^2", 1), ("(x)", 0), ("x+z", 2), ("z", 0), ("X", 0),
                            ("x,y", 1), ("x.5", 1), ("x\t", 1), ("\nx", 0), ("x\n", 1), ("/2", 0), ("^2", 0),
                            ("x+a", 2), ("x^2x", 3), ("\u0661", 0), ("x^\u00b2", 2), ("x\u00a0", 1), ("w", 0)):
            self.check_place(Q2, text, place)
        self.check_place((0, 1, "lex"), "x+y", 2)
        self.check_place((0, 3, "lex"), "z+w", 2)

    def test_all_short_texts(self):
        space = " *"
        number = f"1+{space}(/{space}1+{space})?"
        factor = f"({number}|[xy]{space}(\\^{space}1+{space})?)"
        term = f"{factor}(\\*{space}{factor})*"
        whole = re.compile(f"{space}([+-]{space})?{term}([+-]{space}{term})*")
        for length in range(6):
            for characters in product("xz1+*^/ ", repeat=length):
                text = "".join(characters)
                if "111" in text and "^" in text:
                    continue
                good = whole.fullmatch(text) is not None
                wrong = [k for k in range(length) if not whole.fullmatch(text[:k + 1])
                         and not whole.fullmatch(text[:k + 1] + "1")]
                if good:
                    read(Q2, text)
                else:
                    self.check_place(Q2, text, wrong[0] if wrong else length)

    def test_spaces_may_stand_anywhere_else(self):
        ring = (0, 3, "degrevlex")
        rng = random.Random(5)
        for _ in range(60):
            p = random_polynomial(rng, ring, 5, 4)
            tokens = re.findall(r"[0-9]+|.", write(ring, p))
            text = "".join(" " * rng.choice((0, 0, 1, 3)) + token for token in tokens) + " " * rng.choice((0, 2))
            self.assertEqual(read(ring, text), p)

    def test_sums_of_random_texts(self):
        ring = (5, 3, "lex")
        rng = random.Random(6)
        for _ in range(60):
            ps = [random_polynomial(rng, ring, 4, 3) for _ in range(3)]
            total = {}
            for p in ps:
                total = oracle.add(5, total, oracle.to_dict(5, p))
            text = "+".join(write(ring, p) for p in ps)
            self.assertEqual(read(ring, text), from_dict(ring, total))

    def test_many_terms(self):
        self.assertEqual(read(Q2, "+".join(["x"] * 1000)), (((1000, 1), (1, 0)),))
        text = "+".join(f"x^{a}*y^{b}" for a in range(30) for b in range(20))
        self.assertEqual(len(read(Q2, text)), 600)

    def test_not_text(self):
        for value in (None, 1, True, (), ("x",), [], ["x"], {}, {"x": 1}):
            self.assertRaises(NotText, read, Q2, value)
        self.assertRaises(BadRing, read, (0, 2, "x"), None)


if __name__ == "__main__":
    unittest.main()
