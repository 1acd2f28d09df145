"""Points 41 and 42: sessions."""
import random
import unittest

from idealcore.bases import basis
from idealcore.errors import BadName, BadRing, InvalidCommand, InvalidText, NotText
from idealcore.hilbert import dimension
from idealcore.ideals import ideal_product, ideal_sum, meet, quotient
from idealcore.membership import member
from idealcore.sessions import Session
from idealcore.texts import read, write
from tests.lots import lot, of_texts, rings
from tests.oracle import random_polynomial

RING = (3, 2, "lex")


def let(ring, name, polys):
    return f"let {name} " + ",".join(write(ring, p) for p in polys)


class Commands(unittest.TestCase):

    def test_against_the_functions(self):
        for ring in rings(3, (0, 2, 5)):
            rng = random.Random(repr(ring))
            one, other = lot(rng, ring, 2, 2, 3), lot(rng, ring, 2, 2, 3)
            p = random_polynomial(rng, ring, 3, 3)
            session = Session(ring)
            told = session.run("\n".join([let(ring, "a", one), let(ring, "b", other), "sum a b s", "product a b p",
                                          "meet a b m", "quotient a b q", "basis q", "dim a", "dim b",
                                          f"has a {write(ring, p)}", f"has s {write(ring, one[0])}", "drop p"]))
            expected = [basis(ring, one), basis(ring, other), ideal_sum(ring, one, other),
                        ideal_product(ring, one, other), meet(ring, one, other), quotient(ring, one, other)]
            self.assertEqual(told[:6], [len(found) for found in expected])
            self.assertEqual(told[6:], [[write(ring, q) for q in expected[5]], dimension(ring, one),
                                        dimension(ring, other), member(ring, one, p) is not None, True, None])
            self.assertEqual(session.names(), ("a", "b", "m", "q", "s"))
            for name, found in zip("absmq", expected[:3] + expected[4:]):
                self.assertEqual(session.ideal_of(name), found)

    def test_kinds_of_answers(self):
        session = Session(RING)
        told = session.run("let a x,y\nhas a x*y\nhas a 1\ndrop a\nlet b\ndim b\nbasis b")
        self.assertEqual(told, [2, True, False, None, 0, 2, []])
        self.assertIs(told[1], True)
        self.assertIs(told[2], False)
        self.assertIsInstance(told, list)
        self.assertEqual(session.run("let c 1\ndim c\nbasis c\nhas c x^9-y"), [1, -1, ["1"], True])

    def test_names_let_again(self):
        session = Session(RING)
        self.assertEqual(session.run("let a x\nlet a y\nbasis a"), [1, 1, ["y"]])
        self.assertEqual(session.run("let b x\nsum a b a\nbasis a"), [1, 2, ["y", "x"]])
        self.assertEqual(session.run("product a a a\nbasis a"), [3, ["y^2", "x*y", "x^2"]])
        self.assertEqual(session.run("quotient a b b\nbasis b\nmeet b b b"), [2, ["y", "x"], 2])
        self.assertEqual(session.run("drop a\nlet a x-1\ndrop a\nlet a y\nhas a y"), [None, 1, None, 1, True])
        self.assertEqual(session.names(), ("a", "b"))

    def test_names_like_commands(self):
        session = Session(RING)
        told = session.run("let let x\nlet sum y\nsum let sum has\nhas has x\nbasis let\ndrop sum\ndim has")
        self.assertEqual(told, [1, 1, 2, True, ["x"], None, 0])
        self.assertEqual(session.names(), ("has", "let"))

    def test_lengths_of_names(self):
        session = Session(RING)
        session.run("let a x\nlet abcdefgh y\nlet zzzzzzzz\nlet z")
        self.assertEqual(session.names(), ("a", "abcdefgh", "z", "zzzzzzzz"))

    def test_spaces(self):
        session = Session(RING)
        told = session.run("  let   a  x  ,  y  \n   \n\n let b    \n   sum    a  b    c   \nhas c   x  +  2 * y   \n  dim a  ")
        self.assertEqual(told, [2, 0, 2, True, 0])
        self.assertEqual(session.run("drop a   "), [None])
        self.assertEqual(session.names(), ("b", "c"))

    def test_blank_texts(self):
        session = Session(RING)
        for text in ("", " ", "\n", "  \n   \n\n"):
            self.assertEqual(session.run(text), [])
            self.assertEqual(session.trial(text), [])

    def test_texts_of_let(self):
        session = Session(RING)
        self.assertEqual(session.run("let a\nlet b  \nlet c 0\nlet d 0,0,0\nlet e x,x,0,2*x"), [0, 0, 0, 0, 1])
        many = ",".join(f"x^{k}*y^{20 - k}" for k in range(21))
        self.assertEqual(session.run(f"let a {many}"), [21])
        self.assertEqual(session.run("let a x - y , x*y-1,y+1-x"), [1])

    def test_numbers_of_the_field(self):
        session = Session((0, 1, "lex"))
        self.assertEqual(session.run("let a 2/3*x^2-1/7\nbasis a\nhas a 14*x^2-3"), [1, ["x^2-3/14"], True])
        session = Session((7, 1, "lex"))
        self.assertEqual(session.run("let a 2/3*x^2-1/2\nbasis a"), [1, ["x^2+1"]])

    def test_what_no_tuple_of_generators_may_have(self):
        session = Session(RING)
        told = session.run("let a x,y\nproduct a a b\nproduct b b c\nproduct c c d\nproduct d d e\nproduct e d f\n"
                           "product f e f\nproduct f f f")
        # The power with the exponent k has k + 1 least generators.
        self.assertEqual(told, [2, 3, 5, 9, 17, 25, 41, 81])
        self.assertEqual(session.run("has f x^41*y^19*x^0\nhas e x^9*y^7\nhas e x^9*y^6"), [False, True, False])
        self.assertEqual(len(session.ideal_of("f")), 81)
        self.assertEqual(session.ideal_of("f")[0], ((1, (0, 80)),))
        self.assertEqual(session.run("quotient f e g\nmeet f g h\nsum f e f\ndim f\nquotient h h h"), [65, 81, 17, 0, 1])
        self.assertEqual(len(session.run("basis g")[0]), 65)

    def test_polynomials_of_many_terms(self):
        session = Session((2, 4, "degrevlex"))
        told = session.run("let a x^60+y^60+z+w+1\nlet b " + "+".join(f"x^{k}*y^{j}" for k in range(20)
                                                                    for j in range(20)) + "\nproduct a b c\nbasis c")
        self.assertEqual(told[:3], [1, 1, 1])
        self.assertGreater(told[3][0].count("+"), 1000)
        self.assertEqual(len(session.ideal_of("c")[0]), told[3][0].count("+") + 1)
        self.assertEqual(session.run("quotient c a d\nbasis d"), [1, session.run("basis b")[0:1][0]])

    def test_all_orders(self):
        for ring in rings(2, (5,), 2):
            session = Session(ring)
            session.run("let a x^2-y,x*y-1\nlet b x-2\nmeet a b c")
            polys = of_texts(ring, "x^2-y", "x*y-1")
            self.assertEqual(session.ideal_of("a"), basis(ring, polys))
            self.assertEqual(session.ideal_of("c"), meet(ring, polys, of_texts(ring, "x-2")))


class Faults(unittest.TestCase):

    def check(self, session, text, line, column):
        for method in (session.run, session.trial):
            with self.assertRaises(InvalidCommand, msg=text) as caught:
                method(text)
            self.assertEqual((caught.exception.line, caught.exception.column), (line, column), text)

    def session(self, ring=RING):
        session = Session(ring)
        session.run("let a x\nlet b y")
        return session

    def test_unknown_commands(self):
        session = self.session()
        for text, column in (("lets c x", 1), ("  foo", 3), ("LET c x", 1), ("a", 1), ("let,c x", 1), ("\tlet c x", 1),
                             ("basis\ta", 1), ("1", 1), ("undo", 1), ("-", 1), ("sum,a b c", 1), ("names", 1)):
            self.check(session, text, 1, column)

    def test_words_that_are_no_names(self):
        session = self.session()
        for word in ("A", "a1", "abcdefghi", "a,b", "a-b", "x,", "1", "_", "aB", "\ta", "a\t", "a\r", "\u00e9"):
            self.check(session, f"let {word} x", 1, 5)
            self.check(session, f"let   {word}", 1, 7)
            self.check(session, f"sum {word} b c", 1, 5)
            self.check(session, f"sum a {word} c", 1, 7)
            self.check(session, f"sum a  b  {word}", 1, 11)
            for command in ("basis", "dim", "has", "drop"):
                self.check(session, f"{command} {word}", 1, len(command) + 2)

    def test_names_that_stand_for_nothing(self):
        session = self.session()
        for command in ("sum", "product", "meet", "quotient"):
            start = len(command) + 2
            self.check(session, f"{command} c b d", 1, start)
            self.check(session, f"{command} a c d", 1, start + 2)
            self.check(session, f"{command} c d e", 1, start)
            self.check(session, f"{command} d d d", 1, start)
        for command in ("basis", "dim", "drop"):
            self.check(session, f"{command} c", 1, len(command) + 2)
        self.check(session, "has c x", 1, 5)
        self.check(session, "drop a\nbasis a", 2, 7)
        self.check(session, "drop a\ndrop a", 2, 6)
        self.check(session, "let c x\ndrop c\n\nsum a c a", 4, 7)
        self.check(session, "basis c\nlet c x", 1, 7)

    def test_a_word_too_many(self):
        session = self.session()
        for command in ("sum", "product", "meet", "quotient"):
            self.check(session, f"{command} a b c d", 1, len(command) + 8)
            self.check(session, f"{command} a b c   d e", 1, len(command) + 10)
            self.check(session, f"{command} a b c ,", 1, len(command) + 8)
        for command in ("basis", "dim", "drop"):
            self.check(session, f"{command} a b", 1, len(command) + 4)
            self.check(session, f" {command} a   1", 1, len(command) + 7)

    def test_a_missing_word(self):
        session = self.session()
        for command in ("let", "sum", "product", "meet", "quotient", "basis", "dim", "has", "drop"):
            self.check(session, command, 1, len(command) + 1)
            self.check(session, f"{command}   ", 1, len(command) + 4)
            self.check(session, f"  {command}", 1, len(command) + 3)
        for command in ("sum", "product", "meet", "quotient"):
            self.check(session, f"{command} a", 1, len(command) + 3)
            self.check(session, f"{command} a b", 1, len(command) + 5)
            self.check(session, f"{command} a b  ", 1, len(command) + 7)
            self.check(session, f"{command} c", 1, len(command) + 2)
        self.check(session, "has a", 1, 6)
        self.check(session, "has a  ", 1, 8)

    def test_faults_within_texts(self):
        session = self.session()
        for text, place in (("x+", 2), ("x*", 2), ("x++y", 2), ("2x", 1), ("z", 0), ("x^61", 2), ("x^", 2), ("01", 0),
                            ("1/3", 2), ("x y", 2), ("x^60*y", 5), ("-", 1), ("(x)", 0), ("x-;", 2), ("1/0", 2)):
            with self.assertRaises(InvalidText) as caught:
                read(RING, text)
            self.assertEqual(caught.exception.place, place)
            self.check(session, f"let c {text}", 1, 7 + place)
            self.check(session, f"let c  {text}", 1, 8 + place)
            self.check(session, f"let c x,{text}", 1, 9 + place)
            self.check(session, f"let c {text},x", 1, 7 + place)
            self.check(session, f"let c y , {text},+", 1, 11 + place)
            self.check(session, f"\nhas a {text}", 2, 7 + place)

    def test_texts_that_end_too_early(self):
        session = self.session()
        for line, column in (("let c x+ ,y", 10), ("let c x+  ", 11), ("let c ,", 7), ("let c x,", 9), ("let c x, ", 10),
                             ("let c ,x", 7), ("let c  ,x", 8), ("let c x,,y", 9), ("let c x, ,y", 10),
                             ("let c x,y,", 11), ("let c x^,y", 9), ("let c x*2/ , y", 12), ("has a x+", 9),
                             ("has a x*  ", 11), ("has a  ", 8), ("has a +", 8)):
            self.check(session, line, 1, column)

    def test_commas_in_the_text_of_has(self):
        session = self.session()
        self.check(session, "has a x,y", 1, 8)
        self.check(session, "has a ,", 1, 7)
        self.check(session, "has a x+,", 1, 9)

    def test_the_first_line_and_its_number(self):
        session = self.session()
        self.check(session, "let c x\n\n   \nfoo\nbar", 4, 1)
        self.check(session, "\n\n basis a b", 3, 10)
        self.check(session, "dim a\ndim c\nfoo", 2, 5)
        self.check(session, "let c x+\nfoo", 1, 9)

    def test_the_first_word(self):
        session = self.session()
        self.check(session, "sum 1 2 3", 1, 5)
        self.check(session, "sum a 2 3 4", 1, 7)
        self.check(session, "sum a b 3 4", 1, 9)
        self.check(session, "let A x+", 1, 5)
        self.check(session, "has c x+", 1, 5)
        self.check(session, "foo A", 1, 1)

    def test_variables_of_the_ring(self):
        self.check(self.session((3, 2, "lex")), "let c z", 1, 7)
        self.session((3, 3, "lex")).run("let c z")
        self.check(self.session((3, 3, "lex")), "let c w", 1, 7)

    def test_no_effect_at_all(self):
        session = self.session()
        kept = {name: session.ideal_of(name) for name in session.names()}
        for text in ("let a y\nlet c x\nfoo", "drop a\ndrop b\nhas c x", "sum a b a\nlet b x+", "let c x\nbasis d"):
            with self.assertRaises(InvalidCommand):
                session.run(text)
            self.assertEqual({name: session.ideal_of(name) for name in session.names()}, kept)
        self.assertIs(session.undo(), True)
        self.assertEqual(session.names(), ())
        self.assertIs(session.undo(), False)

    def test_not_texts(self):
        session = self.session()
        for method in (session.run, session.trial):
            for value in (None, 7, True, False, (), ("let a x",), [], ["let a x"], {}, {"let a x": 1}, 1.5):
                self.assertRaises(NotText, method, value)
        self.assertEqual(session.names(), ("a", "b"))

    def test_rings(self):
        for value in (None, 7, "lex", True, (), [3, 2, "lex"], (3, 2), (4, 2, "lex"), (3, 5, "lex"), (3, 2, "revlex"),
                      (3, 2, ["lex"]), {}):
            self.assertRaises(BadRing, Session, value)


class Keeping(unittest.TestCase):

    def test_trial(self):
        session = Session(RING)
        session.run("let a x")
        text = "let a y\nlet b x-1\nsum a b c\ndrop a\nbasis c\nhas c x-1"
        told = session.trial(text)
        self.assertEqual(told, [1, 1, 2, None, ["y", "x+2"], True])
        self.assertEqual(session.names(), ("a",))
        self.assertEqual(session.ideal_of("a"), of_texts(RING, "x"))
        self.assertEqual(session.trial(text), told)
        self.assertEqual(session.run(text), told)
        self.assertEqual(session.names(), ("b", "c"))
        self.assertIs(session.undo(), True)
        self.assertEqual(session.names(), ("a",))
        self.assertIs(session.undo(), True)
        self.assertIs(session.undo(), False)

    def test_undo(self):
        session = Session(RING)
        self.assertIs(session.undo(), False)
        session.run("let a x")
        session.run("let a y\nlet b x")
        session.run("drop a")
        self.assertEqual(session.names(), ("b",))
        self.assertIs(session.undo(), True)
        self.assertEqual(session.names(), ("a", "b"))
        self.assertEqual(session.ideal_of("a"), of_texts(RING, "y"))
        self.assertIs(session.undo(), True)
        self.assertEqual(session.names(), ("a",))
        self.assertEqual(session.ideal_of("a"), of_texts(RING, "x"))
        session.run("let c x")
        self.assertIs(session.undo(), True)
        self.assertIs(session.undo(), True)
        self.assertEqual(session.names(), ())
        self.assertIs(session.undo(), False)
        self.assertIs(session.undo(), False)
        session.run("let d x")
        self.assertIs(session.undo(), True)
        self.assertIs(session.undo(), False)

    def test_undo_after_errors_and_trials(self):
        session = Session(RING)
        session.run("let a x")
        for text in ("foo", "let b x\nfoo", "let b x+"):
            self.assertRaises(InvalidCommand, session.run, text)
        self.assertRaises(NotText, session.run, None)
        session.trial("let b x\ndrop a")
        self.assertRaises(InvalidCommand, session.trial, "foo")
        self.assertEqual(session.names(), ("a",))
        self.assertIs(session.undo(), True)
        self.assertEqual(session.names(), ())
        self.assertIs(session.undo(), False)

    def test_undo_of_runs_without_effect(self):
        session = Session(RING)
        session.run("let a x")
        session.run("dim a")
        session.run("")
        for expected in (True, True):
            self.assertIs(session.undo(), expected)
            self.assertEqual(session.names(), ("a",))
        self.assertIs(session.undo(), True)
        self.assertEqual(session.names(), ())
        self.assertIs(session.undo(), False)

    def test_two_sessions(self):
        one, other = Session(RING), Session((0, 3, "degrevlex"))
        one.run("let a x")
        other.run("let a z^2\nlet b x")
        self.assertEqual(one.names(), ("a",))
        self.assertEqual(other.names(), ("a", "b"))
        self.assertEqual(one.ideal_of("a"), of_texts(RING, "x"))
        self.assertEqual(other.ideal_of("a"), of_texts((0, 3, "degrevlex"), "z^2"))
        self.assertIs(one.undo(), True)
        self.assertIs(one.undo(), False)
        self.assertEqual(other.names(), ("a", "b"))
        third = Session(RING)
        self.assertEqual(third.names(), ())

    def test_names(self):
        session = Session(RING)
        self.assertEqual(session.names(), ())
        session.run("let b x\nlet aa x\nlet a x\nlet c x\ndrop c")
        self.assertIsInstance(session.names(), tuple)
        self.assertEqual(session.names(), ("a", "aa", "b"))

    def test_wrong_names(self):
        session = Session(RING)
        session.run("let a x\nlet b y\ndrop b")
        for value in ("b", "c", "", " a", "a ", "A", "abcdefghi", None, 7, True, (), ("a",), [], ["a"], {}, {"a": 1}):
            self.assertRaises(BadName, session.ideal_of, value)
        self.assertEqual(session.ideal_of("a"), of_texts(RING, "x"))

    def test_answers_are_new(self):
        session = Session(RING)
        session.run("let a x,y")
        told = session.run("basis a")
        told[0].append("z")
        told.append(None)
        self.assertEqual(session.run("basis a"), [["y", "x"]])

    def test_keywords(self):
        session = Session(ring=RING)
        self.assertEqual(session.run(text="let a x"), [1])
        self.assertEqual(session.trial(text="dim a"), [1])
        self.assertEqual(session.ideal_of(name="a"), of_texts(RING, "x"))


if __name__ == "__main__":
    unittest.main()
