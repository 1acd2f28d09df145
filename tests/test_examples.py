"""The examples of the document's interface, for the modules that have landed."""
import unittest

from idealcore.bases import basis, basis_gap, is_basis, leading_monomials, s_polynomial, standard_monomials
from idealcore.division import divide
from idealcore.errors import InvalidText
from idealcore.membership import member, normal_form, outsider, same_ideal, shows_basis, shows_member
from idealcore.numbers import number, number_inverse, number_product, number_sum
from idealcore.orders import compare, monomial_lcm, monomial_quotient, monomials
from idealcore.polys import degree, derivative, evaluate, leading, minus, parts, plus, polynomial, power, reordered
from idealcore.polys import scaled, substitute, times
from idealcore.texts import read, write


class Examples(unittest.TestCase):

    def test_numbers(self):
        self.assertEqual([number(0, 6, -4), number(7, 1, 3), number_sum(0, (1, 2), (1, 3)), number_product(5, 3, 4),
                          number_inverse(0, (-2, 3)), number_inverse(7, 3)],
                         [(-3, 2), 5, (5, 6), 2, (-3, 2), 5])

    def test_orders(self):
        self.assertEqual([compare((0, 2, "lex"), (1, 0), (0, 3)), compare((0, 2, "deglex"), (1, 0), (0, 3)),
                          compare((0, 3, "degrevlex"), (1, 0, 1), (0, 2, 0)),
                          compare((0, 3, "deglex"), (1, 0, 1), (0, 2, 0))], [1, -1, -1, 1])
        self.assertEqual([monomials((2, 2, "deglex"), 1), monomial_lcm((2, 2, "lex"), (1, 2), (3, 0)),
                          monomial_quotient((2, 2, "lex"), (3, 2), (1, 2)),
                          monomial_quotient((2, 2, "lex"), (0, 2), (1, 2))],
                         [[(0, 0), (0, 1), (1, 0)], (3, 2), (2, 0), None])

    def test_polys(self):
        ring = (5, 2, "lex")
        p = polynomial(ring, ((1, (0, 1)), (2, (1, 0)), (4, (0, 1))))
        self.assertEqual([p, plus(ring, p, ((1, (0, 0)),)),
                          times(ring, ((1, (1, 0)), (1, (0, 0))), ((1, (1, 0)), (4, (0, 0)))),
                          power(ring, ((1, (1, 0)), (1, (0, 0))), 5)],
                         [((2, (1, 0)),), ((2, (1, 0)), (1, (0, 0))), ((1, (2, 0)), (4, (0, 0))),
                          ((1, (5, 0)), (1, (0, 0)))])
        self.assertEqual([leading(ring, ()), degree(ring, ()), scaled(ring, p, 3), minus(ring, p, p)],
                         [None, -1, ((1, (1, 0)),), ()])

    def test_more_polys(self):
        ring = (5, 2, "lex")
        p = ((1, (1, 0)), (2, (0, 3)))
        self.assertEqual([evaluate(ring, p, (1, 2)), derivative(ring, p, 1), parts(ring, p),
                          reordered(ring, p, (5, 2, "deglex"))],
                         [2, ((1, (0, 2)),), [(1, ((1, (1, 0)),)), (3, ((2, (0, 3)),))],
                          ((2, (0, 3)), (1, (1, 0)))])
        self.assertEqual(substitute(ring, p, (5, 1, "lex"), (((1, (3,)),), ((1, (1,)),))), ((3, (3,)),))

    def test_texts(self):
        self.assertEqual([write((0, 2, "lex"), (((-1, 1), (2, 1)), ((1, 2), (0, 1)), ((-3, 1), (0, 0)))),
                          write((0, 2, "lex"), ()), read((7, 2, "lex"), " 2*x*x - 1/3*y + x^0")],
                         ['-x^2*y+1/2*y-3', '0', ((2, (2, 0)), (2, (0, 1)), (1, (0, 0)))])
        with self.assertRaises(InvalidText) as caught:
            read((7, 1, "lex"), "x+1/7")
        self.assertEqual(caught.exception.place, 4)

    def test_division(self):
        ring = (0, 2, "lex")
        self.assertEqual(divide(ring, (((1, 1), (3, 0)), ((1, 1), (0, 3))),
                                ((((1, 1), (2, 0)), ((1, 1), (0, 1))), (((1, 1), (0, 2)), ((1, 1), (0, 0))))),
                         (((((1, 1), (1, 0)),), (((1, 1), (0, 1)),)), (((-1, 1), (1, 1)), ((-1, 1), (0, 1)))))

    def test_bases(self):
        ring = (5, 2, "lex")
        p, q = ((1, (2, 0)), (4, (0, 1))), ((1, (1, 1)), (4, (0, 0)))
        self.assertEqual([s_polynomial(ring, p, q), basis_gap(ring, (p, q)), is_basis(ring, (p, q)),
                          basis(ring, (p, q))],
                         [((1, (1, 0)), (4, (0, 2))), (0, 1, ((1, (1, 0)), (4, (0, 2)))), False,
                          (((1, (0, 3)), (4, (0, 0))), ((1, (1, 0)), (4, (0, 2))))])
        self.assertEqual([leading_monomials(ring, (p, q)), standard_monomials(ring, (p, q), 3),
                          basis(ring, ((), ()))],
                         [((0, 3), (1, 0)), [(0, 0), (0, 1), (0, 2)], ()])

    def test_membership(self):
        ring = (5, 2, "lex")
        p, q, x = ((1, (2, 0)), (4, (0, 1))), ((1, (1, 1)), (4, (0, 0))), ((1, (1, 0)),)
        self.assertEqual([normal_form(ring, (p, q), x), member(ring, (p, q), x),
                          member(ring, (x,), ((1, (3, 0)),)),
                          shows_member(ring, (x,), ((1, (3, 0)),), (((1, (2, 0)),),))],
                         [((1, (0, 2)),), None, (((1, (2, 0)),),), True])
        self.assertEqual([outsider(ring, (p, x), (p, q)), same_ideal(ring, (x, p), (x, ((1, (0, 1)),))),
                          shows_basis(ring, (x,), ((x,), ((((1, (0, 0)),),),), ((((1, (0, 0)),),),)))],
                         [1, True, True])


if __name__ == "__main__":
    unittest.main()
