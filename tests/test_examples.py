"""The examples of the document's interface, for the modules that have landed."""
import unittest

from idealcore.bases import basis, basis_gap, is_basis, leading_monomials, s_polynomial, standard_monomials
from idealcore.division import divide
from idealcore.eliminating import eliminate, in_image, kernel, preimage
from idealcore.errors import InvalidText
from idealcore.growth import expansion, growth_gap, grown, lex_ideal
from idealcore.hilbert import dimension, hilbert_function, hilbert_numerator, hilbert_polynomial, hilbert_stays
from idealcore.hilbert import independent_sets, multiplicity
from idealcore.ideals import ideal_power, ideal_product, ideal_sum, in_radical, meet, quotient, saturation
from idealcore.membership import member, normal_form, outsider, same_ideal, shows_basis, shows_member
from idealcore.numbers import number, number_inverse, number_product, number_sum
from idealcore.orders import compare, monomial_lcm, monomial_quotient, monomials
from idealcore.polys import degree, derivative, evaluate, leading, minus, parts, plus, polynomial, power, reordered
from idealcore.polys import scaled, substitute, times
from idealcore.resolutions import betti_numbers, minimal_generators, regularity, shows_resolution
from idealcore.resultants import common_divisor, common_multiple, resultant
from idealcore.syzygies import s_syzygies, syzygies, vector_syzygies
from idealcore.texts import read, write
from idealcore.vectors import module_basis, module_member, module_normal_form, shows_module_member


class Examples(unittest.TestCase):

    def test_numbers(self):
        self.assertEqual([number(0, 6, -4), number(7, 1, 3), number_sum(0, (1, 2), (1, 3)), number_product(5, 3, 4),
                          number_inverse(0, (-2, 3)), number_inverse(7, 3)],
                         [(-3, 2), 5, (5, 6), 2, (-3, 2), 5])

    def test_orders(self):
        self.assertEqual([compare((0, 2, "lex"), (1, 0), (0, 3)), compare((0, 2, "deglex"), (1, 0), (0, 3)),
                          compare((0, 3, "degrevlex"), (1, 0, 1), (0, 2, 0)),
                          compare((0, 3, "deglex"), (1, 0, 1), (0, 2, 0))], [1, -1, -1, 1])
        self.assertEqual([monomials((2, 2, "deglex"), 1), monomial_lcm((2, 2, "lex"), (1, 2), (3, 0)),
                          monomial_quotient((2, 2, "lex"), (3, 2), (1, 2)),
                          monomial_quotient((2, 2, "lex"), (0, 2), (1, 2))],
                         [[(0, 0), (0, 1), (1, 0)], (3, 2), (2, 0), None])

    def test_polys(self):
        ring = (5, 2, "lex")
        p = polynomial(ring, ((1, (0, 1)), (2, (1, 0)), (4, (0, 1))))
        self.assertEqual([p, plus(ring, p, ((1, (0, 0)),)),
                          times(ring, ((1, (1, 0)), (1, (0, 0))), ((1, (1, 0)), (4, (0, 0)))),
                          power(ring, ((1, (1, 0)), (1, (0, 0))), 5)],
                         [((2, (1, 0)),), ((2, (1, 0)), (1, (0, 0))), ((1, (2, 0)), (4, (0, 0))),
                          ((1, (5, 0)), (1, (0, 0)))])
        self.assertEqual([leading(ring, ()), degree(ring, ()), scaled(ring, p, 3), minus(ring, p, p)],
                         [None, -1, ((1, (1, 0)),), ()])

    def test_more_polys(self):
        ring = (5, 2, "lex")
        p = ((1, (1, 0)), (2, (0, 3)))
        self.assertEqual([evaluate(ring, p, (1, 2)), derivative(ring, p, 1), parts(ring, p),
                          reordered(ring, p, (5, 2, "deglex"))],
                         [2, ((1, (0, 2)),), [(1, ((1, (1, 0)),)), (3, ((2, (0, 3)),))],
                          ((2, (0, 3)), (1, (1, 0)))])
        self.assertEqual(substitute(ring, p, (5, 1, "lex"), (((1, (3,)),), ((1, (1,)),))), ((3, (3,)),))

    def test_texts(self):
        self.assertEqual([write((0, 2, "lex"), (((-1, 1), (2, 1)), ((1, 2), (0, 1)), ((-3, 1), (0, 0)))),
                          write((0, 2, "lex"), ()), read((7, 2, "lex"), " 2*x*x - 1/3*y + x^0")],
                         ['-x^2*y+1/2*y-3', '0', ((2, (2, 0)), (2, (0, 1)), (1, (0, 0)))])
        with self.assertRaises(InvalidText) as caught:
            read((7, 1, "lex"), "x+1/7")
        self.assertEqual(caught.exception.place, 4)

    def test_division(self):
        ring = (0, 2, "lex")
        self.assertEqual(divide(ring, (((1, 1), (3, 0)), ((1, 1), (0, 3))),
                                ((((1, 1), (2, 0)), ((1, 1), (0, 1))), (((1, 1), (0, 2)), ((1, 1), (0, 0))))),
                         (((((1, 1), (1, 0)),), (((1, 1), (0, 1)),)), (((-1, 1), (1, 1)), ((-1, 1), (0, 1)))))

    def test_bases(self):
        ring = (5, 2, "lex")
        p, q = ((1, (2, 0)), (4, (0, 1))), ((1, (1, 1)), (4, (0, 0)))
        self.assertEqual([s_polynomial(ring, p, q), basis_gap(ring, (p, q)), is_basis(ring, (p, q)),
                          basis(ring, (p, q))],
                         [((1, (1, 0)), (4, (0, 2))), (0, 1, ((1, (1, 0)), (4, (0, 2)))), False,
                          (((1, (0, 3)), (4, (0, 0))), ((1, (1, 0)), (4, (0, 2))))])
        self.assertEqual([leading_monomials(ring, (p, q)), standard_monomials(ring, (p, q), 3),
                          basis(ring, ((), ()))],
                         [((0, 3), (1, 0)), [(0, 0), (0, 1), (0, 2)], ()])

    def test_membership(self):
        ring = (5, 2, "lex")
        p, q, x = ((1, (2, 0)), (4, (0, 1))), ((1, (1, 1)), (4, (0, 0))), ((1, (1, 0)),)
        self.assertEqual([normal_form(ring, (p, q), x), member(ring, (p, q), x),
                          member(ring, (x,), ((1, (3, 0)),)),
                          shows_member(ring, (x,), ((1, (3, 0)),), (((1, (2, 0)),),))],
                         [((1, (0, 2)),), None, (((1, (2, 0)),),), True])
        self.assertEqual([outsider(ring, (p, x), (p, q)), same_ideal(ring, (x, p), (x, ((1, (0, 1)),))),
                          shows_basis(ring, (x,), ((x,), ((((1, (0, 0)),),),), ((((1, (0, 0)),),),)))],
                         [1, True, True])

    def test_ideals(self):
        ring = (3, 2, "lex")
        x, y, xy, xx = ((1, (1, 0)),), ((1, (0, 1)),), ((1, (1, 1)),), ((1, (2, 0)),)
        self.assertEqual([ideal_sum(ring, (xx,), (x,)), ideal_product(ring, (x, y), (x,)),
                          ideal_power(ring, (x, y), 2), meet(ring, (x,), (y,))],
                         [(((1, (1, 0)),),), (((1, (1, 1)),), ((1, (2, 0)),)),
                          (((1, (0, 2)),), ((1, (1, 1)),), ((1, (2, 0)),)), (((1, (1, 1)),),)])
        self.assertEqual([quotient(ring, (xy, xx), (x,)), saturation(ring, (xy, xx), y),
                          saturation(ring, (xy, xx), x), in_radical(ring, (xy, xx), x),
                          in_radical(ring, (xy, xx), y)],
                         [(((1, (0, 1)),), ((1, (1, 0)),)), (1, (((1, (1, 0)),),)), (2, (((1, (0, 0)),),)), 2, None])

    def test_eliminating(self):
        ring, line = (5, 2, "lex"), (5, 1, "lex")
        one, two, three = ((1, (1,)),), ((1, (2,)),), ((1, (3,)),)
        self.assertEqual([eliminate(ring, (((1, (1, 0)), (4, (0, 1))), ((1, (1, 1)), (4, (0, 0)))), (0,)),
                          kernel(ring, line, (two, three)), preimage(ring, line, (two, three), (one,))],
                         [(((1, (0, 2)), (4, (0, 0))),), (((1, (3, 0)), (4, (0, 2))),),
                          (((1, (0, 1)),), ((1, (1, 0)),))])
        self.assertEqual([in_image(ring, line, (two, three), one),
                          in_image(line, line, (two,), ((1, (4,)), (2, (0,))))], [None, ((1, (2,)), (2, (0,)))])

    def test_resultants(self):
        ring = (5, 2, "lex")
        p, q = ((1, (1, 0)), (4, (0, 1))), ((1, (1, 0)), (1, (0, 1)))
        self.assertEqual([resultant(ring, p, q, 0), resultant(ring, p, p, 0),
                          resultant(ring, p, ((2, (0, 0)),), 0), resultant(ring, (), q, 1)],
                         [((2, (0, 1)),), (), ((2, (0, 0)),), ()])
        self.assertEqual([common_multiple(ring, p, q), common_divisor(ring, p, q),
                          common_divisor(ring, ((2, (1, 0)),), ())],
                         [((1, (2, 0)), (4, (0, 2))), ((1, (0, 0)),), ((1, (1, 0)),)])

    def test_vectors(self):
        ring = (3, 1, "lex")
        x, one = ((1, (1,)),), ((1, (0,)),)
        self.assertEqual([module_basis(ring, 2, ((x, one), (one, ()))),
                          module_normal_form(ring, 2, ((x, one),), (x, ())),
                          module_member(ring, 2, ((x, one),), (x, ()))],
                         [(((), ((1, (0,)),)), (((1, (0,)),), ())), ((), ((2, (0,)),)), None])
        self.assertIs(shows_module_member(ring, 2, ((x, one), (one, ())), ((), one), (one, ((2, (1,)),))), True)

    def test_syzygies(self):
        ring = (3, 2, "lex")
        x, y = ((1, (1, 0)),), ((1, (0, 1)),)
        self.assertEqual([syzygies(ring, (x, y)), s_syzygies(ring, (x, y)),
                          vector_syzygies(ring, 2, ((x, y), (y, x))), syzygies(ring, (x, ()))],
                         [((((2, (0, 1)),), ((1, (1, 0)),)),), [(((1, (0, 1)),), ((2, (1, 0)),))], (),
                          (((), ((1, (0, 0)),)),)])

    def test_resolutions(self):
        ring = (3, 2, "lex")
        x, y, xy = ((1, (1, 0)),), ((1, (0, 1)),), ((1, (1, 1)),)
        self.assertEqual([minimal_generators(ring, (xy, x, y)), betti_numbers(ring, (xy, x, y)),
                          regularity(ring, (xy,)), betti_numbers(ring, ())],
                         [(1, 2), [(0, 0, 1), (1, 1, 2), (2, 2, 1)], 1, [(0, 0, 1)]])
        self.assertEqual([shows_resolution(ring, (x, y), (((x,), (y,)), ((y, ((2, (1, 0)),)),))),
                          shows_resolution(ring, (x, y), (((x,), (y,)),))], [True, False])

    def test_hilbert(self):
        ring = (3, 2, "lex")
        x, y, xy, xx = ((1, (1, 0)),), ((1, (0, 1)),), ((1, (1, 1)),), ((1, (2, 0)),)
        self.assertEqual([hilbert_function(ring, (xx, xy), 4), hilbert_numerator(ring, (xx, xy)),
                          hilbert_polynomial(ring, (xx, xy)), hilbert_stays(ring, (xx, xy))],
                         [(1, 2, 1, 1, 1), (1, 0, -2, 1), (1,), 2])
        self.assertEqual([multiplicity(ring, (xx, xy)), multiplicity(ring, (xy,)), dimension(ring, (xy,)),
                          independent_sets(ring, (xy,)), dimension(ring, (x, y)), hilbert_polynomial(ring, ())],
                         [1, 2, 1, [(0,), (1,)], 0, (1, 1)])

    def test_growth(self):
        self.assertEqual([expansion(11, 3), grown(11, 3), growth_gap(2, (1, 2, 3, 3, 4)),
                          growth_gap(2, (1, 2, 2, 2)), lex_ideal(2, (1, 2, 2, 1))],
                         [(5, 2), 16, 4, None, ((2, 0), (1, 2))])


if __name__ == "__main__":
    unittest.main()
