"""The examples of the document's interface, as they stand there."""
import unittest

from idealcore.bases import basis, basis_gap, is_basis, leading_monomials, s_polynomial, standard_monomials
from idealcore.changing import changed, graded_basis, universal, weight_bases
from idealcore.complexes import complex_of, covers, dual_complex, f_vector, faces, hochster, homology, nonfaces
from idealcore.complexes import polarized, square_betti
from idealcore.division import divide
from idealcore.eliminating import eliminate, in_image, kernel, preimage
from idealcore.errors import InvalidCommand, InvalidText, NotFinite
from idealcore.growth import expansion, growth_gap, grown, lex_ideal
from idealcore.hilbert import dimension, hilbert_function, hilbert_numerator, hilbert_polynomial, hilbert_stays
from idealcore.hilbert import independent_sets, multiplicity
from idealcore.ideals import ideal_power, ideal_product, ideal_sum, in_radical, meet, quotient, saturation
from idealcore.lattices import cheapest, fibre, is_joined, lattice_ideal, unjoined, walk
from idealcore.membership import member, normal_form, outsider, same_ideal, shows_basis, shows_member
from idealcore.monoideals import associated, irreducible_parts, least_monomials, mono_meet, mono_quotient, mono_radical
from idealcore.monoideals import primary_parts, quotient_order, shows_quotient_order, shows_witness, witness
from idealcore.numbers import number, number_inverse, number_product, number_sum
from idealcore.orders import compare, monomial_lcm, monomial_quotient, monomials
from idealcore.points import field_basis, interpolated, no_zero, points_ideal, separators, shows_no_zero, zeros
from idealcore.polys import degree, derivative, evaluate, leading, minus, parts, plus, polynomial, power, reordered
from idealcore.polys import scaled, substitute, times
from idealcore.primary import idempotents, part_count, primary_ideals
from idealcore.resolutions import betti_numbers, minimal_generators, regularity, shows_resolution
from idealcore.resultants import common_divisor, common_multiple, resultant
from idealcore.sessions import Session
from idealcore.syzygies import s_syzygies, syzygies, vector_syzygies
from idealcore.texts import read, write
from idealcore.vectors import module_basis, module_member, module_normal_form, shows_module_member
from idealcore.zeros import is_finite, least_polynomial, quotient_basis, times_matrix


class Examples(unittest.TestCase):

    def test_numbers(self):
        self.assertEqual([number(0, 6, -4), number(7, 1, 3), number_sum(0, (1, 2), (1, 3)), number_product(5, 3, 4),
                          number_inverse(0, (-2, 3)), number_inverse(7, 3)],
                         [(-3, 2), 5, (5, 6), 2, (-3, 2), 5])

    def test_orders(self):
        self.assertEqual([compare((0, 2, "lex"), (1, 0), (0, 3)), compare((0, 2, "deglex"), (1, 0), (0, 3)),
                          compare((0, 3, "degrevlex"), (1, 0, 1), (0, 2, 0)),
                          compare((0, 3, "deglex"), (1, 0, 1), (0, 2, 0))], [1, -1, -1, 1])
        self.assertEqual([monomials((2, 2, "deglex"), 1), monomial_lcm((2, 2, "lex"), (1, 2), (3, 0)),
                          monomial_quotient((2, 2, "lex"), (3, 2), (1, 2)),
                          monomial_quotient((2, 2, "lex"), (0, 2), (1, 2))],
                         [[(0, 0), (0, 1), (1, 0)], (3, 2), (2, 0), None])

    def test_polys(self):
        ring = (5, 2, "lex")
        p = polynomial(ring, ((1, (0, 1)), (2, (1, 0)), (4, (0, 1))))
        self.assertEqual([p, plus(ring, p, ((1, (0, 0)),)),
                          times(ring, ((1, (1, 0)), (1, (0, 0))), ((1, (1, 0)), (4, (0, 0)))),
                          power(ring, ((1, (1, 0)), (1, (0, 0))), 5)],
                         [((2, (1, 0)),), ((2, (1, 0)), (1, (0, 0))), ((1, (2, 0)), (4, (0, 0))),
                          ((1, (5, 0)), (1, (0, 0)))])
        self.assertEqual([leading(ring, ()), degree(ring, ()), scaled(ring, p, 3), minus(ring, p, p)],
                         [None, -1, ((1, (1, 0)),), ()])

    def test_more_polys(self):
        ring = (5, 2, "lex")
        p = ((1, (1, 0)), (2, (0, 3)))
        self.assertEqual([evaluate(ring, p, (1, 2)), derivative(ring, p, 1), parts(ring, p),
                          reordered(ring, p, (5, 2, "deglex"))],
                         [2, ((1, (0, 2)),), [(1, ((1, (1, 0)),)), (3, ((2, (0, 3)),))],
                          ((2, (0, 3)), (1, (1, 0)))])
        self.assertEqual(substitute(ring, p, (5, 1, "lex"), (((1, (3,)),), ((1, (1,)),))), ((3, (3,)),))

    def test_texts(self):
        self.assertEqual([write((0, 2, "lex"), (((-1, 1), (2, 1)), ((1, 2), (0, 1)), ((-3, 1), (0, 0)))),
                          write((0, 2, "lex"), ()), read((7, 2, "lex"), " 2*x*x - 1/3*y + x^0")],
                         ['-x^2*y+1/2*y-3', '0', ((2, (2, 0)), (2, (0, 1)), (1, (0, 0)))])
        with self.assertRaises(InvalidText) as caught:
            read((7, 1, "lex"), "x+1/7")
        self.assertEqual(caught.exception.place, 4)

    def test_division(self):
        ring = (0, 2, "lex")
        self.assertEqual(divide(ring, (((1, 1), (3, 0)), ((1, 1), (0, 3))),
                                ((((1, 1), (2, 0)), ((1, 1), (0, 1))), (((1, 1), (0, 2)), ((1, 1), (0, 0))))),
                         (((((1, 1), (1, 0)),), (((1, 1), (0, 1)),)), (((-1, 1), (1, 1)), ((-1, 1), (0, 1)))))

    def test_bases(self):
        ring = (5, 2, "lex")
        p, q = ((1, (2, 0)), (4, (0, 1))), ((1, (1, 1)), (4, (0, 0)))
        self.assertEqual([s_polynomial(ring, p, q), basis_gap(ring, (p, q)), is_basis(ring, (p, q)),
                          basis(ring, (p, q))],
                         [((1, (1, 0)), (4, (0, 2))), (0, 1, ((1, (1, 0)), (4, (0, 2)))), False,
                          (((1, (0, 3)), (4, (0, 0))), ((1, (1, 0)), (4, (0, 2))))])
        self.assertEqual([leading_monomials(ring, (p, q)), standard_monomials(ring, (p, q), 3),
                          basis(ring, ((), ()))],
                         [((0, 3), (1, 0)), [(0, 0), (0, 1), (0, 2)], ()])

    def test_membership(self):
        ring = (5, 2, "lex")
        p, q, x = ((1, (2, 0)), (4, (0, 1))), ((1, (1, 1)), (4, (0, 0))), ((1, (1, 0)),)
        self.assertEqual([normal_form(ring, (p, q), x), member(ring, (p, q), x),
                          member(ring, (x,), ((1, (3, 0)),)),
                          shows_member(ring, (x,), ((1, (3, 0)),), (((1, (2, 0)),),))],
                         [((1, (0, 2)),), None, (((1, (2, 0)),),), True])
        self.assertEqual([outsider(ring, (p, x), (p, q)), same_ideal(ring, (x, p), (x, ((1, (0, 1)),))),
                          shows_basis(ring, (x,), ((x,), ((((1, (0, 0)),),),), ((((1, (0, 0)),),),)))],
                         [1, True, True])

    def test_ideals(self):
        ring = (3, 2, "lex")
        x, y, xy, xx = ((1, (1, 0)),), ((1, (0, 1)),), ((1, (1, 1)),), ((1, (2, 0)),)
        self.assertEqual([ideal_sum(ring, (xx,), (x,)), ideal_product(ring, (x, y), (x,)),
                          ideal_power(ring, (x, y), 2), meet(ring, (x,), (y,))],
                         [(((1, (1, 0)),),), (((1, (1, 1)),), ((1, (2, 0)),)),
                          (((1, (0, 2)),), ((1, (1, 1)),), ((1, (2, 0)),)), (((1, (1, 1)),),)])
        self.assertEqual([quotient(ring, (xy, xx), (x,)), saturation(ring, (xy, xx), y),
                          saturation(ring, (xy, xx), x), in_radical(ring, (xy, xx), x),
                          in_radical(ring, (xy, xx), y)],
                         [(((1, (0, 1)),), ((1, (1, 0)),)), (1, (((1, (1, 0)),),)), (2, (((1, (0, 0)),),)), 2, None])

    def test_eliminating(self):
        ring, line = (5, 2, "lex"), (5, 1, "lex")
        one, two, three = ((1, (1,)),), ((1, (2,)),), ((1, (3,)),)
        self.assertEqual([eliminate(ring, (((1, (1, 0)), (4, (0, 1))), ((1, (1, 1)), (4, (0, 0)))), (0,)),
                          kernel(ring, line, (two, three)), preimage(ring, line, (two, three), (one,))],
                         [(((1, (0, 2)), (4, (0, 0))),), (((1, (3, 0)), (4, (0, 2))),),
                          (((1, (0, 1)),), ((1, (1, 0)),))])
        self.assertEqual([in_image(ring, line, (two, three), one),
                          in_image(line, line, (two,), ((1, (4,)), (2, (0,))))], [None, ((1, (2,)), (2, (0,)))])

    def test_resultants(self):
        ring = (5, 2, "lex")
        p, q = ((1, (1, 0)), (4, (0, 1))), ((1, (1, 0)), (1, (0, 1)))
        self.assertEqual([resultant(ring, p, q, 0), resultant(ring, p, p, 0),
                          resultant(ring, p, ((2, (0, 0)),), 0), resultant(ring, (), q, 1)],
                         [((2, (0, 1)),), (), ((2, (0, 0)),), ()])
        self.assertEqual([common_multiple(ring, p, q), common_divisor(ring, p, q),
                          common_divisor(ring, ((2, (1, 0)),), ())],
                         [((1, (2, 0)), (4, (0, 2))), ((1, (0, 0)),), ((1, (1, 0)),)])

    def test_vectors(self):
        ring = (3, 1, "lex")
        x, one = ((1, (1,)),), ((1, (0,)),)
        self.assertEqual([module_basis(ring, 2, ((x, one), (one, ()))),
                          module_normal_form(ring, 2, ((x, one),), (x, ())),
                          module_member(ring, 2, ((x, one),), (x, ()))],
                         [(((), ((1, (0,)),)), (((1, (0,)),), ())), ((), ((2, (0,)),)), None])
        self.assertIs(shows_module_member(ring, 2, ((x, one), (one, ())), ((), one), (one, ((2, (1,)),))), True)

    def test_syzygies(self):
        ring = (3, 2, "lex")
        x, y = ((1, (1, 0)),), ((1, (0, 1)),)
        self.assertEqual([syzygies(ring, (x, y)), s_syzygies(ring, (x, y)),
                          vector_syzygies(ring, 2, ((x, y), (y, x))), syzygies(ring, (x, ()))],
                         [((((2, (0, 1)),), ((1, (1, 0)),)),), [(((1, (0, 1)),), ((2, (1, 0)),))], (),
                          (((), ((1, (0, 0)),)),)])

    def test_resolutions(self):
        ring = (3, 2, "lex")
        x, y, xy = ((1, (1, 0)),), ((1, (0, 1)),), ((1, (1, 1)),)
        self.assertEqual([minimal_generators(ring, (xy, x, y)), betti_numbers(ring, (xy, x, y)),
                          regularity(ring, (xy,)), betti_numbers(ring, ())],
                         [(1, 2), [(0, 0, 1), (1, 1, 2), (2, 2, 1)], 1, [(0, 0, 1)]])
        self.assertEqual([shows_resolution(ring, (x, y), (((x,), (y,)), ((y, ((2, (1, 0)),)),))),
                          shows_resolution(ring, (x, y), (((x,), (y,)),))], [True, False])

    def test_hilbert(self):
        ring = (3, 2, "lex")
        x, y, xy, xx = ((1, (1, 0)),), ((1, (0, 1)),), ((1, (1, 1)),), ((1, (2, 0)),)
        self.assertEqual([hilbert_function(ring, (xx, xy), 4), hilbert_numerator(ring, (xx, xy)),
                          hilbert_polynomial(ring, (xx, xy)), hilbert_stays(ring, (xx, xy))],
                         [(1, 2, 1, 1, 1), (1, 0, -2, 1), (1,), 2])
        self.assertEqual([multiplicity(ring, (xx, xy)), multiplicity(ring, (xy,)), dimension(ring, (xy,)),
                          independent_sets(ring, (xy,)), dimension(ring, (x, y)), hilbert_polynomial(ring, ())],
                         [1, 2, 1, [(0,), (1,)], 0, (1, 1)])

    def test_growth(self):
        self.assertEqual([expansion(11, 3), grown(11, 3), growth_gap(2, (1, 2, 3, 3, 4)),
                          growth_gap(2, (1, 2, 2, 2)), lex_ideal(2, (1, 2, 2, 1))],
                         [(5, 2), 16, 4, None, ((2, 0), (1, 2))])

    def test_monoideals(self):
        monos = ((2, 0), (1, 1), (3, 1))
        self.assertEqual([least_monomials(2, monos), mono_meet(2, ((1, 0),), ((0, 2),)),
                          mono_quotient(2, monos, (1, 0)), mono_radical(2, monos)],
                         [((1, 1), (2, 0)), ((1, 2),), ((0, 1), (1, 0)), ((1, 0),)])
        self.assertEqual([irreducible_parts(2, monos), associated(2, monos), irreducible_parts(2, ()),
                          associated(2, ()), irreducible_parts(2, ((0, 0),))],
                         [((1, 0), (2, 1)), ((0,), (0, 1)), ((0, 0),), ((),), ()])

    def test_more_monoideals(self):
        monos = ((2, 0), (1, 1))
        self.assertEqual([primary_parts(2, monos), shows_witness(2, monos, (0, 1), (1, 0)),
                          shows_witness(2, monos, (0,), (0, 1)), witness(2, monos, (1,))],
                         [[((0,), ((1, 0),)), ((0, 1), ((0, 1), (2, 0)))], True, True, None])
        self.assertEqual([shows_quotient_order(2, monos, (1, 0)), quotient_order(2, ((3, 0), (0, 3))),
                          quotient_order(2, ())], [True, None, ()])

    def test_complexes(self):
        ring = ((0, 1), (0, 2), (1, 2))
        self.assertEqual([f_vector(3, ring), nonfaces(3, ring), complex_of(3, ((0, 1, 2),)), covers(3, ring),
                          dual_complex(3, ring), faces(2, ((),))],
                         [(1, 3, 3), ((0, 1, 2),), ((0, 1), (0, 2), (1, 2)), ((0, 1), (0, 2), (1, 2)), ((),), [()]])
        self.assertEqual([homology(2, 3, ring), hochster(0, 2, ((0,), (1,))), square_betti(0, 3, ring),
                          polarized(2, ((2, 0), (1, 1)))],
                         [(0, 0, 1, 0), [(0, (), 1), (1, (0,), 1), (1, (1,), 1), (2, (0, 1), 1)],
                          [(0, 0, 1), (1, 2, 3), (2, 3, 2)], (3, ((0, 2), (0, 1)))])

    def test_zeros(self):
        ring = (5, 2, "lex")
        x, xx, yy = ((1, (1, 0)),), ((1, (2, 0)), (4, (0, 1))), ((1, (0, 2)), (3, (0, 0)))
        self.assertEqual([is_finite(ring, (xx,)), quotient_basis(ring, (xx, yy)), times_matrix(ring, (xx, yy), x),
                          least_polynomial(ring, (xx, yy), x)],
                         [False, ((0, 0), (0, 1), (1, 0), (1, 1)),
                          ((0, 0, 1, 0), (0, 0, 0, 1), (0, 1, 0, 0), (2, 0, 0, 0)), (3, 0, 0, 0, 1)])
        self.assertRaises(NotFinite, quotient_basis, ring, (xx,))

    def test_points(self):
        ring = (3, 2, "lex")
        x, one = ((1, (1, 0)),), ((1, (0, 0)),)
        self.assertEqual([zeros(ring, (x,)), field_basis(ring, (x,)), no_zero(ring, (x,)),
                          zeros(ring, (x, ((1, (1, 0)), (1, (0, 0))))), shows_no_zero(ring, (one,), (one, (), ()))],
                         [((0, 0), (0, 1), (0, 2)), (((1, (0, 3)), (2, (0, 1))), ((1, (1, 0)),)), None, (), True])
        self.assertEqual([points_ideal(ring, ((0, 0), (1, 0))), separators(ring, ((0, 0), (1, 0))),
                          interpolated(ring, ((0, 0), (1, 0)), (2, 0)), points_ideal(ring, ())],
                         [(((1, (0, 1)),), ((1, (2, 0)), (2, (1, 0)))),
                          (((2, (1, 0)), (1, (0, 0))), ((1, (1, 0)),)), ((1, (1, 0)), (2, (0, 0))),
                          (((1, (0, 0)),),)])

    def test_lattices(self):
        coins = ((1, 2, 3),)
        self.assertEqual([lattice_ideal((3, 2, "lex"), ((2, 3),)), fibre(coins, (0, 0, 1)),
                          cheapest(coins, (1, 1, 1), (6, 0, 0)), cheapest(coins, (1, 3, 5), (0, 0, 2))],
                         [(((1, (3, 0)), (2, (0, 2))),), [(0, 0, 1), (1, 1, 0), (3, 0, 0)], (0, 0, 2), (6, 0, 0)])
        self.assertEqual([is_joined(coins, ((2, -1, 0),), (2, 0, 0), (0, 1, 0)),
                          is_joined(coins, ((2, -1, 0),), (1, 1, 0), (0, 0, 1)),
                          walk(((2, 3),), ((3, -2),), (3, 0), (0, 2)), unjoined(coins, ((2, -1, 0), (1, 1, -1)))],
                         [True, False, ((3, 0), (0, 2)), None])

    def test_changing(self):
        ring, other = (5, 2, "deglex"), (5, 2, "lex")
        p, q = ((1, (2, 0)), (4, (0, 1))), ((1, (0, 2)), (4, (1, 0)))
        self.assertEqual([changed(ring, (p, q), other),
                          graded_basis(ring, (((1, (1, 1)),), ((1, (2, 0)), (4, (0, 2)))), 2)],
                         [(((1, (0, 4)), (4, (0, 1))), ((1, (1, 0)), (4, (0, 2)))),
                          (((1, (1, 1)),), ((1, (2, 0)), (4, (0, 2))))])
        self.assertEqual([weight_bases(ring, (p,), 2), universal(ring, (p,), 3)],
                         [[((1, 1), (((1, (2, 0)), (4, (0, 1))),))], [((1, (2, 0)), (4, (0, 1)))]])

    def test_primary(self):
        ring = (3, 1, "lex")
        p, q = ((1, (3,)), (2, (2,))), ((1, (2,)), (1, (0,)))
        self.assertEqual([primary_ideals(ring, (p,)), part_count(ring, (p,)), idempotents(ring, (p,)),
                          part_count(ring, (q,)), primary_ideals(ring, (q,)) == [(q,)]],
                         [[(((1, (1,)), (2, (0,))),), (((1, (2,)),),)], 2, [((1, (2,)),), ((2, (2,)), (1, (0,)))], 1,
                          True])

    def test_sessions(self):
        session = Session((3, 2, "lex"))
        told = session.run("let a x, y\nlet b x-1\n\nmeet a b c\nbasis c\nhas c x*y - y")
        self.assertEqual([told, session.names(), session.trial("dim b"), session.undo(), session.names()],
                         [[2, 1, 2, ['x*y+2*y', 'x^2+2*x'], True], ('a', 'b', 'c'), [1], True, ()])
        session = Session((3, 2, "lex"))
        with self.assertRaises(InvalidCommand) as caught:
            session.run("let a x\n\nsum a b c")
        self.assertEqual((caught.exception.line, caught.exception.column), (3, 7))


if __name__ == "__main__":
    unittest.main()
