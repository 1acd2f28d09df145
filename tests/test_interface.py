"""The interface of the document: each function stands in its own file and has the arguments that are listed."""
import importlib
import inspect
import unittest

from idealcore.sessions import Session

INTERFACE = {
    "numbers": ["number(field, n, d)", "number_sum(field, a, b)", "number_product(field, a, b)",
                "number_inverse(field, a)"],
    "orders": ["compare(ring, one, other)", "order_rows(ring)", "monomials(ring, degree)",
               "monomial_lcm(ring, one, other)", "monomial_quotient(ring, one, other)"],
    "polys": ["polynomial(ring, terms)", "plus(ring, p, q)", "minus(ring, p, q)", "times(ring, p, q)",
              "scaled(ring, p, number)", "power(ring, p, exponent)", "leading(ring, p)", "degree(ring, p)",
              "evaluate(ring, p, point)", "derivative(ring, p, place)", "substitute(ring, p, target, values)",
              "reordered(ring, p, other)", "parts(ring, p)"],
    "texts": ["write(ring, p)", "read(ring, text)"],
    "division": ["divide(ring, p, divisors)"],
    "bases": ["s_polynomial(ring, p, q)", "basis_gap(ring, polys)", "is_basis(ring, polys)", "basis(ring, polys)",
              "leading_monomials(ring, polys)", "standard_monomials(ring, polys, degree)"],
    "membership": ["basis_certificate(ring, polys)", "shows_basis(ring, polys, value)", "normal_form(ring, polys, p)",
                   "member(ring, polys, p)", "shows_member(ring, polys, p, value)", "same_ideal(ring, one, other)",
                   "outsider(ring, one, other)"],
    "ideals": ["ideal_sum(ring, one, other)", "ideal_product(ring, one, other)", "ideal_power(ring, polys, exponent)",
               "meet(ring, one, other)", "quotient(ring, one, other)", "saturation(ring, polys, p)",
               "in_radical(ring, polys, p)"],
    "eliminating": ["eliminate(ring, polys, places)", "kernel(ring, target, values)",
                    "preimage(ring, target, values, polys)", "in_image(ring, target, values, p)"],
    "resultants": ["resultant(ring, p, q, place)", "common_multiple(ring, p, q)", "common_divisor(ring, p, q)"],
    "vectors": ["module_basis(ring, rank, vectors)", "module_normal_form(ring, rank, vectors, vector)",
                "module_member(ring, rank, vectors, vector)",
                "shows_module_member(ring, rank, vectors, vector, value)"],
    "syzygies": ["syzygies(ring, polys)", "vector_syzygies(ring, rank, vectors)", "s_syzygies(ring, polys)"],
    "resolutions": ["minimal_generators(ring, polys)", "resolution(ring, polys)",
                    "shows_resolution(ring, polys, value)", "betti_numbers(ring, polys)", "regularity(ring, polys)"],
    "hilbert": ["hilbert_function(ring, polys, degree)", "hilbert_numerator(ring, polys)",
                "hilbert_polynomial(ring, polys)", "hilbert_stays(ring, polys)", "multiplicity(ring, polys)",
                "independent_sets(ring, polys)", "dimension(ring, polys)"],
    "growth": ["expansion(number, degree)", "grown(number, degree)", "growth_gap(many, values)",
               "lex_ideal(many, values)"],
    "monoideals": ["least_monomials(many, monos)", "mono_meet(many, one, other)", "mono_quotient(many, monos, mono)",
                   "mono_radical(many, monos)", "irreducible_parts(many, monos)", "associated(many, monos)",
                   "witness(many, monos, places)", "shows_witness(many, monos, places, value)",
                   "primary_parts(many, monos)", "quotient_order(many, monos)",
                   "shows_quotient_order(many, monos, value)"],
    "complexes": ["faces(many, facets)", "f_vector(many, facets)", "nonfaces(many, facets)", "complex_of(many, sets)",
                  "covers(many, sets)", "dual_complex(many, facets)", "homology(field, many, facets)",
                  "hochster(field, many, sets)", "square_betti(field, many, sets)", "polarized(many, monos)"],
    "zeros": ["is_finite(ring, polys)", "quotient_basis(ring, polys)", "times_matrix(ring, polys, p)",
              "least_polynomial(ring, polys, p)"],
    "points": ["zeros(ring, polys)", "field_basis(ring, polys)", "no_zero(ring, polys)",
               "shows_no_zero(ring, polys, value)", "points_ideal(ring, points)", "separators(ring, points)",
               "interpolated(ring, points, values)"],
    "lattices": ["lattice_ideal(ring, matrix)", "fibre(matrix, some)", "cheapest(matrix, costs, some)",
                 "is_joined(matrix, moves, one, other)", "walk(matrix, moves, one, other)",
                 "unjoined(matrix, moves)"],
    "changing": ["changed(ring, polys, other)", "graded_basis(ring, polys, degree)",
                 "weight_bases(ring, polys, most)", "universal(ring, polys, most)"],
    "primary": ["primary_ideals(ring, polys)", "part_count(ring, polys)", "idempotents(ring, polys)"],
}
SESSION = ["run(self, text)", "trial(self, text)", "names(self)", "ideal_of(self, name)", "undo(self)"]


class Interface(unittest.TestCase):

    def test_each_function(self):
        for file, calls in INTERFACE.items():
            module = importlib.import_module(f"idealcore.{file}")
            for call in calls:
                name = call.split("(")[0]
                function = getattr(module, name)
                self.assertTrue(inspect.isfunction(function), name)
                self.assertEqual(function.__module__, f"idealcore.{file}", name)
                self.assertEqual(f"{name}{inspect.signature(function)}", call)

    def test_the_class_of_sessions(self):
        self.assertEqual(str(inspect.signature(Session)), "(ring)")
        self.assertEqual(Session.__module__, "idealcore.sessions")
        for call in SESSION:
            name = call.split("(")[0]
            self.assertIn(name, vars(Session))
            self.assertEqual(f"{name}{inspect.signature(vars(Session)[name])}", call)


if __name__ == "__main__":
    unittest.main()
