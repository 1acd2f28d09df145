"""Point 1, for all functions that have landed: wrong arguments of every kind, the leftmost error, no changes."""
import copy
import unittest

from idealcore import bases, changing, complexes, division, eliminating, errors, growth, hilbert, ideals, lattices
from idealcore import membership, monoideals, numbers, orders, points, polys, primary, resolutions, resultants, syzygies
from idealcore import texts, vectors, zeros

RING = (0, 2, "lex")
X = (((1, 1), (1, 0)),)
Y = (((1, 1), (0, 1)),)
P = (((1, 1), (2, 0)), ((-1, 2), (0, 1)))
TARGET = (0, 1, "deglex")
PRIME = (5, 2, "lex")
PX = ((1, (1, 0)),)
PY = ((2, (0, 3)), (1, (0, 0)))
MONOS = ((2, 0), (1, 1))
SQUARE = ((0, 1), (1, 2))
COINS = ((1, 2, 3),)
MOVES = ((2, -1, 0), (1, 1, -1))
ODD = [7, -1, "x", "", True, False, None, (), (1,), ((),), (None, None), [], [1], {}, {"a": 1}, (0, 2), "lex", ((1, 1),)]

WRONG = {
    "field": ("BadField", [1, 4, -1, 32, 37, True, False, None, "0", (0,), (), [], [0], {}, {0: 0}]),
    "number": ("BadNumber", [7, 0, True, None, "1", (), (1,), (2, 2), (1, -1), (1, 0), (0, 2), (1, 1, 1), [1, 1], {},
                             (True, 1), (1, True), (10 ** 200, 1), (1, 10 ** 200), (-10 ** 200, 1), ("1", 1)]),
    "modular": ("BadNumber", [7, -1, True, False, None, "1", (), (1, 1), [1], {}, {1: 1}]),
    "integer": ("BadInteger", [True, False, None, "1", (), (1,), [1], {}, {1: 1}]),
    "degree": ("BadInteger", [-1, 13, True, False, None, "1", (), (1,), [1], {}]),
    "ring": ("BadRing", [7, "lex", True, None, (), (0, 2), [0, 2, "lex"], {}, (0, 2, "lex", 1), (4, 2, "lex"),
                         (False, 2, "lex"), (0, 0, "lex"), (0, 5, "lex"), (0, True, "lex"), (0, 2, "revlex"),
                         (0, 2, None), (0, 2, ["lex"]), (0, 2, {}), (0, 2, ()), (0, 2, ("lex",)), ([], 2, "lex"),
                         (0, 2, ("block", 0)), (0, 2, ("block", 2)), (0, 2, ("block", True)), (0, 2, ["block", 1]),
                         (0, 2, ("block",)), (0, 2, ("block", 1, 1)), (0, 1, ("block", 1)), (0, 2, ("block", (1,))),
                         (0, 2, ("weights", (1,))), (0, 2, ("weights", (1, 0))), (0, 2, ("weights", (1, 21))),
                         (0, 2, ("weights", [1, 1])), (0, 2, ("weights", (1, True))), (0, 2, ("weights", (1, 1, 1))),
                         (0, 2, ("weights", 1)), (0, 2, ("other", 1)), (0, 2, (["block"], 1)), (31.5, 2, "lex")]),
    "monomial": ("BadMonomial", [7, "x", True, None, (), (1,), (1, 1, 1), [1, 1], {}, (-1, 1), (61, 0), (31, 30),
                                 (True, 0), (1, "1"), (None, 1), ((1, 1), 1)]),
    "polynomial": ("BadPolynomial", [7, "x", True, None, [], [1], {}, (1,), (None,), (((1, 1),),), ((1, (1, 0)),),
                                     (((0, 1), (1, 0)),), (((1, 1), (1,)),), (((1, 1), (61, 0)),), (X,), X + X,
                                     Y + X, [((1, 1), (1, 0))], ([(1, 1), (1, 0)],), (((1, 1), (1, 0), 1),),
                                     (((2, 2), (1, 0)),), (((1, 1), [1, 0]),)]),
    "text": ("NotText", [7, True, None, (), ("x",), [], ["x"], {}, {"x": 1}]),
    "point": ("BadPoint", [7, "x", True, None, (), ((1, 1),), ((1, 1), (1, 1), (1, 1)), ((1, 1), (2, 2)), (1, 1),
                           [(1, 1), (1, 1)], {}, ((1, 1), None)]),
    "exponent": ("BadInteger", [-1, 5, True, False, None, "1", (), (1,), [1], {}]),
    "many": ("BadInteger", [0, 7, -1, True, False, None, "1", (), (1,), [1], {}]),
    "amount": ("BadInteger", [-1, 1000001, True, False, None, "1", (), (1,), [1], {}]),
    "level": ("BadInteger", [0, 13, -1, True, False, None, "1", (), (1,), [1], {}]),
    "far degree": ("BadInteger", [-1, 41, True, False, None, "1", (), (1,), [1], {}]),
    "values": ("BadValues", [(), None, 1, True, "1", [], [1], {}, {0: 1}, (1, None), (1, True), (-1,), (1000001,),
                             (1,) * 14, ("1",), ((1,),)]),
    "places": ("BadPlaces", [(0, 1), (0, 0), (1, 0), (True,), (2,), (-1,), [0], [], None, 0, "0", {}, (None,)]),
    "rank": ("BadRank", [0, 13, -1, True, False, None, "1", (), (1,), [1], {}]),
    "vector": ("BadVector", [7, "x", True, None, (), X, (X,), (X, X, X), [X, X], {}, (X, None), (None, X), (X, [X]),
                             (X, X + X), (X, ((1, (1, 0)),))]),
    "eight": ("BadInteger", [0, 9, -1, True, False, None, "1", (), (1,), [1], {}]),
    "mono": ("BadMonomial", [7, "x", True, None, (), (1,), (1, 1, 1), [1, 1], {}, (-1, 1), (9, 0), (True, 0), (1, "1"),
                             (None, 1), ((1, 1), 1)]),
    "all places": ("BadPlaces", [(0, 0), (1, 0), (True,), (2,), (-1,), [0], [], None, 0, "0", {}, (None,), (0, 1, 2)]),
    "complex": ("BadComplex", [7, "x", True, None, [], [(0,)], {}, (1,), ((1,), (0,)), ((0,), (0, 1)), ((0,), (0,)),
                               ((1, 0),), ((3,),), ((True,),), ((), (0,)), tuple((0,) for _ in range(71))]),
    "prime": ("BadPolynomials", [7, "x", True, None, [], [PX], {}, (X,), (PX, 1), (PX,) * 13, (PX + PX,)]),
    "modular polynomial": ("BadPolynomial", [7, "x", True, None, [], [1], {}, X, PX + PX, ((5, (1, 0)),)]),
    "most": ("BadInteger", [0, 9, -1, True, False, None, "1", (), (1,), [1], {}]),
    "matrix": ("BadMatrix", [7, "x", True, None, (), [], {}, ((),), ((1, 2, 3),) * 4, ((1, 2, 3, 4, 5),), ((0, 1, 2),),
                             ((1, 2, 9),), ((1, 2, 3), (1, 2)), ((1, 2, 3), (1, 2, 9)), ((1, 2, 3), (1, 2, -1)),
                             [(1, 2, 3)], ([1, 2, 3],), ((1, 2, True),), ((1, 2, None),), ((1, 2, 3), None), (1, 2, 3),
                             ((1, 2, 3), ()), ((1, 2, 3), (False, 0, 0))]),
    "lone matrix": ("BadMatrix", [7, "x", True, None, (), [], {}, ((),), ((1, 2),) * 4, ((1, 2, 3),), ((1,),),
                                  ((0, 1),), ((1, 9),), ((1, 2), (1,)), [(1, 2)], ([1, 2],), ((1, True),)]),
    "solution": ("BadMonomial", [7, "x", True, None, (), (1, 2), (1, 2, 3, 4), [1, 2, 3], {}, (-1, 0, 0), (21, 0, 0),
                                 (True, 0, 0), (1, 2, "3"), (None, 1, 1), ((1, 2, 3),)]),
    "costs": ("BadCosts", [7, "x", True, None, (), (1, 2), (1, 2, 3, 4), [1, 2, 3], {}, (0, 1, 1), (21, 1, 1),
                           (True, 1, 1), (1, 2, "3"), (None, 1, 1), ((1, 2, 3),)]),
    "points": ("BadPoints", [7, "x", True, None, [], [((1, 1), (1, 1))], {}, (1,), (((1, 1),),), (((1, 1), (2, 2)),),
                             (((1, 1), (1, 1)),) * 2, (((1, 1), (1, 1), (1, 1)),), ((1, 1), (1, 1)), (None,) * 21]),
    "numbers": ("BadNumbers", [7, "x", True, None, [], [(1, 1)], {}, (), ((1, 1),) * 2, (1,), (None,), ((2, 2),),
                               (True,), ([1, 1],)]),
    "variable": ("BadVariable", [-1, 2, True, False, None, "x", (), (0,), [0], {}]),
}
BIG = {"terms": ("BadTerms", 200, ((1, 1), (1, 0)), [7, None, (), ((1, 1),), ((1, 1), (1,)), [(1, 1), (1, 0)],
                                                      (1, (1, 0)), ((1, 1), (1, 0), 1), ((2, 2), (1, 0)), {}]),
       "generators": ("BadPolynomials", 12, X, [7, None, True, "x", [], {}, X + X, ((1, (1, 0)),)]),
       "even": ("BadPolynomials", 12, X, [7, None, True, "x", [], {}, X + X, ((1, (1, 0)),)]),
       "monos": ("BadMonomials", 12, (1, 0), [7, None, True, "x", [], {}, (1,), (1, 0, 0), [1, 0], (9, 0), (-1, 0),
                                              (True, 0), (1, None), "10"]),
       "sets": ("BadSets", 70, (0, 2), [7, None, True, "x", [], {}, [0], (1, 0), (0, 0), (3,), (-1,), (True,), (None,),
                                        ((0,),), "0"]),
       "moves": ("BadMoves", 12, (2, -1, 0), [7, None, True, "x", [], {}, (2, -1), (2, -1, 0, 0), [2, -1, 0],
                                              (1, 0, 0), (42, -21, 0), (0, True, 0), (None, 0, 0), (0, 0, False)]),
       "vectors": ("BadVectors", 12, (X, Y), [7, None, True, "x", [], {}, (X,), (X, X, X), [X, X], (X, None), X,
                                              (X, Y + X)]),
       "divisors": ("BadPolynomials", 40, X, [7, None, False, "x", [], {}, Y + X, (((1, 1), (1,)),)])}

# Each function with arguments that are allowed, and the kinds of those that are checked.
CALLS = [
    (numbers.number, (7, 1, 3), ("field", "integer", "integer")),
    (numbers.number_sum, (0, (1, 2), (1, 3)), ("field", "number", "number")),
    (numbers.number_product, (7, 1, 3), ("field", "modular", "modular")),
    (numbers.number_sum, (7, 1, 3), ("field", "modular", "modular")),
    (numbers.number_product, (0, (1, 2), (1, 3)), ("field", "number", "number")),
    (numbers.number_inverse, (0, (1, 2)), ("field", "number")),
    (numbers.number_inverse, (7, 3), ("field", "modular")),
    (orders.compare, (RING, (1, 0), (0, 3)), ("ring", "monomial", "monomial")),
    (orders.order_rows, (RING,), ("ring",)),
    (orders.monomials, (RING, 2), ("ring", "degree")),
    (orders.monomial_lcm, (RING, (1, 0), (0, 3)), ("ring", "monomial", "monomial")),
    (orders.monomial_quotient, (RING, (1, 0), (1, 0)), ("ring", "monomial", "monomial")),
    (polys.polynomial, (RING, X + X), ("ring", "terms")),
    (polys.plus, (RING, P, X), ("ring", "polynomial", "polynomial")),
    (polys.minus, (RING, P, X), ("ring", "polynomial", "polynomial")),
    (polys.times, (RING, P, X), ("ring", "polynomial", "polynomial")),
    (polys.scaled, (RING, P, (2, 3)), ("ring", "polynomial", "number")),
    (polys.power, (RING, P, 3), ("ring", "polynomial", "degree")),
    (polys.leading, (RING, P), ("ring", "polynomial")),
    (polys.degree, (RING, P), ("ring", "polynomial")),
    (polys.evaluate, (RING, P, ((1, 1), (2, 1))), ("ring", "polynomial", "point")),
    (polys.derivative, (RING, P, 0), ("ring", "polynomial", "variable")),
    (polys.substitute, (RING, P, TARGET, (((((1, 1), (1,)),), ()))), ("ring", "polynomial", "ring", None)),
    (polys.parts, (RING, P), ("ring", "polynomial")),
    (polys.reordered, (RING, P, (0, 2, "deglex")), ("ring", "polynomial", "ring")),
    (texts.write, (RING, P), ("ring", "polynomial")),
    (texts.read, (RING, "x-1/2*y"), ("ring", "text")),
    (division.divide, (RING, P, (X, (), Y)), ("ring", "polynomial", "divisors")),
    (bases.s_polynomial, (RING, P, X), ("ring", "polynomial", "polynomial")),
    (bases.basis_gap, (RING, (P, X)), ("ring", "divisors")),
    (bases.is_basis, (RING, (P, X)), ("ring", "divisors")),
    (bases.basis, (RING, (P, X)), ("ring", "generators")),
    (bases.leading_monomials, (RING, (P, X)), ("ring", "generators")),
    (bases.standard_monomials, (RING, (P, X), 2), ("ring", "generators", "degree")),
    (membership.basis_certificate, (RING, (P, X)), ("ring", "generators")),
    (membership.shows_basis, (RING, (P, X), None), ("ring", "generators", None)),
    (membership.normal_form, (RING, (P, X), Y), ("ring", "generators", "polynomial")),
    (membership.member, (RING, (P, X), Y), ("ring", "generators", "polynomial")),
    (membership.shows_member, (RING, (P, X), Y, None), ("ring", "generators", "polynomial", None)),
    (membership.outsider, (RING, (P, X), (X,)), ("ring", "generators", "generators")),
    (membership.same_ideal, (RING, (P, X), (X,)), ("ring", "generators", "generators")),
    (ideals.ideal_sum, (RING, (P, X), (Y,)), ("ring", "generators", "generators")),
    (ideals.ideal_product, (RING, (P, X), (Y,)), ("ring", "generators", "generators")),
    (ideals.ideal_power, (RING, (P, X), 2), ("ring", "generators", "exponent")),
    (ideals.meet, (RING, (P, X), (Y,)), ("ring", "generators", "generators")),
    (ideals.quotient, (RING, (P, X), (Y,)), ("ring", "generators", "generators")),
    (ideals.saturation, (RING, (P, X), Y), ("ring", "generators", "polynomial")),
    (ideals.in_radical, (RING, (P, X), Y), ("ring", "generators", "polynomial")),
    (eliminating.eliminate, (RING, (P, X), (0,)), ("ring", "generators", "places")),
    (eliminating.kernel, (RING, RING, (P, X)), ("ring", "ring", None)),
    (eliminating.preimage, (RING, RING, (P, X), (Y, X)), ("ring", "ring", None, "generators")),
    (eliminating.in_image, (RING, RING, (P, X), Y), ("ring", "ring", None, "polynomial")),
    (resultants.resultant, (RING, P, X, 0), ("ring", "polynomial", "polynomial", "variable")),
    (resultants.common_multiple, (RING, P, X), ("ring", "polynomial", "polynomial")),
    (resultants.common_divisor, (RING, P, X), ("ring", "polynomial", "polynomial")),
    (vectors.module_basis, (RING, 2, ((X, Y), (P, ()))), ("ring", "rank", "vectors")),
    (vectors.module_normal_form, (RING, 2, ((X, Y), (P, ())), (Y, X)), ("ring", "rank", "vectors", "vector")),
    (vectors.module_member, (RING, 2, ((X, Y), (P, ())), (P, ())), ("ring", "rank", "vectors", "vector")),
    (vectors.shows_module_member, (RING, 2, ((X, Y),), (X, Y), None), ("ring", "rank", "vectors", "vector", None)),
    (syzygies.syzygies, (RING, (P, X)), ("ring", "generators")),
    (syzygies.vector_syzygies, (RING, 2, ((X, Y), (X, Y))), ("ring", "rank", "vectors")),
    (syzygies.s_syzygies, (RING, (X, Y)), ("ring", "generators")),
    (resolutions.minimal_generators, (RING, (X, Y)), ("ring", "even")),
    (resolutions.resolution, (RING, (X, Y)), ("ring", "even")),
    (resolutions.shows_resolution, (RING, (X, Y), None), ("ring", "even", None)),
    (resolutions.betti_numbers, (RING, (X, Y)), ("ring", "even")),
    (resolutions.regularity, (RING, (X, Y)), ("ring", "even")),
    (hilbert.hilbert_function, (RING, (X, Y), 3), ("ring", "even", "far degree")),
    (hilbert.hilbert_numerator, (RING, (X, Y)), ("ring", "even")),
    (hilbert.hilbert_polynomial, (RING, (X, Y)), ("ring", "even")),
    (hilbert.hilbert_stays, (RING, (X, Y)), ("ring", "even")),
    (hilbert.multiplicity, (RING, (X, Y)), ("ring", "even")),
    (hilbert.independent_sets, (RING, (P, X)), ("ring", "generators")),
    (hilbert.dimension, (RING, (P, X)), ("ring", "generators")),
    (growth.expansion, (11, 3), ("amount", "level")),
    (growth.grown, (11, 3), ("amount", "level")),
    (growth.growth_gap, (2, (1, 2, 2)), ("many", "values")),
    (growth.lex_ideal, (2, (1, 2, 2)), ("many", "values")),
    (monoideals.least_monomials, (2, MONOS), ("eight", "monos")),
    (monoideals.mono_meet, (2, MONOS, ((0, 3),)), ("eight", "monos", "monos")),
    (monoideals.mono_quotient, (2, MONOS, (1, 0)), ("eight", "monos", "mono")),
    (monoideals.mono_radical, (2, MONOS), ("eight", "monos")),
    (monoideals.irreducible_parts, (2, MONOS), ("eight", "monos")),
    (monoideals.associated, (2, MONOS), ("eight", "monos")),
    (monoideals.witness, (2, MONOS, (0, 1)), ("eight", "monos", "all places")),
    (monoideals.shows_witness, (2, MONOS, (0, 1), None), ("eight", "monos", "all places", None)),
    (monoideals.primary_parts, (2, MONOS), ("eight", "monos")),
    (monoideals.quotient_order, (2, MONOS), ("eight", "monos")),
    (monoideals.shows_quotient_order, (2, MONOS, None), ("eight", "monos", None)),
    (complexes.faces, (3, SQUARE), ("eight", "complex")),
    (complexes.f_vector, (3, SQUARE), ("eight", "complex")),
    (complexes.nonfaces, (3, SQUARE), ("eight", "complex")),
    (complexes.complex_of, (3, SQUARE), ("eight", "sets")),
    (complexes.covers, (3, SQUARE), ("eight", "sets")),
    (complexes.dual_complex, (3, SQUARE), ("eight", "complex")),
    (complexes.homology, (0, 3, SQUARE), ("field", "eight", "complex")),
    (complexes.hochster, (0, 3, SQUARE), ("field", "eight", "sets")),
    (complexes.square_betti, (0, 3, SQUARE), ("field", "eight", "sets")),
    (complexes.polarized, (2, MONOS), ("eight", "monos")),
    (zeros.is_finite, (RING, (P, X)), ("ring", "generators")),
    (zeros.quotient_basis, (RING, (P, X)), ("ring", "generators")),
    (zeros.times_matrix, (RING, (P, X), Y), ("ring", "generators", "polynomial")),
    (zeros.least_polynomial, (RING, (P, X), Y), ("ring", "generators", "polynomial")),
    (points.zeros, (PRIME, (PX, PY)), ("ring", "prime")),
    (points.field_basis, (PRIME, (PX, PY)), ("ring", "prime")),
    (points.no_zero, (PRIME, (PX, PY)), ("ring", "prime")),
    (points.shows_no_zero, (PRIME, (PX, PY), None), ("ring", "prime", None)),
    (points.points_ideal, (RING, (((1, 1), (1, 1)),)), ("ring", "points")),
    (points.separators, (RING, (((1, 1), (1, 1)),)), ("ring", "points")),
    (points.interpolated, (RING, (((1, 1), (1, 1)),), ((1, 2),)), ("ring", "points", "numbers")),
    (lattices.lattice_ideal, (RING, ((2, 3),)), ("ring", "lone matrix")),
    (lattices.fibre, (COINS, (1, 1, 1)), ("matrix", "solution")),
    (lattices.cheapest, (COINS, (1, 2, 20), (1, 1, 1)), ("matrix", "costs", "solution")),
    (lattices.is_joined, (COINS, MOVES, (3, 0, 0), (0, 0, 1)), ("matrix", "moves", "solution", "solution")),
    (lattices.walk, (COINS, MOVES, (3, 0, 0), (0, 0, 1)), ("matrix", "moves", "solution", "solution")),
    (lattices.unjoined, (COINS, MOVES), ("matrix", "moves")),
    (changing.changed, (RING, (P, X), (0, 2, "deglex")), ("ring", "generators", "ring")),
    (changing.graded_basis, (RING, (X, Y), 3), ("ring", "even", "degree")),
    (changing.weight_bases, (RING, (P, X), 2), ("ring", "generators", "most")),
    (changing.universal, (RING, (P, X), 2), ("ring", "generators", "most")),
    (primary.primary_ideals, (PRIME, (PX, PY)), ("ring", "prime")),
    (primary.part_count, (PRIME, (PX, PY)), ("ring", "prime")),
    (primary.idempotents, (PRIME, (PX, PY)), ("ring", "prime")),
]


def wrong_values(kind):
    """Triples of an error class, its fields and a wrong value."""
    if kind in WRONG:
        name, values = WRONG[kind]
        return [(getattr(errors, name), {}, value) for value in values]
    name, most, good, bad = BIG[kind]
    found = [(getattr(errors, name), {"index": None}, value)
             for value in (7, -1, "x", True, False, None, [], [good], {}, {0: good}, (good,) * (most + 1),
                           (None,) * (most + 1))]
    for value in bad:
        if kind in ("generators", "even", "divisors", "vectors") and value == ():
            continue
        for ahead in (0, 1, most - 1):
            found.append((getattr(errors, name), {"index": ahead}, (good,) * ahead + (value,)))
        found.append((getattr(errors, name), {"index": 1}, (good, value, None)))
    if kind == "even":
        found += [(errors.NotEven, {"index": index}, (good,) * index + (P,)) for index in (0, 1, most - 1)]
    return found


class Arguments(unittest.TestCase):

    def check_raises(self, kind, fields, function, arguments):
        shown = (function.__name__, arguments)
        with self.assertRaises(errors.IdealError, msg=shown) as caught:
            function(*arguments)
        self.assertIs(caught.exception.__class__, kind, shown)
        for name, value in fields.items():
            self.assertEqual(getattr(caught.exception, name), value, shown)

    def test_right_arguments_raise_nothing(self):
        for function, arguments, _ in CALLS:
            function(*arguments)

    def test_each_wrong_argument(self):
        for function, arguments, kinds in CALLS:
            for place, kind in enumerate(kinds):
                if kind is None:
                    continue
                for error, fields, value in wrong_values(kind):
                    changed = arguments[:place] + (value,) + arguments[place + 1:]
                    self.check_raises(error, fields, function, changed)

    def test_the_leftmost_error_is_raised(self):
        for function, arguments, kinds in CALLS:
            for place, kind in enumerate(kinds):
                if kind is None:
                    continue
                error, fields, value = wrong_values(kind)[0]
                changed = arguments[:place] + (value,) + tuple({} for _ in arguments[place + 1:])
                self.check_raises(error, fields, function, changed)

    def test_odd_values_raise_errors_of_the_package_or_none(self):
        for function, arguments, _ in CALLS:
            for place in range(len(arguments)):
                for value in ODD:
                    changed = arguments[:place] + (value,) + arguments[place + 1:]
                    try:
                        function(*changed)
                    except errors.IdealError:
                        pass

    def test_arguments_stay_as_they_were(self):
        for function, arguments, _ in CALLS:
            before = copy.deepcopy(arguments)
            first = function(*arguments)
            self.assertEqual(arguments, before, function.__name__)
            self.assertEqual(function(*arguments), first, function.__name__)

    def test_wrong_lists_and_dicts_stay_as_they_were(self):
        for function, arguments, _ in CALLS:
            for place in range(len(arguments)):
                value = [[1], {"a": [2]}]
                changed = arguments[:place] + (value,) + arguments[place + 1:]
                try:
                    function(*changed)
                except errors.IdealError:
                    pass
                self.assertEqual(value, [[1], {"a": [2]}])

    def test_returned_lists_are_new(self):
        for function, arguments in ((orders.monomials, (RING, 2)), (polys.parts, (RING, P)),
                                    (bases.standard_monomials, (RING, (P, X), 3)),
                                    (syzygies.s_syzygies, (RING, (X, Y))), (resolutions.betti_numbers, (RING, (X, Y))),
                                    (hilbert.independent_sets, (RING, (P, X))), (complexes.faces, (3, SQUARE)),
                                    (monoideals.primary_parts, (2, MONOS)), (complexes.hochster, (0, 3, SQUARE)),
                                    (complexes.square_betti, (0, 3, SQUARE)), (lattices.fibre, (COINS, (1, 1, 1))),
                                    (changing.weight_bases, (RING, (P, X), 2)), (changing.universal, (RING, (P, X), 2)),
                                    (primary.primary_ideals, (PRIME, (PX, PY))),
                                    (primary.idempotents, (PRIME, (PX, PY)))):
            first = function(*arguments)
            kept = list(first)
            first.append(None)
            self.assertEqual(function(*arguments), kept)

    def test_names_of_parameters(self):
        self.assertEqual(numbers.number(field=7, n=1, d=3), 5)
        self.assertEqual(numbers.number_sum(field=7, a=1, b=3), 4)
        self.assertEqual(numbers.number_product(field=7, a=2, b=3), 6)
        self.assertEqual(numbers.number_inverse(field=7, a=2), 4)
        self.assertEqual(orders.compare(ring=RING, one=(1, 0), other=(0, 1)), 1)
        self.assertEqual(orders.monomials(ring=RING, degree=0), [(0, 0)])
        self.assertEqual(orders.monomial_lcm(ring=RING, one=(1, 0), other=(0, 1)), (1, 1))
        self.assertEqual(orders.monomial_quotient(ring=RING, one=(1, 1), other=(0, 1)), (1, 0))
        self.assertEqual(len(orders.order_rows(ring=RING)[0]), 2)
        self.assertEqual(polys.polynomial(ring=RING, terms=X), X)
        self.assertEqual(polys.scaled(ring=RING, p=X, number=(1, 1)), X)
        self.assertEqual(polys.minus(ring=RING, p=X, q=()), polys.plus(ring=RING, p=X, q=()))
        self.assertEqual(polys.power(ring=RING, p=X, exponent=1), polys.times(ring=RING, p=X, q=(((1, 1), (0, 0)),)))
        self.assertEqual(polys.leading(ring=RING, p=X), X[0])
        self.assertEqual(polys.degree(ring=RING, p=X), 1)
        self.assertEqual(polys.evaluate(ring=RING, p=X, point=((3, 1), (0, 1))), (3, 1))
        self.assertEqual(polys.derivative(ring=RING, p=X, place=1), ())
        self.assertEqual(polys.substitute(ring=RING, p=X, target=TARGET, values=((), ())), ())
        self.assertEqual(polys.parts(ring=RING, p=X), [(1, X)])
        self.assertEqual(polys.reordered(ring=RING, p=X, other=RING), X)
        self.assertEqual(texts.read(ring=RING, text=texts.write(ring=RING, p=X)), X)
        self.assertEqual(division.divide(ring=RING, p=X, divisors=()), ((), X))
        self.assertEqual(bases.s_polynomial(ring=RING, p=X, q=Y), ())
        self.assertIsNone(bases.basis_gap(ring=RING, polys=(X,)))
        self.assertTrue(bases.is_basis(ring=RING, polys=(X,)))
        self.assertEqual(bases.basis(ring=RING, polys=(X,)), (X,))
        self.assertEqual(bases.leading_monomials(ring=RING, polys=(X,)), ((1, 0),))
        self.assertEqual(bases.standard_monomials(ring=RING, polys=(X,), degree=0), [(0, 0)])
        value = membership.basis_certificate(ring=RING, polys=(X,))
        self.assertTrue(membership.shows_basis(ring=RING, polys=(X,), value=value))
        self.assertEqual(membership.normal_form(ring=RING, polys=(X,), p=Y), Y)
        value = membership.member(ring=RING, polys=(X,), p=X)
        self.assertTrue(membership.shows_member(ring=RING, polys=(X,), p=X, value=value))
        self.assertEqual(membership.outsider(ring=RING, one=(Y,), other=(X,)), 0)
        self.assertFalse(membership.same_ideal(ring=RING, one=(Y,), other=(X,)))
        self.assertEqual(monoideals.mono_meet(many=2, one=MONOS, other=()), ())
        self.assertEqual(monoideals.mono_quotient(many=2, monos=MONOS, mono=(2, 0)), ((0, 0),))
        self.assertTrue(monoideals.shows_witness(many=2, monos=MONOS, places=(0,), value=(0, 1)))
        self.assertEqual(complexes.faces(many=1, facets=((),)), [()])
        self.assertEqual(complexes.hochster(field=0, many=1, sets=()), [(0, (), 1)])
        self.assertEqual(zeros.times_matrix(ring=RING, polys=(X, Y), p=X), (((0, 1),),))
        self.assertEqual(points.interpolated(ring=RING, points=(), values=()), ())
        self.assertFalse(points.shows_no_zero(ring=PRIME, polys=(PX,), value=None))
        self.assertEqual(lattices.cheapest(matrix=COINS, costs=(1, 1, 1), some=(6, 0, 0)), (0, 0, 2))
        self.assertTrue(lattices.is_joined(matrix=COINS, moves=(), one=(1, 0, 0), other=(1, 0, 0)))
        self.assertEqual(changing.changed(ring=RING, polys=(X, Y), other=RING), (Y, X))
        self.assertEqual(changing.graded_basis(ring=RING, polys=(X, Y), degree=0), ())
        self.assertEqual(changing.universal(ring=RING, polys=(X,), most=1), [X])
        self.assertEqual(primary.part_count(ring=PRIME, polys=(PX, PY)), 2)


class Pairs(unittest.TestCase):
    """Errors that depend on an argument further to the left."""

    def test_substitute(self):
        def check(kind, fields, *arguments):
            with self.assertRaises(kind) as caught:
                polys.substitute(*arguments)
            for name, value in fields.items():
                self.assertEqual(getattr(caught.exception, name), value)
        one = (((1, 1), (1,)),)
        check(errors.OtherRing, {}, RING, P, (5, 1, "lex"), (one, one))
        check(errors.OtherRing, {}, RING, P, (5, 1, "lex"), None)
        check(errors.BadPolynomials, {"index": None}, RING, P, TARGET, (one,))
        check(errors.BadPolynomials, {"index": None}, RING, P, TARGET, (one, one, one))
        check(errors.BadPolynomials, {"index": None}, RING, P, TARGET, [one, one])
        check(errors.BadPolynomials, {"index": None}, RING, P, TARGET, 7)
        check(errors.BadPolynomials, {"index": 0}, RING, P, TARGET, (X, one))
        check(errors.BadPolynomials, {"index": 1}, RING, P, TARGET, (one, None))
        check(errors.BadPolynomials, {"index": 1}, RING, P, TARGET, (one, X))

    def test_reordered(self):
        for other in ((5, 2, "lex"), (0, 1, "lex"), (0, 3, "deglex")):
            with self.assertRaises(errors.OtherRing):
                polys.reordered(RING, P, other)

    def test_numbers_depend_on_the_field(self):
        with self.assertRaises(errors.BadNumber):
            numbers.number_sum(5, 1, (1, 1))
        with self.assertRaises(errors.BadPolynomial):
            polys.leading((5, 2, "lex"), P)
        with self.assertRaises(errors.BadPolynomial):
            polys.leading((0, 3, "lex"), P)


if __name__ == "__main__":
    unittest.main()
