import PyProof.Rows.All
import Wide.All
import OpenK.AllK
import Wide.FinOn
import HandS.ForMost
import HandS.ForExc
import HandS.IsInst
import HandS.Wide
import HandS.WideBits
import HandS.Nested
import HandS.Lambda
import HandS.LawCells
import HandS.EndTab
import HandS.EndOwn
import HandS.AnyAll
import HandS.Zip
import HandS.TupMul
import HandS.TupLe
import HandS.TupAny
import HandS.SortKw
import HandS.RevRange
import HandS.Walk
import HandS.Conv
import HandS.Defaults
import HandS.GenList
import KE.KTupSum
import KE.GoesZip
import KE.GoesMore
import KE.DataCmp
import KE.SortData
import KE.SortKeyHeap
import PyProof.GenCompD
import HandS.Gcd
import KE.GoesEnum
import HandS.DictTup
import KE.KSortKey
import KE.DataMinMax
import HandS.SetKeys
import HandS.SortInts
import HandS.Style
import HandS.DictComp
import PySem.Challenge.RW_idealcore_k04_whole_derivatives

set_option Elab.async false
set_option linter.all false
set_option maxRecDepth 100000
set_option maxHeartbeats 4000000
namespace Toy
open PySem L2
/-! ### the text by places -/
def topS (i : Nat) : Stmt := PySem.Challenge.pw_idealcore_k04_whole_derivatives.main.body.getD i (.Pass ⟨0, 0, 0, 0⟩)
/-! ### what a def of the top is -/
structure DefAt (K : PySem.W.Frag) (mg : Str → Option Value) (x : Str) (st : Stmt) where
  f : Addr
  fd : FuncData
  F : Fun K x x st f fd
  g : mg x = some (.ref f)
noncomputable def defI {K : PySem.W.Frag} {h : Heap} {mg : Str → Option Value} (X : K.In h) (G : h.Ns mainGlobals mg) {x : Str} {st : Stmt} {f : Addr} {oc : Value} {od an : Option Addr} {osl : Array (Option Value)} {kV doc pm cdv ct : Value}
    (a : PySem.W.nsIn K mainGlobals x = some (some (.ref f))) (l : K.lookup f = some ⟨oc, od, .func (PySem.W.fnOf x x (defArgs st) (defBody st) (defScope st) .none kV doc pm an cdv ct), osl⟩)
    (c : PySem.W.codeIn K cdv x = true) (k : PySem.W.keepIn K (.ref f) = true) : DefAt K mg x st :=
  ⟨f, _, fun_mk (st := st) l c k, PySem.W.mg_of X G a⟩
/-! ### rules of my own -/
section
variable {X : Cx}
/-- // by any divisor but 0, below 2 ^ 9000 in size -/
def CDivZ (_ j : Int) : Prop := j ≠ 0 ∧ j.natAbs.log2 < 9000
theorem op_fdivZ : OpR X (binaryOp .FloorDiv) (rI CDivZ fun i j => .int (i.fdiv j)) := opI fun _ _ _ _ _ _ _ hc q =>
  PyProof.Rows.floordiv_int hc.1 q (.inl (PyProof.noPylong_of_log2 hc.2))
theorem cdivZ {i j : Int} {b : Nat} (h : j ≠ 0) (hb : j.natAbs < 2 ^ b) (h0 : 0 < b) (h9 : b ≤ 9000) : CDivZ i j := ⟨h, Nat.lt_of_lt_of_le (PySem.Flt.log2_lt_of h0 hb) h9⟩
/-- ** with a small exponent -/
def CPowW (i j : Int) : Prop := 0 ≤ j ∧ (Builtin.Int.intBits i : Int) * j ≤ 2 ^ 27
theorem op_powW : OpR X (binaryOp .Pow) (rI CPowW fun i j => .int (i ^ j.toNat)) := opI fun _ _ _ _ _ _ _ hc q =>
  PyProof.Rows.pow_int hc.1 hc.2 q
end
def rLenS (K : PySem.W.Frag) : List V → Hp → VK → Prop := fun xs H Q => ∃ p ys, xs = [.ref p] ∧ (SqL K H p ys ∨ SqT K H p ys) ∧ Q (.int ys.length) H
theorem bo_len : bootBuiltins "len" = some (.builtin "len") := by decide +kernel
theorem bo_isinstance : bootBuiltins "isinstance" = some (.builtin "isinstance") := by decide +kernel
theorem bo_abs : bootBuiltins "abs" = some (.builtin "abs") := by decide +kernel
theorem bo_int : bootBuiltins "int" = some (.type "int") := by decide +kernel
theorem bo_bool : bootBuiltins "bool" = some (.type "bool") := by decide +kernel
theorem bo_str : bootBuiltins "str" = some (.type "str") := by decide +kernel
theorem bo_tuple : bootBuiltins "tuple" = some (.type "tuple") := by decide +kernel
theorem bo_list : bootBuiltins "list" = some (.type "list") := by decide +kernel
/-! ### heaps -/
/-- all but what stands at r is as it was -/
def KeepBut (r : Addr) (H H' : Hp) : Prop := ∀ b o, b ≠ r → H b = some o → H' b = some o
theorem KeepBut.of {r : Addr} {H H' : Hp} (h : Same H H') : KeepBut r H H' := fun b o _ e => h b o e
theorem KeepBut.trans {r : Addr} {H H1 H2 : Hp} (a : KeepBut r H H1) (b : KeepBut r H1 H2) : KeepBut r H H2 := fun c o n e => b c o n (a c o n e)
theorem same_upd {H : Hp} {p : Addr} {o : HO} (h : H p = none) : Same H (upd H p o) := fun b u e => by
  rw [upd_ne (ne_of_none e h)]; exact e
theorem Same.upd' {H H' : Hp} {p : Addr} {o : HO} (s : Same H H') (h : H' p = none) : Same H (upd H' p o) := Same.trans s (same_upd h)
theorem Same.tup {K : PySem.W.Frag} {H H' : Hp} {a : Addr} {xs : List V} (e : Same H H') (h : SqT K H a xs) : SqT K H' a xs := by
  rcases h with (h | ⟨o, h⟩) | h
  · exact .inl (.inl (e _ _ h))
  · exact .inl (.inr ⟨o, e _ _ h⟩)
  · exact .inr h
/-- an own exception class over ValueError, without an __init__ of its own -/
structure ExcAt (K : PySem.W.Frag) (mg : Str → Option Value) (x : Str) where
  C : Addr
  g : mg x = some (.ref C)
  x : PySem.W.excIn K C [.type "ValueError", .type "Exception", .type "BaseException", .type "object"] "ValueError.__new__" = true
  k : PySem.W.keepIn K (.ref C) = true
  be : PySem.W.subIn K (.ref C) (.type "BaseException") = some true
  ty : PySem.W.typeIn K (.ref C) = some (.type "type")
  is : PySem.W.isClsIn K C = true
  se : PySem.W.subIn K (.ref C) (.ref C) = some true
def NBn : Nat := 10 ^ 200
def NBi : Int := 10 ^ 200
theorem nb_eq : NBi = (NBn : Int) := by decide +kernel

theorem bo_sum : bootBuiltins "sum" = some (.builtin "sum") := by decide +kernel
theorem bo_max : bootBuiltins "max" = some (.builtin "max") := by decide +kernel
theorem bo_all : bootBuiltins "all" = some (.builtin "all") := by decide +kernel
theorem bo_any : bootBuiltins "any" = some (.builtin "any") := by decide +kernel
theorem bo_sorted : bootBuiltins "sorted" = some (.builtin "sorted") := by decide +kernel
/-- the place of a digit -/
def PLi : Int := 2 ^ 48
def MKi : Int := 2 ^ 48 - 1
/-! ### the defs of the text: places, slots, scopes -/
def inClass (s : Stmt) (j : Nat) : Stmt := match s with
  | .ClassDef (body := b) .. => b.getD j (.Pass ⟨0, 0, 0, 0⟩)
  | _ => .Pass ⟨0, 0, 0, 0⟩
abbrev s_single_rows : Stmt := topS 6
abbrev N_single_rows : List Str := ["many", "k", "place"]
abbrev P_single_rows : List Str := ["many"]
theorem sc_single_rows : FnScope N_single_rows P_single_rows (defScope s_single_rows) := ⟨rfl, rfl, rfl, by decide +kernel, rfl, by decide +kernel, by decide +kernel⟩

abbrev s_falling_rows : Stmt := topS 7
abbrev N_falling_rows : List Str := ["many", "places", "found", "end", "chosen", "k"]
abbrev P_falling_rows : List Str := ["many", "places"]
theorem sc_falling_rows : FnScope N_falling_rows P_falling_rows (defScope s_falling_rows) := ⟨rfl, rfl, rfl, by decide +kernel, rfl, by decide +kernel, by decide +kernel⟩

abbrev s_rows_of : Stmt := topS 8
abbrev N_rows_of : List Str := ["many", "order", "places"]
abbrev P_rows_of : List Str := ["many", "order"]
theorem sc_rows_of : FnScope N_rows_of P_rows_of (defScope s_rows_of) := ⟨rfl, rfl, rfl, by decide +kernel, rfl, by decide +kernel, by decide +kernel⟩

abbrev s_block_rows : Stmt := topS 9
abbrev N_block_rows : List Str := ["many", "first", "others", "place"]
abbrev P_block_rows : List Str := ["many", "first"]
theorem sc_block_rows : FnScope N_block_rows P_block_rows (defScope s_block_rows) := ⟨rfl, rfl, rfl, by decide +kernel, rfl, by decide +kernel, by decide +kernel⟩

abbrev s_Coding___init__ : Stmt := inClass (topS 10) 0
abbrev N_Coding___init__ : List Str := ["self", "field", "many", "rows", "grades", "marks", "k", "place", "shift"]
abbrev P_Coding___init__ : List Str := ["self", "field", "many", "rows", "grades", "marks"]
theorem sc_Coding___init__ : FnScope N_Coding___init__ P_Coding___init__ (defScope s_Coding___init__) := ⟨rfl, rfl, rfl, by decide +kernel, rfl, by decide +kernel, by decide +kernel⟩

abbrev s_Coding_unit : Stmt := inClass (topS 10) 1
abbrev N_Coding_unit : List Str := ["self", "place", "total", "row"]
abbrev P_Coding_unit : List Str := ["self", "place"]
theorem sc_Coding_unit : FnScope N_Coding_unit P_Coding_unit (defScope s_Coding_unit) := ⟨rfl, rfl, rfl, by decide +kernel, rfl, by decide +kernel, by decide +kernel⟩

abbrev s_Coding_code : Stmt := inClass (topS 10) 2
abbrev N_Coding_code : List Str := ["self", "monomial", "total", "exponent", "unit"]
abbrev P_Coding_code : List Str := ["self", "monomial"]
theorem sc_Coding_code : FnScope N_Coding_code P_Coding_code (defScope s_Coding_code) := ⟨rfl, rfl, rfl, by decide +kernel, rfl, by decide +kernel, by decide +kernel⟩

abbrev s_Coding_exponents : Stmt := inClass (topS 10) 3
abbrev N_Coding_exponents : List Str := ["self", "code", "shift"]
abbrev P_Coding_exponents : List Str := ["self", "code"]
theorem sc_Coding_exponents : FnScope N_Coding_exponents P_Coding_exponents (defScope s_Coding_exponents) := ⟨rfl, rfl, rfl, by decide +kernel, rfl, by decide +kernel, by decide +kernel⟩

abbrev s_zero_of : Stmt := topS 18
abbrev N_zero_of : List Str := ["field"]
abbrev P_zero_of : List Str := ["field"]
theorem sc_zero_of : FnScope N_zero_of P_zero_of (defScope s_zero_of) := ⟨rfl, rfl, rfl, by decide +kernel, rfl, by decide +kernel, by decide +kernel⟩

abbrev s_inverse_modulo : Stmt := topS 19
abbrev N_inverse_modulo : List Str := ["n", "prime", "inverse", "_"]
abbrev P_inverse_modulo : List Str := ["n", "prime"]
theorem sc_inverse_modulo : FnScope N_inverse_modulo P_inverse_modulo (defScope s_inverse_modulo) := ⟨rfl, rfl, rfl, by decide +kernel, rfl, by decide +kernel, by decide +kernel⟩

abbrev s_make_number : Stmt := topS 20
abbrev N_make_number : List Str := ["field", "n", "d", "common"]
abbrev P_make_number : List Str := ["field", "n", "d"]
theorem sc_make_number : FnScope N_make_number P_make_number (defScope s_make_number) := ⟨rfl, rfl, rfl, by decide +kernel, rfl, by decide +kernel, by decide +kernel⟩

abbrev s_add_numbers : Stmt := topS 21
abbrev N_add_numbers : List Str := ["field", "a", "b"]
abbrev P_add_numbers : List Str := ["field", "a", "b"]
theorem sc_add_numbers : FnScope N_add_numbers P_add_numbers (defScope s_add_numbers) := ⟨rfl, rfl, rfl, by decide +kernel, rfl, by decide +kernel, by decide +kernel⟩

abbrev s_multiply_numbers : Stmt := topS 22
abbrev N_multiply_numbers : List Str := ["field", "a", "b"]
abbrev P_multiply_numbers : List Str := ["field", "a", "b"]
theorem sc_multiply_numbers : FnScope N_multiply_numbers P_multiply_numbers (defScope s_multiply_numbers) := ⟨rfl, rfl, rfl, by decide +kernel, rfl, by decide +kernel, by decide +kernel⟩

abbrev s_as_fraction : Stmt := topS 23
abbrev N_as_fraction : List Str := ["field", "a"]
abbrev P_as_fraction : List Str := ["field", "a"]
theorem sc_as_fraction : FnScope N_as_fraction P_as_fraction (defScope s_as_fraction) := ⟨rfl, rfl, rfl, by decide +kernel, rfl, by decide +kernel, by decide +kernel⟩

abbrev s_is_integer : Stmt := topS 31
abbrev N_is_integer : List Str := ["value"]
abbrev P_is_integer : List Str := ["value"]
theorem sc_is_integer : FnScope N_is_integer P_is_integer (defScope s_is_integer) := ⟨rfl, rfl, rfl, by decide +kernel, rfl, by decide +kernel, by decide +kernel⟩

abbrev s_is_integer_in : Stmt := topS 32
abbrev N_is_integer_in : List Str := ["value", "low", "high"]
abbrev P_is_integer_in : List Str := ["value", "low", "high"]
theorem sc_is_integer_in : FnScope N_is_integer_in P_is_integer_in (defScope s_is_integer_in) := ⟨rfl, rfl, rfl, by decide +kernel, rfl, by decide +kernel, by decide +kernel⟩

abbrev s_is_tuple_of : Stmt := topS 33
abbrev N_is_tuple_of : List Str := ["value", "many"]
abbrev P_is_tuple_of : List Str := ["value", "many"]
theorem sc_is_tuple_of : FnScope N_is_tuple_of P_is_tuple_of (defScope s_is_tuple_of) := ⟨rfl, rfl, rfl, by decide +kernel, rfl, by decide +kernel, by decide +kernel⟩

abbrev s_is_tuple_up_to : Stmt := topS 34
abbrev N_is_tuple_up_to : List Str := ["value", "most"]
abbrev P_is_tuple_up_to : List Str := ["value", "most"]
theorem sc_is_tuple_up_to : FnScope N_is_tuple_up_to P_is_tuple_up_to (defScope s_is_tuple_up_to) := ⟨rfl, rfl, rfl, by decide +kernel, rfl, by decide +kernel, by decide +kernel⟩

abbrev s_is_field : Stmt := topS 35
abbrev N_is_field : List Str := ["value"]
abbrev P_is_field : List Str := ["value"]
theorem sc_is_field : FnScope N_is_field P_is_field (defScope s_is_field) := ⟨rfl, rfl, rfl, by decide +kernel, rfl, by decide +kernel, by decide +kernel⟩

abbrev s_is_fraction : Stmt := topS 36
abbrev N_is_fraction : List Str := ["value"]
abbrev P_is_fraction : List Str := ["value"]
theorem sc_is_fraction : FnScope N_is_fraction P_is_fraction (defScope s_is_fraction) := ⟨rfl, rfl, rfl, by decide +kernel, rfl, by decide +kernel, by decide +kernel⟩

abbrev s_is_number : Stmt := topS 37
abbrev N_is_number : List Str := ["field", "value"]
abbrev P_is_number : List Str := ["field", "value"]
theorem sc_is_number : FnScope N_is_number P_is_number (defScope s_is_number) := ⟨rfl, rfl, rfl, by decide +kernel, rfl, by decide +kernel, by decide +kernel⟩

abbrev s_is_order : Stmt := topS 38
abbrev N_is_order : List Str := ["many", "value"]
abbrev P_is_order : List Str := ["many", "value"]
theorem sc_is_order : FnScope N_is_order P_is_order (defScope s_is_order) := ⟨rfl, rfl, rfl, by decide +kernel, rfl, by decide +kernel, by decide +kernel⟩

abbrev s_is_ring : Stmt := topS 39
abbrev N_is_ring : List Str := ["value", "field", "many", "order"]
abbrev P_is_ring : List Str := ["value"]
theorem sc_is_ring : FnScope N_is_ring P_is_ring (defScope s_is_ring) := ⟨rfl, rfl, rfl, by decide +kernel, rfl, by decide +kernel, by decide +kernel⟩

abbrev s_is_row_of_integers : Stmt := topS 40
abbrev N_is_row_of_integers : List Str := ["value", "many", "low", "high"]
abbrev P_is_row_of_integers : List Str := ["value", "many", "low", "high"]
theorem sc_is_row_of_integers : FnScope N_is_row_of_integers P_is_row_of_integers (defScope s_is_row_of_integers) := ⟨rfl, rfl, rfl, by decide +kernel, rfl, by decide +kernel, by decide +kernel⟩

abbrev s_is_monomial : Stmt := topS 41
abbrev N_is_monomial : List Str := ["many", "value"]
abbrev P_is_monomial : List Str := ["many", "value"]
theorem sc_is_monomial : FnScope N_is_monomial P_is_monomial (defScope s_is_monomial) := ⟨rfl, rfl, rfl, by decide +kernel, rfl, by decide +kernel, by decide +kernel⟩

abbrev s_is_loose_term : Stmt := topS 42
abbrev N_is_loose_term : List Str := ["coding", "value"]
abbrev P_is_loose_term : List Str := ["coding", "value"]
theorem sc_is_loose_term : FnScope N_is_loose_term P_is_loose_term (defScope s_is_loose_term) := ⟨rfl, rfl, rfl, by decide +kernel, rfl, by decide +kernel, by decide +kernel⟩

abbrev s_is_polynomial : Stmt := topS 43
abbrev N_is_polynomial : List Str := ["coding", "value", "zero", "codes", "term"]
abbrev P_is_polynomial : List Str := ["coding", "value"]
theorem sc_is_polynomial : FnScope N_is_polynomial P_is_polynomial (defScope s_is_polynomial) := ⟨rfl, rfl, rfl, by decide +kernel, rfl, by decide +kernel, by decide +kernel⟩

abbrev s_check_integer_in : Stmt := topS 44
abbrev N_check_integer_in : List Str := ["value", "low", "high"]
abbrev P_check_integer_in : List Str := ["value", "low", "high"]
theorem sc_check_integer_in : FnScope N_check_integer_in P_check_integer_in (defScope s_check_integer_in) := ⟨rfl, rfl, rfl, by decide +kernel, rfl, by decide +kernel, by decide +kernel⟩

abbrev s_check_ring : Stmt := topS 45
abbrev N_check_ring : List Str := ["value", "field", "many", "order"]
abbrev P_check_ring : List Str := ["value"]
theorem sc_check_ring : FnScope N_check_ring P_check_ring (defScope s_check_ring) := ⟨rfl, rfl, rfl, by decide +kernel, rfl, by decide +kernel, by decide +kernel⟩

abbrev s_check_variable : Stmt := topS 46
abbrev N_check_variable : List Str := ["coding", "value"]
abbrev P_check_variable : List Str := ["coding", "value"]
theorem sc_check_variable : FnScope N_check_variable P_check_variable (defScope s_check_variable) := ⟨rfl, rfl, rfl, by decide +kernel, rfl, by decide +kernel, by decide +kernel⟩

abbrev s_check_polynomial : Stmt := topS 47
abbrev N_check_polynomial : List Str := ["coding", "value"]
abbrev P_check_polynomial : List Str := ["coding", "value"]
theorem sc_check_polynomial : FnScope N_check_polynomial P_check_polynomial (defScope s_check_polynomial) := ⟨rfl, rfl, rfl, by decide +kernel, rfl, by decide +kernel, by decide +kernel⟩

abbrev s_check_two_polynomials : Stmt := topS 48
abbrev N_check_two_polynomials : List Str := ["ring", "p", "q", "coding"]
abbrev P_check_two_polynomials : List Str := ["ring", "p", "q"]
theorem sc_check_two_polynomials : FnScope N_check_two_polynomials P_check_two_polynomials (defScope s_check_two_polynomials) := ⟨rfl, rfl, rfl, by decide +kernel, rfl, by decide +kernel, by decide +kernel⟩

abbrev s_shifted : Stmt := topS 50
abbrev N_shifted : List Str := ["monomial", "place", "by"]
abbrev P_shifted : List Str := ["monomial", "place", "by"]
theorem sc_shifted : FnScope N_shifted P_shifted (defScope s_shifted) := ⟨rfl, rfl, rfl, by decide +kernel, rfl, by decide +kernel, by decide +kernel⟩

abbrev s_packed : Stmt := topS 52
abbrev N_packed : List Str := ["coding", "p", "fractions", "number", "_", "below", "d", "table", "n", "monomial"]
abbrev P_packed : List Str := ["coding", "p"]
theorem sc_packed : FnScope N_packed P_packed (defScope s_packed) := ⟨rfl, rfl, rfl, by decide +kernel, rfl, by decide +kernel, by decide +kernel⟩

abbrev s_unpacked : Stmt := topS 53
abbrev N_unpacked : List Str := ["coding", "value", "table", "below", "kept", "codes", "code"]
abbrev P_unpacked : List Str := ["coding", "value"]
theorem sc_unpacked : FnScope N_unpacked P_unpacked (defScope s_unpacked) := ⟨rfl, rfl, rfl, by decide +kernel, rfl, by decide +kernel, by decide +kernel⟩

abbrev s_sum_of_terms : Stmt := topS 54
abbrev N_sum_of_terms : List Str := ["coding", "terms", "field", "numbers", "number", "monomial", "zero", "kept"]
abbrev P_sum_of_terms : List Str := ["coding", "terms"]
theorem sc_sum_of_terms : FnScope N_sum_of_terms P_sum_of_terms (defScope s_sum_of_terms) := ⟨rfl, rfl, rfl, by decide +kernel, rfl, by decide +kernel, by decide +kernel⟩

abbrev s_settled : Stmt := topS 55
abbrev N_settled : List Str := ["field", "table", "code", "n"]
abbrev P_settled : List Str := ["field", "table"]
theorem sc_settled : FnScope N_settled P_settled (defScope s_settled) := ⟨rfl, rfl, rfl, by decide +kernel, rfl, by decide +kernel, by decide +kernel⟩

abbrev s_packed_product : Stmt := topS 56
abbrev N_packed_product : List Str := ["field", "one", "other", "table", "code", "n", "more", "times", "at"]
abbrev P_packed_product : List Str := ["field", "one", "other"]
theorem sc_packed_product : FnScope N_packed_product P_packed_product (defScope s_packed_product) := ⟨rfl, rfl, rfl, by decide +kernel, rfl, by decide +kernel, by decide +kernel⟩

abbrev s_plus : Stmt := topS 59
abbrev N_plus : List Str := ["ring", "p", "q", "coding"]
abbrev P_plus : List Str := ["ring", "p", "q"]
theorem sc_plus : FnScope N_plus P_plus (defScope s_plus) := ⟨rfl, rfl, rfl, by decide +kernel, rfl, by decide +kernel, by decide +kernel⟩

abbrev s_times : Stmt := topS 60
abbrev N_times : List Str := ["ring", "p", "q", "coding"]
abbrev P_times : List Str := ["ring", "p", "q"]
theorem sc_times : FnScope N_times P_times (defScope s_times) := ⟨rfl, rfl, rfl, by decide +kernel, rfl, by decide +kernel, by decide +kernel⟩

abbrev s_power : Stmt := topS 61
abbrev N_power : List Str := ["ring", "p", "exponent", "coding"]
abbrev P_power : List Str := ["ring", "p", "exponent"]
theorem sc_power : FnScope N_power P_power (defScope s_power) := ⟨rfl, rfl, rfl, by decide +kernel, rfl, by decide +kernel, by decide +kernel⟩

abbrev s_powers_up_to : Stmt := topS 62
abbrev N_powers_up_to : List Str := ["field", "value", "exponent", "powers", "_"]
abbrev P_powers_up_to : List Str := ["field", "value", "exponent"]
theorem sc_powers_up_to : FnScope N_powers_up_to P_powers_up_to (defScope s_powers_up_to) := ⟨rfl, rfl, rfl, by decide +kernel, rfl, by decide +kernel, by decide +kernel⟩

abbrev s_derivative : Stmt := topS 63
abbrev N_derivative : List Str := ["ring", "p", "place", "coding", "field", "terms", "number", "monomial", "exponent", "factor"]
abbrev P_derivative : List Str := ["ring", "p", "place"]
theorem sc_derivative : FnScope N_derivative P_derivative (defScope s_derivative) := ⟨rfl, rfl, rfl, by decide +kernel, rfl, by decide +kernel, by decide +kernel⟩

abbrev s_law_taken : Stmt := topS 65
abbrev N_law_taken : List Str := ["row", "many", "found", "cell"]
abbrev P_law_taken : List Str := ["row", "many"]
theorem sc_law_taken : FnScope N_law_taken P_law_taken (defScope s_law_taken) := ⟨rfl, rfl, rfl, by decide +kernel, rfl, by decide +kernel, by decide +kernel⟩

abbrev s_law_pick : Stmt := topS 66
abbrev N_law_pick : List Str := ["row", "things"]
abbrev P_law_pick : List Str := ["row", "things"]
theorem sc_law_pick : FnScope N_law_pick P_law_pick (defScope s_law_pick) := ⟨rfl, rfl, rfl, by decide +kernel, rfl, by decide +kernel, by decide +kernel⟩

abbrev s_law_order : Stmt := topS 67
abbrev N_law_order : List Str := ["row", "many", "some", "at"]
abbrev P_law_order : List Str := ["row", "many"]
theorem sc_law_order : FnScope N_law_order P_law_order (defScope s_law_order) := ⟨rfl, rfl, rfl, by decide +kernel, rfl, by decide +kernel, by decide +kernel⟩

abbrev s_law_ring : Stmt := topS 68
abbrev N_law_ring : List Str := ["row", "many"]
abbrev P_law_ring : List Str := ["row", "many"]
theorem sc_law_ring : FnScope N_law_ring P_law_ring (defScope s_law_ring) := ⟨rfl, rfl, rfl, by decide +kernel, rfl, by decide +kernel, by decide +kernel⟩

abbrev s_law_mono : Stmt := topS 69
abbrev N_law_mono : List Str := ["row", "many", "most", "found", "left", "at"]
abbrev P_law_mono : List Str := ["row", "many", "most"]
theorem sc_law_mono : FnScope N_law_mono P_law_mono (defScope s_law_mono) := ⟨rfl, rfl, rfl, by decide +kernel, rfl, by decide +kernel, by decide +kernel⟩

abbrev s_law_gcd : Stmt := topS 70
abbrev N_law_gcd : List Str := ["a", "b", "turn"]
abbrev P_law_gcd : List Str := ["a", "b"]
theorem sc_law_gcd : FnScope N_law_gcd P_law_gcd (defScope s_law_gcd) := ⟨rfl, rfl, rfl, by decide +kernel, rfl, by decide +kernel, by decide +kernel⟩

abbrev s_law_num : Stmt := topS 71
abbrev N_law_num : List Str := ["field", "n", "d", "k", "shared"]
abbrev P_law_num : List Str := ["field", "n", "d"]
theorem sc_law_num : FnScope N_law_num P_law_num (defScope s_law_num) := ⟨rfl, rfl, rfl, by decide +kernel, rfl, by decide +kernel, by decide +kernel⟩

abbrev s_law_number : Stmt := topS 72
abbrev N_law_number : List Str := ["row", "field"]
abbrev P_law_number : List Str := ["row", "field"]
theorem sc_law_number : FnScope N_law_number P_law_number (defScope s_law_number) := ⟨rfl, rfl, rfl, by decide +kernel, rfl, by decide +kernel, by decide +kernel⟩

abbrev s_law_zero : Stmt := topS 73
abbrev N_law_zero : List Str := ["field"]
abbrev P_law_zero : List Str := ["field"]
theorem sc_law_zero : FnScope N_law_zero P_law_zero (defScope s_law_zero) := ⟨rfl, rfl, rfl, by decide +kernel, rfl, by decide +kernel, by decide +kernel⟩

abbrev s_law_revlex : Stmt := topS 74
abbrev N_law_revlex : List Str := ["mono", "exponent"]
abbrev P_law_revlex : List Str := ["mono"]
theorem sc_law_revlex : FnScope N_law_revlex P_law_revlex (defScope s_law_revlex) := ⟨rfl, rfl, rfl, by decide +kernel, rfl, by decide +kernel, by decide +kernel⟩

abbrev s_law_key : Stmt := topS 75
abbrev N_law_key : List Str := ["order", "mono", "at"]
abbrev P_law_key : List Str := ["order", "mono"]
theorem sc_law_key : FnScope N_law_key P_law_key (defScope s_law_key) := ⟨rfl, rfl, rfl, by decide +kernel, rfl, by decide +kernel, by decide +kernel⟩

abbrev s_law_made : Stmt := topS 76
abbrev N_law_made : List Str := ["ring", "numbers", "some", "mono", "keys", "key"]
abbrev P_law_made : List Str := ["ring", "numbers"]
theorem sc_law_made : FnScope N_law_made P_law_made (defScope s_law_made) := ⟨rfl, rfl, rfl, by decide +kernel, rfl, by decide +kernel, by decide +kernel⟩

abbrev s_law_poly : Stmt := topS 77
abbrev N_law_poly : List Str := ["row", "ring", "terms", "most", "found", "at"]
abbrev P_law_poly : List Str := ["row", "ring", "terms", "most"]
theorem sc_law_poly : FnScope N_law_poly P_law_poly (defScope s_law_poly) := ⟨rfl, rfl, rfl, by decide +kernel, rfl, by decide +kernel, by decide +kernel⟩

abbrev s_law_alike : Stmt := topS 78
abbrev N_law_alike : List Str := ["found", "due", "k"]
abbrev P_law_alike : List Str := ["found", "due"]
theorem sc_law_alike : FnScope N_law_alike P_law_alike (defScope s_law_alike) := ⟨rfl, rfl, rfl, by decide +kernel, rfl, by decide +kernel, by decide +kernel⟩

abbrev s_law_mul : Stmt := topS 79
abbrev N_law_mul : List Str := ["field", "a", "b"]
abbrev P_law_mul : List Str := ["field", "a", "b"]
theorem sc_law_mul : FnScope N_law_mul P_law_mul (defScope s_law_mul) := ⟨rfl, rfl, rfl, by decide +kernel, rfl, by decide +kernel, by decide +kernel⟩

abbrev s_law_derived : Stmt := topS 80
abbrev N_law_derived : List Str := ["ring", "p", "place", "found", "number", "mono", "goal", "at"]
abbrev P_law_derived : List Str := ["ring", "p", "place"]
theorem sc_law_derived : FnScope N_law_derived P_law_derived (defScope s_law_derived) := ⟨rfl, rfl, rfl, by decide +kernel, rfl, by decide +kernel, by decide +kernel⟩

abbrev s_law : Stmt := topS 81
abbrev N_law : List Str := ["script", "row", "many", "ring", "p", "q", "place", "other", "left", "right", "due", "small"]
abbrev P_law : List Str := ["script"]
theorem sc_law : FnScope N_law P_law (defScope s_law) := ⟨rfl, rfl, rfl, by decide +kernel, rfl, by decide +kernel, by decide +kernel⟩

/-- the class Coding -/
structure CodAt (K : PySem.W.Frag) (mg : Str → Option Value) where
  C : Addr
  g : mg "Coding" = some (.ref C)
  cls : Cls K C
  aE : Addr
  t_E : ∀ H, SqT K H aE []
  fi : Addr
  fdi : FuncData
  Fi : FunD K "__init__" "Coding.__init__" (defArgs s_Coding___init__) (defBody s_Coding___init__) (defScope s_Coding___init__) [.non, .ref aE] [] fi fdi
  mkr : Mk K C fi
  fu : Addr
  fdu : FuncData
  Fu : Fun K "unit" "Coding.unit" s_Coding_unit fu fdu
  m_unit : Meth K C "unit" fu
  fc : Addr
  fdc : FuncData
  Fc : Fun K "code" "Coding.code" s_Coding_code fc fdc
  m_code : Meth K C "code" fc
  n_field : NoAttr K C "field"
  n_many : NoAttr K C "many"
  n_rows : NoAttr K C "rows"
  n_shifts : NoAttr K C "shifts"
  n_units : NoAttr K C "units"
  n_guard : NoAttr K C "guard"
  n_grades : NoAttr K C "grades"
  n_marks : NoAttr K C "marks"
  n_marked : NoAttr K C "marked"
structure Txt (K : PySem.W.Frag) (mg : Str → Option Value) where
  single_rows : DefAt K mg "single_rows" s_single_rows
  falling_rows : DefAt K mg "falling_rows" s_falling_rows
  rows_of : DefAt K mg "rows_of" s_rows_of
  block_rows : DefAt K mg "block_rows" s_block_rows
  zero_of : DefAt K mg "zero_of" s_zero_of
  inverse_modulo : DefAt K mg "inverse_modulo" s_inverse_modulo
  make_number : DefAt K mg "make_number" s_make_number
  add_numbers : DefAt K mg "add_numbers" s_add_numbers
  multiply_numbers : DefAt K mg "multiply_numbers" s_multiply_numbers
  as_fraction : DefAt K mg "as_fraction" s_as_fraction
  is_integer : DefAt K mg "is_integer" s_is_integer
  is_integer_in : DefAt K mg "is_integer_in" s_is_integer_in
  is_tuple_of : DefAt K mg "is_tuple_of" s_is_tuple_of
  is_tuple_up_to : DefAt K mg "is_tuple_up_to" s_is_tuple_up_to
  is_field : DefAt K mg "is_field" s_is_field
  is_fraction : DefAt K mg "is_fraction" s_is_fraction
  is_number : DefAt K mg "is_number" s_is_number
  is_order : DefAt K mg "is_order" s_is_order
  is_ring : DefAt K mg "is_ring" s_is_ring
  is_row_of_integers : DefAt K mg "is_row_of_integers" s_is_row_of_integers
  is_monomial : DefAt K mg "is_monomial" s_is_monomial
  is_loose_term : DefAt K mg "is_loose_term" s_is_loose_term
  is_polynomial : DefAt K mg "is_polynomial" s_is_polynomial
  check_integer_in : DefAt K mg "check_integer_in" s_check_integer_in
  check_ring : DefAt K mg "check_ring" s_check_ring
  check_variable : DefAt K mg "check_variable" s_check_variable
  check_polynomial : DefAt K mg "check_polynomial" s_check_polynomial
  check_two_polynomials : DefAt K mg "check_two_polynomials" s_check_two_polynomials
  shifted : DefAt K mg "shifted" s_shifted
  packed : DefAt K mg "packed" s_packed
  unpacked : DefAt K mg "unpacked" s_unpacked
  sum_of_terms : DefAt K mg "sum_of_terms" s_sum_of_terms
  settled : DefAt K mg "settled" s_settled
  packed_product : DefAt K mg "packed_product" s_packed_product
  plus : DefAt K mg "plus" s_plus
  times : DefAt K mg "times" s_times
  power : DefAt K mg "power" s_power
  powers_up_to : DefAt K mg "powers_up_to" s_powers_up_to
  derivative : DefAt K mg "derivative" s_derivative
  law_taken : DefAt K mg "_law_taken" s_law_taken
  law_pick : DefAt K mg "_law_pick" s_law_pick
  law_order : DefAt K mg "_law_order" s_law_order
  law_ring : DefAt K mg "_law_ring" s_law_ring
  law_mono : DefAt K mg "_law_mono" s_law_mono
  law_gcd : DefAt K mg "_law_gcd" s_law_gcd
  law_num : DefAt K mg "_law_num" s_law_num
  law_number : DefAt K mg "_law_number" s_law_number
  law_zero : DefAt K mg "_law_zero" s_law_zero
  law_revlex : DefAt K mg "_law_revlex" s_law_revlex
  law_key : DefAt K mg "_law_key" s_law_key
  law_made : DefAt K mg "_law_made" s_law_made
  law_poly : DefAt K mg "_law_poly" s_law_poly
  law_alike : DefAt K mg "_law_alike" s_law_alike
  law_mul : DefAt K mg "_law_mul" s_law_mul
  law_derived : DefAt K mg "_law_derived" s_law_derived
  law : DefAt K mg "law" s_law
  t_PLACE : Tok
  g_PLACE : mg "PLACE" = some (.int PLi t_PLACE)
  t_MASK : Tok
  g_MASK : mg "MASK" = some (.int MKi t_MASK)
  t_WIDTH : Tok
  g_WIDTH : mg "WIDTH" = some (.int 48 t_WIDTH)
  t_MOST_VARIABLES : Tok
  g_MOST_VARIABLES : mg "MOST_VARIABLES" = some (.int 4 t_MOST_VARIABLES)
  t_MOST_WEIGHT : Tok
  g_MOST_WEIGHT : mg "MOST_WEIGHT" = some (.int 20 t_MOST_WEIGHT)
  t_MOST_DEGREE : Tok
  g_MOST_DEGREE : mg "MOST_DEGREE" = some (.int 60 t_MOST_DEGREE)
  t_NUMBER_BOUND : Tok
  g_NUMBER_BOUND : mg "NUMBER_BOUND" = some (.int NBi t_NUMBER_BOUND)
  t_MOST_TERMS : Tok
  g_MOST_TERMS : mg "MOST_TERMS" = some (.int 500 t_MOST_TERMS)
  t_MOST_POWER : Tok
  g_MOST_POWER : mg "MOST_POWER" = some (.int 12 t_MOST_POWER)
  n_len : mg "len" = none
  n_isinstance : mg "isinstance" = none
  n_int : mg "int" = none
  n_bool : mg "bool" = none
  n_str : mg "str" = none
  n_tuple : mg "tuple" = none
  n_list : mg "list" = none
  n_range : mg "range" = none
  n_reversed : mg "reversed" = none
  n_zip : mg "zip" = none
  n_sum : mg "sum" = none
  n_max : mg "max" = none
  n_all : mg "all" = none
  n_any : mg "any" = none
  n_sorted : mg "sorted" = none
  n_abs : mg "abs" = none
  n_enumerate : mg "enumerate" = none
  Coding : CodAt K mg
  aPRIMES : Addr
  g_PRIMES : mg "PRIMES" = some (.ref aPRIMES)
  t_PRIMES : ∀ H, SqT K H aPRIMES ([2, 3, 5, 7, 11, 13, 17, 19, 23, 29, 31].map V.int)
  g_gcd : mg "gcd" = some (.builtin "math.gcd")
  g_lcm : mg "lcm" = some (.builtin "math.lcm")
  fx : Addr
  fdx : FuncData
  Fx : Fun K "exponents" "Coding.exponents" s_Coding_exponents fx fdx
  m_exponents : Meth K Coding.C "exponents" fx
section
variable {P : Program} {w : World} {K : PySem.W.Frag} {mg : Str → Option Value} {base : Heap}
theorem b_single_rows (T : Txt K mg) : Binds K T.single_rows.fd P_single_rows [] := T.single_rows.F.binds fun _ _ _ _ _ _ us hl => match us, hl with | [_], _ => rfl
theorem b_falling_rows (T : Txt K mg) : Binds K T.falling_rows.fd P_falling_rows [] := T.falling_rows.F.binds fun _ _ _ _ _ _ us hl => match us, hl with | [_, _], _ => rfl
theorem b_rows_of (T : Txt K mg) : Binds K T.rows_of.fd P_rows_of [] := T.rows_of.F.binds fun _ _ _ _ _ _ us hl => match us, hl with | [_, _], _ => rfl
theorem b_block_rows (T : Txt K mg) : Binds K T.block_rows.fd P_block_rows [] := T.block_rows.F.binds fun _ _ _ _ _ _ us hl => match us, hl with | [_, _], _ => rfl
theorem b_zero_of (T : Txt K mg) : Binds K T.zero_of.fd P_zero_of [] := T.zero_of.F.binds fun _ _ _ _ _ _ us hl => match us, hl with | [_], _ => rfl
theorem b_inverse_modulo (T : Txt K mg) : Binds K T.inverse_modulo.fd P_inverse_modulo [] := T.inverse_modulo.F.binds fun _ _ _ _ _ _ us hl => match us, hl with | [_, _], _ => rfl
theorem b_make_number (T : Txt K mg) : Binds K T.make_number.fd P_make_number [] := T.make_number.F.binds fun _ _ _ _ _ _ us hl => match us, hl with | [_, _, _], _ => rfl
theorem b_add_numbers (T : Txt K mg) : Binds K T.add_numbers.fd P_add_numbers [] := T.add_numbers.F.binds fun _ _ _ _ _ _ us hl => match us, hl with | [_, _, _], _ => rfl
theorem b_multiply_numbers (T : Txt K mg) : Binds K T.multiply_numbers.fd P_multiply_numbers [] := T.multiply_numbers.F.binds fun _ _ _ _ _ _ us hl => match us, hl with | [_, _, _], _ => rfl
theorem b_as_fraction (T : Txt K mg) : Binds K T.as_fraction.fd P_as_fraction [] := T.as_fraction.F.binds fun _ _ _ _ _ _ us hl => match us, hl with | [_, _], _ => rfl
theorem b_is_integer (T : Txt K mg) : Binds K T.is_integer.fd P_is_integer [] := T.is_integer.F.binds fun _ _ _ _ _ _ us hl => match us, hl with | [_], _ => rfl
theorem b_is_integer_in (T : Txt K mg) : Binds K T.is_integer_in.fd P_is_integer_in [] := T.is_integer_in.F.binds fun _ _ _ _ _ _ us hl => match us, hl with | [_, _, _], _ => rfl
theorem b_is_tuple_of (T : Txt K mg) : Binds K T.is_tuple_of.fd P_is_tuple_of [] := T.is_tuple_of.F.binds fun _ _ _ _ _ _ us hl => match us, hl with | [_, _], _ => rfl
theorem b_is_tuple_up_to (T : Txt K mg) : Binds K T.is_tuple_up_to.fd P_is_tuple_up_to [] := T.is_tuple_up_to.F.binds fun _ _ _ _ _ _ us hl => match us, hl with | [_, _], _ => rfl
theorem b_is_field (T : Txt K mg) : Binds K T.is_field.fd P_is_field [] := T.is_field.F.binds fun _ _ _ _ _ _ us hl => match us, hl with | [_], _ => rfl
theorem b_is_fraction (T : Txt K mg) : Binds K T.is_fraction.fd P_is_fraction [] := T.is_fraction.F.binds fun _ _ _ _ _ _ us hl => match us, hl with | [_], _ => rfl
theorem b_is_number (T : Txt K mg) : Binds K T.is_number.fd P_is_number [] := T.is_number.F.binds fun _ _ _ _ _ _ us hl => match us, hl with | [_, _], _ => rfl
theorem b_is_order (T : Txt K mg) : Binds K T.is_order.fd P_is_order [] := T.is_order.F.binds fun _ _ _ _ _ _ us hl => match us, hl with | [_, _], _ => rfl
theorem b_is_ring (T : Txt K mg) : Binds K T.is_ring.fd P_is_ring [] := T.is_ring.F.binds fun _ _ _ _ _ _ us hl => match us, hl with | [_], _ => rfl
theorem b_is_row_of_integers (T : Txt K mg) : Binds K T.is_row_of_integers.fd P_is_row_of_integers [] := T.is_row_of_integers.F.binds fun _ _ _ _ _ _ us hl => match us, hl with | [_, _, _, _], _ => rfl
theorem b_is_monomial (T : Txt K mg) : Binds K T.is_monomial.fd P_is_monomial [] := T.is_monomial.F.binds fun _ _ _ _ _ _ us hl => match us, hl with | [_, _], _ => rfl
theorem b_is_loose_term (T : Txt K mg) : Binds K T.is_loose_term.fd P_is_loose_term [] := T.is_loose_term.F.binds fun _ _ _ _ _ _ us hl => match us, hl with | [_, _], _ => rfl
theorem b_is_polynomial (T : Txt K mg) : Binds K T.is_polynomial.fd P_is_polynomial [] := T.is_polynomial.F.binds fun _ _ _ _ _ _ us hl => match us, hl with | [_, _], _ => rfl
theorem b_check_integer_in (T : Txt K mg) : Binds K T.check_integer_in.fd P_check_integer_in [] := T.check_integer_in.F.binds fun _ _ _ _ _ _ us hl => match us, hl with | [_, _, _], _ => rfl
theorem b_check_ring (T : Txt K mg) : Binds K T.check_ring.fd P_check_ring [] := T.check_ring.F.binds fun _ _ _ _ _ _ us hl => match us, hl with | [_], _ => rfl
theorem b_check_variable (T : Txt K mg) : Binds K T.check_variable.fd P_check_variable [] := T.check_variable.F.binds fun _ _ _ _ _ _ us hl => match us, hl with | [_, _], _ => rfl
theorem b_check_polynomial (T : Txt K mg) : Binds K T.check_polynomial.fd P_check_polynomial [] := T.check_polynomial.F.binds fun _ _ _ _ _ _ us hl => match us, hl with | [_, _], _ => rfl
theorem b_check_two_polynomials (T : Txt K mg) : Binds K T.check_two_polynomials.fd P_check_two_polynomials [] := T.check_two_polynomials.F.binds fun _ _ _ _ _ _ us hl => match us, hl with | [_, _, _], _ => rfl
theorem b_shifted (T : Txt K mg) : Binds K T.shifted.fd P_shifted [] := T.shifted.F.binds fun _ _ _ _ _ _ us hl => match us, hl with | [_, _, _], _ => rfl
theorem b_packed (T : Txt K mg) : Binds K T.packed.fd P_packed [] := T.packed.F.binds fun _ _ _ _ _ _ us hl => match us, hl with | [_, _], _ => rfl
theorem b_unpacked (T : Txt K mg) : Binds K T.unpacked.fd P_unpacked [] := T.unpacked.F.binds fun _ _ _ _ _ _ us hl => match us, hl with | [_, _], _ => rfl
theorem b_sum_of_terms (T : Txt K mg) : Binds K T.sum_of_terms.fd P_sum_of_terms [] := T.sum_of_terms.F.binds fun _ _ _ _ _ _ us hl => match us, hl with | [_, _], _ => rfl
theorem b_settled (T : Txt K mg) : Binds K T.settled.fd P_settled [] := T.settled.F.binds fun _ _ _ _ _ _ us hl => match us, hl with | [_, _], _ => rfl
theorem b_packed_product (T : Txt K mg) : Binds K T.packed_product.fd P_packed_product [] := T.packed_product.F.binds fun _ _ _ _ _ _ us hl => match us, hl with | [_, _, _], _ => rfl
theorem b_plus (T : Txt K mg) : Binds K T.plus.fd P_plus [] := T.plus.F.binds fun _ _ _ _ _ _ us hl => match us, hl with | [_, _, _], _ => rfl
theorem b_times (T : Txt K mg) : Binds K T.times.fd P_times [] := T.times.F.binds fun _ _ _ _ _ _ us hl => match us, hl with | [_, _, _], _ => rfl
theorem b_power (T : Txt K mg) : Binds K T.power.fd P_power [] := T.power.F.binds fun _ _ _ _ _ _ us hl => match us, hl with | [_, _, _], _ => rfl
theorem b_powers_up_to (T : Txt K mg) : Binds K T.powers_up_to.fd P_powers_up_to [] := T.powers_up_to.F.binds fun _ _ _ _ _ _ us hl => match us, hl with | [_, _, _], _ => rfl
theorem b_derivative (T : Txt K mg) : Binds K T.derivative.fd P_derivative [] := T.derivative.F.binds fun _ _ _ _ _ _ us hl => match us, hl with | [_, _, _], _ => rfl
theorem b_law_taken (T : Txt K mg) : Binds K T.law_taken.fd P_law_taken [] := T.law_taken.F.binds fun _ _ _ _ _ _ us hl => match us, hl with | [_, _], _ => rfl
theorem b_law_pick (T : Txt K mg) : Binds K T.law_pick.fd P_law_pick [] := T.law_pick.F.binds fun _ _ _ _ _ _ us hl => match us, hl with | [_, _], _ => rfl
theorem b_law_order (T : Txt K mg) : Binds K T.law_order.fd P_law_order [] := T.law_order.F.binds fun _ _ _ _ _ _ us hl => match us, hl with | [_, _], _ => rfl
theorem b_law_ring (T : Txt K mg) : Binds K T.law_ring.fd P_law_ring [] := T.law_ring.F.binds fun _ _ _ _ _ _ us hl => match us, hl with | [_, _], _ => rfl
theorem b_law_mono (T : Txt K mg) : Binds K T.law_mono.fd P_law_mono [] := T.law_mono.F.binds fun _ _ _ _ _ _ us hl => match us, hl with | [_, _, _], _ => rfl
theorem b_law_gcd (T : Txt K mg) : Binds K T.law_gcd.fd P_law_gcd [] := T.law_gcd.F.binds fun _ _ _ _ _ _ us hl => match us, hl with | [_, _], _ => rfl
theorem b_law_num (T : Txt K mg) : Binds K T.law_num.fd P_law_num [] := T.law_num.F.binds fun _ _ _ _ _ _ us hl => match us, hl with | [_, _, _], _ => rfl
theorem b_law_number (T : Txt K mg) : Binds K T.law_number.fd P_law_number [] := T.law_number.F.binds fun _ _ _ _ _ _ us hl => match us, hl with | [_, _], _ => rfl
theorem b_law_zero (T : Txt K mg) : Binds K T.law_zero.fd P_law_zero [] := T.law_zero.F.binds fun _ _ _ _ _ _ us hl => match us, hl with | [_], _ => rfl
theorem b_law_revlex (T : Txt K mg) : Binds K T.law_revlex.fd P_law_revlex [] := T.law_revlex.F.binds fun _ _ _ _ _ _ us hl => match us, hl with | [_], _ => rfl
theorem b_law_key (T : Txt K mg) : Binds K T.law_key.fd P_law_key [] := T.law_key.F.binds fun _ _ _ _ _ _ us hl => match us, hl with | [_, _], _ => rfl
theorem b_law_made (T : Txt K mg) : Binds K T.law_made.fd P_law_made [] := T.law_made.F.binds fun _ _ _ _ _ _ us hl => match us, hl with | [_, _], _ => rfl
theorem b_law_poly (T : Txt K mg) : Binds K T.law_poly.fd P_law_poly [] := T.law_poly.F.binds fun _ _ _ _ _ _ us hl => match us, hl with | [_, _, _, _], _ => rfl
theorem b_law_alike (T : Txt K mg) : Binds K T.law_alike.fd P_law_alike [] := T.law_alike.F.binds fun _ _ _ _ _ _ us hl => match us, hl with | [_, _], _ => rfl
theorem b_law_mul (T : Txt K mg) : Binds K T.law_mul.fd P_law_mul [] := T.law_mul.F.binds fun _ _ _ _ _ _ us hl => match us, hl with | [_, _, _], _ => rfl
theorem b_law_derived (T : Txt K mg) : Binds K T.law_derived.fd P_law_derived [] := T.law_derived.F.binds fun _ _ _ _ _ _ us hl => match us, hl with | [_, _, _], _ => rfl
theorem b_law (T : Txt K mg) : Binds K T.law.fd P_law [] := T.law.F.binds fun _ _ _ _ _ _ us hl => match us, hl with | [_], _ => rfl
theorem b_Coding___init__ (T : Txt K mg) : ∃ ds, Vals [V.non, .ref T.Coding.aE] ds ∧ Binds K T.Coding.fdi P_Coding___init__ ds :=
  T.Coding.Fi.binds1 4 0 (by simp) rfl fun Ta kV doc pm an cdv ct us its h1 h2 => match us, its, h1, h2 with | [_, _, _, _], [_, _], _, _ => ⟨_, rfl, rfl⟩
theorem b_Coding_unit (T : Txt K mg) : Binds K T.Coding.fdu P_Coding_unit [] := T.Coding.Fu.binds fun _ _ _ _ _ _ us hl => match us, hl with | [_, _], _ => rfl
theorem b_Coding_code (T : Txt K mg) : Binds K T.Coding.fdc P_Coding_code [] := T.Coding.Fc.binds fun _ _ _ _ _ _ us hl => match us, hl with | [_, _], _ => rfl
end

/-! ### plain readings: what leaves all that stands as it is, whoever called -/
abbrev Kp (h h' : Heap) : Prop := ∀ b o, h.get? b = some o → h'.get? b = some o
/-- what is known of the heap, and stays known as it grows -/
structure Stay (K : PySem.W.Frag) (mg : Str → Option Value) (Φ : Heap → Prop) : Prop where
  up : ∀ h h', Φ h → Kp h h' → Φ h'
  kin : ∀ h, Φ h → K.In h
  glob : ∀ h, Φ h → h.Ns mainGlobals mg
  blt : ∀ h, Φ h → ∃ mb, h.Ns builtinsNs mb ∧ ∀ x : Str, x ≠ "__name__" → mb x = bootBuiltins x
  lim : ∀ h, Φ h → h.NoLimit
theorem keeps0 (s : Shared) (k : Nat) : Keeps s { s with toks := k } := ⟨s.heap, k, rfl, fun _ _ e => e⟩
theorem keepsT {s s1 s2 : Shared} (a : Keeps s s1) (b : Keeps s1 s2) : Keeps s s2 := by
  obtain ⟨h1, k1, rfl, e1⟩ := a
  obtain ⟨h2, k2, rfl, e2⟩ := b
  exact ⟨h2, k2, rfl, fun x o e => e2 x o (e1 x o e)⟩
theorem keepsH {s s1 : Shared} (a : Keeps s s1) : Kp s.heap s1.heap := by
  obtain ⟨h1, k1, rfl, e1⟩ := a
  exact e1
/-- the places of a reading: the depth and the room below it -/
def PuE (P : Program) (w : World) (Φ : Heap → Prop) (cenv : Env) (m : Str → Option Value) (D U : Nat) (e : Expr) (R : Value → Prop) : Prop :=
  ∀ (A : Around) (E : Value → Shared → Prop) (s : Shared), A.handled = none → A.depth ≤ D → A.units ≤ U → Φ s.heap → s.heap.Ns cenv.locals m →
    wpAny (model P w) A (eval e cenv) (fun y s' => R y ∧ Keeps s s') E s
def PuF (P : Program) (w : World) (Φ : Heap → Prop) (D U : Nat) (f : Addr) (us : List Value) (R : Value → Prop) : Prop :=
  ∀ (A : Around) (s : Shared), A.handled = none → A.depth ≤ D → A.units ≤ U → Φ s.heap →
    codeAny (model P w) A (.call (.ref f) ⟨us, []⟩) (fun r s' => match r with | .ok (.ret y) => R y ∧ Keeps s s' | _ => False) s
/-- the same, however the arguments came -/
def PuG (P : Program) (w : World) (Φ : Heap → Prop) (D U : Nat) (f : Addr) (fd : FuncData) (ps : List Str) (us : List Value) (R : Value → Prop) : Prop :=
  ∀ (A : Around) (s : Shared) (args : Args), BindsTo s fd args (ps.zip us) → A.handled = none → A.depth ≤ D → A.units ≤ U → Φ s.heap →
    codeAny (model P w) A (.call (.ref f) args) (fun r s' => match r with | .ok (.ret y) => R y ∧ Keeps s s' | _ => False) s
structure PuEnv (cenv : Env) : Prop where
  kind : cenv.scope.kind = .function
  glob : cenv.globals = mainGlobals
  blt : cenv.builtins = builtinsNs
section
variable {P : Program} {w : World} {K : PySem.W.Frag} {mg : Str → Option Value} {Φ : Heap → Prop} {cenv : Env} {m : Str → Option Value} {D U : Nat}
theorem PuG.pos {f : Addr} {fd : FuncData} {ps : List Str} {us : List Value} {R : Value → Prop} (h : PuG P w Φ D U f fd ps us R) (S : Stay K mg Φ) (hb : Binds K fd ps []) (hl : us.length = ps.length) : PuF P w Φ D U f us R := fun A s a b c d => by
  have q := hb s us (S.kin _ d) (by rw [List.append_nil]; exact hl)
  rw [List.append_nil] at q
  exact h A s _ q a b c d
/-- a promise from a plain reading -/
theorem fnOk_pu {base : Heap} {CX : CXT} {k : Nat} {f : Addr} {fd : FuncData} {ps : List Str} {sp : Sp} (len : ∀ vs H Q E, sp vs H Q E → vs.length = ps.length)
    (h : ∀ (A : Around) (outer : List Env) (s : Shared) (H : Hp) (us : List Value) (vs : List V) (Q : VK) (E : XK), Room k A → Env0 P w K mg base A outer s H → Vals vs us → sp vs H Q E →
      ∃ (Φ : Heap → Prop) (R : Value → Prop), Φ s.heap ∧ PuG P w Φ A.depth A.units f fd ps us R ∧ ∀ y, R y → ∃ v, RelV v y ∧ Q v H) : FnOk P w K mg base CX k f fd ps sp := by
  refine ⟨len, fun A outer s H args us vs Q E hr he hb hv hs => ?_⟩
  obtain ⟨Φ, R, hφ, hg, hq⟩ := h A outer s H us vs Q E hr he hv hs
  refine codeAny_mono (hg A s args hb hr.hd (Nat.le_refl _) (Nat.le_refl _) hφ) fun r s' q => ?_
  cases r with
  | error e => exact False.elim q
  | ok fl =>
    cases fl with
    | ret u =>
      obtain ⟨q1, h2, tk2, e2, k2⟩ := q
      subst e2
      obtain ⟨v, rv, qv⟩ := hq u q1
      exact ⟨v, H, rfl, he.bare, Un.kept k2, he.hok.kept k2, rv, qv⟩
    | next => exact False.elim q
    | brk => exact False.elim q
    | cont => exact False.elim q
theorem PuE.imp {e : Expr} {R R' : Value → Prop} (h : PuE P w Φ cenv m D U e R) (g : ∀ y, R y → R' y) : PuE P w Φ cenv m D U e R' := fun A E s a b c d f =>
  wpAny_mono (h A E s a b c d f) (fun y s' q => ⟨g y q.1, q.2⟩) fun _ _ x => x
theorem pu_name {x : Str} {u : Value} {pos : Pos} (ev : PuEnv cenv) (hx : cenv.scope.names.lookup x = some .local) (hm : m x = some u) (hd : (x == ("__debug__" : Str)) = false := by decide) : PuE P w Φ cenv m D U (.Name x pos) (· = u) :=
  fun A E s _ _ _ _ hn => wpAny_Name (wpAny_loadName_local ev.kind (show cenv.scope.names.lookup x = some .local from hx) hn hm ⟨rfl, keeps0 s s.toks⟩) hd
theorem pu_glob {x : Str} {u : Value} {pos : Pos} (S : Stay K mg Φ) (ev : PuEnv cenv) (hx : cenv.kindOf x = some .globalImplicit) (hm : mg x = some u) (hd : (x == ("__debug__" : Str)) = false := by decide) : PuE P w Φ cenv m D U (.Name x pos) (· = u) :=
  fun A E s _ _ _ hf _ => Calls.Name_function_global ev.kind hx (Calls.loadGlobal_global (by rw [ev.glob]; exact S.glob _ hf) hm ⟨rfl, keeps0 s s.toks⟩) hd
theorem pu_int {i : Int} {j : Nat} {pos : Pos} : PuE P w Φ cenv m D U (.Constant (.int i) j pos) (fun y => ∃ t, y = .int i t) :=
  fun A E s _ _ _ _ _ => wpAny_Constant_int ⟨⟨_, rfl⟩, keeps0 s _⟩
/-- a and b, bools -/
theorem pu_and {a b : Expr} {pos : Pos} {x y : Bool} (S : Stay K mg Φ) (ha : PuE P w Φ cenv m D U a (· = .bool x)) (hb : x = true → PuE P w Φ cenv m D U b (· = .bool y)) : PuE P w Φ cenv m D U (.BoolOp .And [a, b] pos) (· = .bool (x && y)) := by
  intro A E s h1 h2 h3 hf hn
  refine PyProof.Rows.BoolOp_and (wpAny_mono (ha A E s h1 h2 h3 hf hn) (fun v s1 q => ?_) fun _ _ z => z)
  obtain ⟨rfl, k⟩ := q
  refine wpAny_truthy_bool ?_
  cases x with
  | false => exact ⟨rfl, k⟩
  | true => exact PyProof.Rows.BoolOp_one (wpAny_mono (hb rfl A E s1 h1 h2 h3 (S.up _ _ hf (keepsH k)) (hn.at' fun o e => keepsH k _ o e)) (fun v s2 q => ⟨q.1, keepsT k q.2⟩) fun _ _ z => z)
theorem pu_not {a : Expr} {pos : Pos} {x : Bool} (ha : PuE P w Φ cenv m D U a (· = .bool x)) : PuE P w Φ cenv m D U (.UnaryOp .Not a pos) (· = .bool (!x)) := by
  intro A E s h1 h2 h3 hf hn
  refine PyProof.Rows.UnaryOp_ (wpAny_mono (ha A E s h1 h2 h3 hf hn) (fun v s1 q => ?_) fun _ _ z => z)
  obtain ⟨rfl, k⟩ := q
  exact PyProof.Rows.not_of (wpAny_truthy_bool ⟨rfl, k⟩)
/-- a <= b <= c, ints -/
theorem pu_chain {a b c : Expr} {pos : Pos} {i j k : Int} (S : Stay K mg Φ) (ha : PuE P w Φ cenv m D U a (fun y => ∃ t, y = .int i t)) (hb : PuE P w Φ cenv m D U b (fun y => ∃ t, y = .int j t)) (hc : PuE P w Φ cenv m D U c (fun y => ∃ t, y = .int k t))
    (hm : lastMarks [.LtE, .LtE] [b, c] = false := by with_unfolding_all rfl) : PuE P w Φ cenv m D U (.Compare a [.LtE, .LtE] [b, c] pos) (· = .bool (decide (i ≤ j) && decide (j ≤ k))) := by
  intro A E s h1 h2 h3 hf hn
  refine PyProof.Rows.Compare_chain (wpAny_mono (ha A E s h1 h2 h3 hf hn) (fun v s1 q => ?_) fun _ _ z => z) hm
  obtain ⟨⟨t, rfl⟩, k1⟩ := q
  have hn1 : s1.heap.Ns cenv.locals m := hn.at' fun o e => keepsH k1 _ o e
  refine PyProof.Rows.chain_link (wpAny_mono (hb A E s1 h1 h2 h3 (S.up _ _ hf (keepsH k1)) hn1) (fun v s2 q => ?_) fun _ _ z => z)
  obtain ⟨⟨t2, rfl⟩, k2⟩ := q
  have hn2 : s2.heap.Ns cenv.locals m := hn1.at' fun o e => keepsH k2 _ o e
  refine PyProof.Rows.le_int (wpAny_truthy_bool ?_)
  by_cases z : i ≤ j
  · rw [decide_eq_true z]
    refine PyProof.Rows.ite_tt (PyProof.Rows.chain_last (wpAny_mono (hc A E s2 h1 h2 h3 (S.up _ _ hf (keepsH (keepsT k1 k2))) hn2) (fun v s3 q => ?_) fun _ _ z => z))
    obtain ⟨⟨t3, rfl⟩, k3⟩ := q
    exact PyProof.Rows.le_int ⟨by rw [Bool.true_and], keepsT k1 (keepsT k2 k3)⟩
  · rw [decide_eq_false z]
    exact PyProof.Rows.ite_ff ⟨by rw [Bool.false_and], keepsT k1 k2⟩
theorem pu_lt {a b : Expr} {pos : Pos} {i j : Int} (S : Stay K mg Φ) (ha : PuE P w Φ cenv m D U a (fun y => ∃ t, y = .int i t)) (hb : PuE P w Φ cenv m D U b (fun y => ∃ t, y = .int j t)) (hm : behindInMarks .Lt b = false) : PuE P w Φ cenv m D U (.Compare a [.Lt] [b] pos) (· = .bool (decide (i < j))) := by
  intro A E s h1 h2 h3 hf hn
  refine wpAny_Compare1 (wpAny_mono (ha A E s h1 h2 h3 hf hn) (fun v s1 q => ?_) fun _ _ z => z) hm
  obtain ⟨⟨t, rfl⟩, k1⟩ := q
  refine wpAny_mono (hb A E s1 h1 h2 h3 (S.up _ _ hf (keepsH k1)) (hn.at' fun o e => keepsH k1 _ o e)) (fun v s2 q => ?_) fun _ _ z => z
  obtain ⟨⟨t2, rfl⟩, k2⟩ := q
  exact PyProof.Rows.lt_int ⟨rfl, keepsT k1 k2⟩
/-- a value's kind, as isinstance asks -/
def Isi (K : PySem.W.Frag) (Φ : Heap → Prop) (u : Value) (T : String) (b : Bool) : Prop :=
  ∃ (t : Value) (H : Heap → Prop), PySem.W.KitX K u t H ∧ (∀ h, Φ h → H h) ∧ PySem.W.kitOne K t (.type T) = some b ∧ u ≠ .builtin "__main__.__loader__#opaque"
theorem pu_isi {e : Expr} {T : String} {T' : Str} {p q pos : Pos} {u : Value} {b : Bool} (S : Stay K mg Φ) (ev : PuEnv cenv) (hg : cenv.kindOf "isinstance" = some .globalImplicit) (hm : mg "isinstance" = none) (hT : cenv.kindOf T' = some .globalImplicit) (hmT : mg T' = none) (hv : bootBuiltins T' = some (.type T))
    (ha : PuE P w Φ cenv m D U e (· = u)) (hi : Isi K Φ u T b) (hn' : T' ≠ "__name__" := by decide) (hd : (T' == ("__debug__" : Str)) = false := by decide)
    (he : starEach [e, .Name T' q] cenv = (false, eval e cenv) :: starEach [.Name T' q] cenv := by rfl) (hpl : (backTo pos (starEach [.Name T' q] cenv)).any (·.1) = false := by rfl) :
    PuE P w Φ cenv m D U (.Call (.Name "isinstance" p) [e, .Name T' q] [] pos) (· = .bool b) := by
  intro A E s h1 h2 h3 hf hn
  obtain ⟨mb, b1, b2⟩ := S.blt _ hf
  refine wpAny_Call_Name_kw (Calls.Name_function_global ev.kind hg (Calls.loadGlobal_builtin (by rw [ev.glob]; exact S.glob _ hf) hm (by rw [ev.blt]; exact b1) ((b2 _ (by decide)).trans bo_isinstance) ?_))
  refine PyProof.Rows.callWith_builtin1 ?_ he hpl
  rw [he]
  show wpAny _ _ (spliced ((false, eval e cenv) :: backTo pos (starEach [.Name T' q] cenv))) _ _ s
  refine Calls.spliced_cons (wpAny_mono (ha A E s h1 h2 h3 hf hn) (fun v s1 r => ?_) fun _ _ z => z)
  obtain ⟨rfl, k1⟩ := r
  have hf1 := S.up _ _ hf (keepsH k1)
  obtain ⟨mb1, c1, c2⟩ := S.blt _ hf1
  refine Calls.spliced_cons (Calls.Name_function_global ev.kind hT (Calls.loadGlobal_builtin (by rw [ev.glob]; exact S.glob _ hf1) hmT (by rw [ev.blt]; exact c1) ((c2 _ hn').trans hv) ?_) hd)
  refine Calls.spliced_nil ?_
  obtain ⟨t, HH, Z, hp, ko, hx⟩ := hi
  exact PySem.W.kia_one Z (S.kin _ hf1) (hp _ hf1) ko hx fun tk => ⟨rfl, keepsT k1 (keeps0 s1 tk)⟩
def PuA (P : Program) (w : World) (Φ : Heap → Prop) (cenv : Env) (m : Str → Option Value) (D U : Nat) (es : List Expr) (R : List Value → Prop) : Prop :=
  ∀ (pos : Pos) (A : Around) (E : Value → Shared → Prop) (s : Shared), A.handled = none → A.depth ≤ D → A.units ≤ U → Φ s.heap → s.heap.Ns cenv.locals m →
    wpAny (model P w) A (spliced (backTo pos (starEach es cenv))) (fun us s' => R us ∧ Keeps s s') E s
theorem pua_nil : PuA P w Φ cenv m D U [] (· = []) := fun _ A E s _ _ _ _ _ => Calls.spliced_nil ⟨rfl, keeps0 s s.toks⟩
theorem pua_cons {e : Expr} {es : List Expr} {R : Value → Prop} {Rs : List Value → Prop} (S : Stay K mg Φ) (ha : PuE P w Φ cenv m D U e R) (hr : PuA P w Φ cenv m D U es Rs) (hs : starEach (e :: es) cenv = (false, eval e cenv) :: starEach es cenv := by rfl) :
    PuA P w Φ cenv m D U (e :: es) (fun us => ∃ u vs, us = u :: vs ∧ R u ∧ Rs vs) := by
  intro pos A E s h1 h2 h3 hf hn
  rw [hs]
  show wpAny _ _ (spliced ((false, eval e cenv) :: backTo pos (starEach es cenv))) _ _ s
  refine Calls.spliced_cons (wpAny_mono (ha A E s h1 h2 h3 hf hn) (fun v s1 r => ?_) fun _ _ z => z)
  refine wpAny_mono (hr pos A E s1 h1 h2 h3 (S.up _ _ hf (keepsH r.2)) (hn.at' fun o e => keepsH r.2 _ o e)) (fun vs s2 q => ?_) fun _ _ z => z
  exact ⟨⟨v, vs, rfl, r.1, q.1⟩, keepsT r.2 q.2⟩
theorem pu_call {x : Str} {f : Addr} {e : Expr} {es : List Expr} {p pos : Pos} {R : Value → Prop} {Rs : List Value → Prop} (S : Stay K mg Φ) (ev : PuEnv cenv) (hg : cenv.kindOf x = some .globalImplicit) (hm : mg x = some (.ref f)) (hk : PySem.W.keepIn K (.ref f) = true)
    (ha : PuA P w Φ cenv m D U (e :: es) Rs) (hf : ∀ us, Rs us → PuF P w Φ D U f us R) (hd : (x == ("__debug__" : Str)) = false := by decide) (he : starEach (e :: es) cenv = (false, eval e cenv) :: starEach es cenv := by rfl)
    (hpl : (backTo pos (starEach es cenv)).any (·.1) = false := by rfl) : PuE P w Φ cenv m D U (.Call (.Name x p) (e :: es) [] pos) R := by
  intro A E s h1 h2 h3 hφ hn
  refine wpAny_Call_Name_kw (Calls.Name_function_global ev.kind hg (Calls.loadGlobal_global (by rw [ev.glob]; exact S.glob _ hφ) hm ?_) hd)
  refine PySem.W.callWith_K (h₀ := s.heap) (S.kin _ hφ) hk (wpAny_mono (ha pos A E s h1 h2 h3 hφ hn) (fun us s1 r => ?_) fun _ _ z => z) he hpl
  have hφ1 := S.up _ _ hφ (keepsH r.2)
  refine ⟨S.kin _ hφ1, wpAny_call (codeAny_mono (hf us r.1 A s1 h1 h2 h3 hφ1) fun rr s2 q => ?_)⟩
  cases rr with
  | error e => exact False.elim q
  | ok fl =>
    cases fl with
    | ret u => exact ⟨q.1, keepsT r.2 q.2⟩
    | next => exact False.elim q
    | brk => exact False.elim q
    | cont => exact False.elim q
/-- a def whose body is one return -/
theorem pf_of {x qual : Str} {st : Stmt} {f : Addr} {fd : FuncData} {N ps : List Str} {e : Expr} {rp : Pos} {us : List Value} {R : Value → Prop} (F : Fun K x qual st f fd) (S : FnScope N ps (defScope st)) (Sx : Stay K mg Φ)
    (hl : us.length = ps.length) (hbody : defBody st = [.Return (some e) rp]) (hD : D < recursionLimit)
    (he : ∀ cenv : Env, PuEnv cenv → cenv.scope = defScope st → PuE P w Φ cenv (bindL cenv.kindOf (ps.zip us) fun _ => none) (D + 1) (U + 3) e R) : PuG P w Φ D U f fd ps us R := by
  intro A s args hbb h1 h2 h3 hφ
  obtain ⟨oc, od, kV, doc, pm, an, cdv, ct, osl, rfl, lk, hcd⟩ := F.ex
  have KX : K.In s.heap := Sx.kin _ hφ
  have lim : s.heap.NoLimit := Sx.lim _ hφ
  have hkind : ∀ y ∈ ps.zip us, (defScope st).names.lookup y.1 = some .local ∨ ((defScope st).names.lookup y.1 = some .cell ∧ ((cellsFrom (s.heap.objs.size + 1) (defScope st).names []).lookup y.1).isSome = true) := fun ⟨n, v⟩ hy => by
    rcases S.par n (List.of_mem_zip hy).1 with q | q
    · exact .inl q
    · exact .inr ⟨q, PySem.W.cellsFrom_some _ _ _ (.inl q)⟩
  refine codeAny_call_function (Nat.lt_of_le_of_lt h2 hD) (KX _ _ lk) rfl S.co S.gen rfl (PySem.W.codeRec_of KX hcd) (hbb _ _ _ _ ?_)
  refine wpAny_newFunctionEnv_cells S.kind hkind fun env hen s1 ic => ?_
  subst hen
  refine ⟨lim.keeps ic.toInCall.keep, codeAny_func ?_⟩
  obtain ⟨h1', tk, rfl, hkp⟩ := ic.done
  show wpAny _ _ (execs (defBody st) _) _ _ _
  rw [hbody]
  refine wpAny_execs_cons (wpAny_Return_some (wpAny_mono (he _ ⟨S.kind, rfl, rfl⟩ rfl _ _ _ h1 (by show A.depth + 1 ≤ D + 1; omega) (by show A.units + 3 ≤ U + 3; omega) (Sx.up _ _ hφ hkp) ic.toInCall.ns) (fun y s2 q => ?_) fun _ _ z => z))
  exact ⟨q.1, keepsT ⟨h1', tk, rfl, hkp⟩ q.2⟩
end

/-! ### all(..), any(..) of a generator expression over a tuple: the element a plain reading -/
/-- the element's reading, item by item -/
def EltT (X : Cx) (T : Addr) (sc : Scope) (x : Str) (el : Expr) (xs : List V) (pb : Nat → Bool) (H1 : Hp) : Prop :=
  ∀ (Φ : Heap → Prop) (pins : List (Addr × Obj)) (σ : L2.St) (t1 : Shared) (cenv : Env) (m : Str → Option Value) (i : Nat) (v : V) (u : Value), Stay X.K X.mg Φ → Inv X pins σ H1 t1 →
    (∀ h, Φ h → ∀ b o, b ≠ T → t1.heap.get? b = some o → h.get? b = some o) → PuEnv cenv → cenv.scope = sc → cenv.cells = cloFrom X.env.cells sc.names [] → xs[i]? = some v → RelV v u → m x = some u →
    PuE X.prog X.w Φ cenv m (X.A.depth + 1) (X.A.units + 8) el (· = .bool (pb i))
/-- the generator g, ready for a walk of n bools -/
def Rdy (X : Cx) (pins : List (Addr × Obj)) (σ : L2.St) (H1 : Hp) (T : Addr) (n : Nat) (pb : Nat → Bool) (g : Addr) (t5 : Shared) : Prop :=
  ∃ (fp wr : List Addr) (G : Array GenState → Array GenState → Prop) (F : Nat → Value → Prop) (St : Nat → Shared → Prop),
    WalksS X.prog X.w X.A.in1 g fp wr G n F St ∧ St 0 t5 ∧ TruthOf X.prog X.w X.A.in1 F pb ∧ ∀ t', Moved wr G t5 t' → ∃ H2, GxR.Tabbed T H1 H2 ∧ Inv X pins σ H2 t'
section
variable {X : Cx} {pins : List (Addr × Obj)} {σ : L2.St} {H : Hp} {s : Shared}
/-- the ground of an element: all that stood but the table -/
theorem stay_but {K : PySem.W.Frag} {mg : Str → Option Value} {base : Heap} {T : Addr} {h1 : Heap} (M : Mod K mg base) (hb : ∀ b o, base.get? b = some o → h1.get? b = some o ∧ b ≠ T) :
    Stay K mg fun h => ∀ b o, b ≠ T → h1.get? b = some o → h.get? b = some o := by
  have up : ∀ h : Heap, (∀ b o, b ≠ T → h1.get? b = some o → h.get? b = some o) → ∀ b o, base.get? b = some o → h.get? b = some o := fun h q b o e => q b o (hb b o e).2 (hb b o e).1
  refine ⟨fun h h' q k b o n e => k b o (q b o n e), fun h q => M.kin.keeps (up h q), fun h q => M.glob.keeps (up h q), fun h q => ?_, fun h q => M.nolimit.keeps (up h q)⟩
  obtain ⟨mb, e1, e2⟩ := M.blt
  exact ⟨mb, e1.keeps (up h q), e2⟩
theorem gen_tup {c T : Addr} {elt iter : Expr} {x : Str} {px gpos : Pos} {scope : Scope} {te : TE} {k : Nat} {Q' : Value → Shared → Prop} {R : Nat → (Nat → Bool) → Hp → Prop}
    (hr : Room k X.A) (TB : GxR.TabB X.base X.mg c T) (hcode : X.env.code = .ref c) (S : GxR.GenS X.env scope x) (hi : PE X iter te) (hs : ∀ v, genFold iter X.env v = pure v) (I : Inv X pins σ H s)
    (h : te σ H fun v H1 => ∃ (a : Addr) (xs : List V) (pb : Nat → Bool), v = .ref a ∧ SqT X.K H1 a xs ∧ GxR.TabG H1 T ∧ EltT X T scope x elt xs pb H1 ∧ R xs.length pb H1)
    (hQ' : ∀ n pb H1 g t5, R n pb H1 → Rdy X pins σ H1 T n pb g t5 → Q' (.ref g) t5) :
    wpAny (model X.prog X.w) X.A (eval (.GeneratorExp elt [⟨.Name x px, iter, [], 0⟩] scope gpos) X.env) Q' X.xe s := by
  refine wpAny_GeneratorExp_walksQD hr.hd S.co (closure_ok S.free) S.cell S.dot S.loc S.kind (by have := hr.dp; omega) ?_ hs
  refine thn (hi.run pins s σ H _ I h) fun xv t1 ⟨v, H1, I1, r1, a, xs, pb, ev, hsq, ⟨ps, hT, htri⟩, hel, hQ⟩ => ?_
  subst ev
  cases r1
  obtain ⟨its, rv, htup, hz⟩ := I1.tuple hsq
  have htup' : t1.heap.IsTuple a its.toArray := htup
  have tT : t1.heap.get? T = some { cls := .none, data := .fields ps } := I1.hok T _ hT
  have lT : T < t1.heap.objs.size := Heap.lt_size tT
  have la : a < t1.heap.objs.size := by obtain ⟨o, e, _⟩ := htup; exact Heap.lt_size e
  have naT : a ≠ T := fun e => by
    obtain ⟨o, e1, e2, _⟩ := htup
    rw [e, tT] at e1
    cases e1
    cases e2
  refine wpAny_pyIter_tuple htup' ?_
  obtain ⟨o9, ho9⟩ : ∃ o9 : Obj, o9 = { cls := .type "tuple_iterator", data := .fields #[.ref a, .int 0 0] } := ⟨_, rfl⟩
  rw [← ho9]
  have tT2 : (t1.heap.push o9).get? T = some { cls := .none, data := .fields ps } := Heap.get?_push_of_some _ tT
  have cd : PySem.W.CodeHd (t1.heap.push o9) c T := TB.code.keeps fun b u e => Heap.get?_push_of_some _ (I1.bk b u e)
  have lim2 : (t1.heap.push o9).NoLimit := I1.nolimit.push o9
  have sz2 : (t1.heap.push o9).objs.size = t1.heap.objs.size + 1 := Heap.size_push ..
  have hbT : ∀ b u, X.base.get? b = some u → t1.heap.get? b = some u ∧ b ≠ T := fun b u e => ⟨I1.bk b u e, fun z => by
    have q := (I1.bs b u e).2
    rw [z, hT] at q
    cases q⟩
  have run : ∀ (code : Value) (h3 : Heap) (tk : Nat) (ps' : Array Value), Heap.ExtBut T (t1.heap.push o9) h3 → (t1.heap.push o9).objs.size ≤ h3.objs.size → h3.get? T = some { cls := .none, data := .fields ps' } → (∃ more, ps' = ps ++ more) → TriplesOk ps'.toList →
      wpAny (model X.prog X.w) X.A (builtinsFor X.env.globals X.env.builtins) (fun bi t4 =>
        ∃ Ia fp wr n₀ Pf St₀ pz F, Value.ref t1.heap.objs.size = .ref Ia ∧ (∀ A' : Around, A'.handled = none → Walks X.prog X.w A' Ia fp wr n₀ Pf St₀) ∧ St₀ 0 t4.heap ∧ (∀ b ∈ fp, b < t4.heap.objs.size) ∧ t4.heap.NoLimit ∧ cStatics ∉ wr ∧
          (∀ href : Heap, (∀ b o, t4.heap.get? b = some o → href.get? b = some o) →
            QuietGenD X.prog X.w (genEnv scope (cloFrom X.env.cells scope.names []) t4.heap.objs.size code bi X.env) x [] elt (List.range t4.heap.objs.size) wr Pf pz F href (X.A.depth + 1) (X.A.units + 8)) ∧
          (∀ g0 h₅ tk gs, gs.bare = true → t4.heap.objs.size < g0 → h₅.objs.size = g0 + 1 → (∀ b o, t4.heap.get? b = some o → h₅.get? b = some o) →
            WalksS X.prog X.w X.A.in4 g0 (g0 :: t4.heap.objs.size :: List.range t4.heap.objs.size) (t4.heap.objs.size :: wr) (GenOnlyQ t4.gens.size) (passing pz n₀ 0).length
              (fun j y => ∃ i, (passing pz n₀ 0)[j]? = some i ∧ F i y) (GenAt X.prog X.w X.A.in4 g0 t4.gens.size t4.heap.objs.size (List.range t4.heap.objs.size) wr pz n₀ F) →
            GenAt X.prog X.w X.A.in4 g0 t4.gens.size t4.heap.objs.size (List.range t4.heap.objs.size) wr pz n₀ F 0 { t4 with gens := t4.gens.push gs, toks := tk, heap := h₅ } →
            Q' (.ref g0) { t4 with gens := t4.gens.push gs, toks := tk, heap := h₅ })) X.xe { t1 with heap := h3, toks := tk } := by
    intro code h3 tk ps' hx hsz hT3 hmore ht3
    obtain ⟨bm, ob, e1, e2, e3, e4, e5, e6, e7, e8⟩ := TB.bm
    have hcT : cStatics ≠ T := fun e => by
      obtain ⟨_, ⟨o', es, ep, ho, hd, _⟩, _⟩ := I1.nolimit
      rw [e, tT] at ho
      cases ho
      cases hd
    have hcl : cStatics < t1.heap.objs.size := let ⟨_, hns, _⟩ := I1.nolimit; hns.lt
    have up3 : ∀ b u, b ≠ T → t1.heap.get? b = some u → h3.get? b = some u := fun b u hb e => hx b u hb (Heap.get?_push_of_some _ e)
    have hsz' : t1.heap.objs.size + 1 ≤ h3.objs.size := by rw [← sz2]; exact hsz
    refine wpAny_builtinsFor (m := X.mg) (by rw [I1.ok.glob]; exact ((I1.mod.glob.keeps I1.bk).push o9).extBut hx TB.gP) e1 e2 (up3 _ _ e4 (I1.bk _ _ e5)) e6 e7 e8 ?_
    refine ⟨t1.heap.objs.size, [t1.heap.objs.size, a], [t1.heap.objs.size], its.toArray.size, (fun i v => its.toArray[i]? = some v), (fun i h => h.IsTupleIter t1.heap.objs.size a i ∧ h.IsTuple a its.toArray), (fun _ => true), (fun i y => y = .bool (pb i)), rfl,
      (fun A' hA => Walks.tuple hA _ _ (Nat.ne_of_lt la) _), ⟨⟨o9, ?_, by rw [ho9], by rw [ho9]; rfl⟩, ?_⟩, ?_, lim2.extBut hx hcT, ?_, ?_, ?_⟩
    · exact hx _ _ (Nat.ne_of_gt lT) (Heap.get?_push_size _ (by rw [ho9]; rfl))
    · obtain ⟨o, q1, q2, q3⟩ := htup
      exact ⟨o, up3 a o naT q1, q2, q3⟩
    · intro b hb
      have hb' : b = t1.heap.objs.size ∨ b = a := by simpa using hb
      show b < h3.objs.size
      rcases hb' with z | z
      · rw [z]; exact Nat.lt_of_lt_of_le (Nat.lt_succ_self _) hsz'
      · rw [z]; exact Nat.lt_of_lt_of_le (Nat.lt_succ_of_lt la) hsz'
    · intro z
      have z' : cStatics = t1.heap.objs.size := by simpa using z
      exact Nat.ne_of_lt hcl z'
    · intro href hhref
      have St3 := stay_but (T := T) (h1 := t1.heap) I1.mod hbT
      refine ⟨fun A' E' i v s₂ m₂ _ _ _ hPv hn hm hk => ?_, fun A' E' i v s₂ m₂ hA hD hU hPv hp hn hm hk => ?_⟩
      · simp only [List.forIn_nil]
        exact wpAny_pure ⟨rfl, keeps0 s₂ s₂.toks⟩
      · have hv : its[i]? = some v := by simpa using hPv
        have hi' : i < xs.length := by rw [rv.length]; exact (List.getElem?_eq_some_iff.mp hv).1
        obtain ⟨u, hu, ru⟩ := rv.get (List.getElem?_eq_getElem hi')
        rw [hv] at hu
        cases hu
        refine hel _ pins σ t1 (genEnv scope (cloFrom X.env.cells scope.names []) h3.objs.size code builtinsNs X.env) m₂ i _ v St3 I1 (fun h q => q) ⟨S.kind, I1.ok.glob, rfl⟩ rfl rfl (List.getElem?_eq_getElem hi') ru hm A' E' s₂ hA hD hU ?_ hn
        intro b u hb e
        have e3' := up3 b u hb e
        refine hk b (List.mem_range.mpr (Heap.lt_size e3')) (fun z => ?_) u (hhref b u e3')
        have z' : b = t1.heap.objs.size := by simpa using z
        have hlt := Heap.lt_size e
        rw [z'] at hlt
        exact Nat.lt_irrefl _ hlt
    · intro g h5 tk5 gs hgb hag hsz5 hk5 W5 hat
      simp only [GxR.passing_true, List.length_range] at W5
      have hlen : its.toArray.size = xs.length := by rw [List.size_toArray]; exact rv.length.symm
      rw [hlen] at W5 hat
      refine hQ' xs.length pb H1 g _ hQ ⟨_, _, _, _, _, W5.in4_1, hat, ?_, fun s' hm => ?_⟩
      · intro j y sj Qj Ej hy hQj
        obtain ⟨i, hij, rfl⟩ := hy
        obtain ⟨hj, ej⟩ := List.getElem?_eq_some_iff.mp hij
        rw [List.getElem_range] at ej
        subst ej
        exact wpAny_truthy_bool hQj
      · obtain ⟨more, em⟩ := hmore
        have nwr : ∀ b u, t1.heap.get? b = some u → b ∉ h3.objs.size :: [t1.heap.objs.size] := fun b u e hb => by
          have hl := Heap.lt_size e
          have hb' : b = h3.objs.size ∨ b = t1.heap.objs.size := by simpa using hb
          rcases hb' with z | z
          · rw [z] at hl; exact Nat.lt_irrefl _ (Nat.lt_of_lt_of_le hl (Nat.le_of_succ_le hsz'))
          · rw [z] at hl; exact Nat.lt_irrefl _ hl
        have J := GxR.inv_tab (more := more) (h' := s'.heap) (g' := s'.gens) (d' := s'.drawn) (t' := s'.toks) I1 hT (fun b u hb e => hm.heap b u (nwr b u e) (hk5 b u (up3 b u hb e)))
          (by rw [← em]; exact hm.heap T _ (nwr T _ tT) (hk5 T _ hT3)) (PyProof.Rows.AllBare.movedS (I1.bare.push hgb) hm)
        rw [GxR.sh_eta t1 s' hm.os] at J
        exact ⟨upd H1 T (.tbl (ps ++ more)), ⟨⟨ps ++ more, upd_same, by rw [← em]; exact ht3⟩, fun b hb => upd_ne hb⟩, J⟩
  refine ⟨lim2, ?_⟩
  cases hf : codeAmong gpos ps.toList with
  | none =>
    refine wpAny_genexprCodeX hcode (cd.code tT2 htri) (cd.tab tT2) hf fun c' h' tk hx hge hlt hco' _ htab' _ => ?_
    obtain ⟨_, _, _, _, _, _, _, _, _, _, _, _, _, _, _, _, _, _, _, htr, _⟩ := hco'
    exact run _ h' tk _ hx (Nat.le_trans hge (Nat.le_of_lt hlt)) htab'.2 ⟨_, rfl⟩ htr
  | some cv =>
    refine wpAny_genexprCode_hit hcode (cd.code tT2 htri) hf ?_
    exact run cv (t1.heap.push o9) t1.toks ps (Heap.ExtBut.refl _ _) (Nat.le_refl _) tT2 ⟨#[], by simp⟩ htri
/-- all(elt for x in e), e a tuple: behind it the def's table may have grown -/
def tAllG (X : Cx) (T : Addr) (sc : Scope) (x : Str) (elt : Expr) (te : TE) : TE := fun σ H Q => te σ H fun v H1 => ∃ (a : Addr) (xs : List V) (pb : Nat → Bool), v = .ref a ∧ SqT X.K H1 a xs ∧ GxR.TabG H1 T ∧ EltT X T sc x elt xs pb H1 ∧
  ∀ H2, GxR.Tabbed T H1 H2 → Q (.bl ((List.range xs.length).all pb)) H2
def tAnyG (X : Cx) (T : Addr) (sc : Scope) (x : Str) (elt : Expr) (te : TE) : TE := fun σ H Q => te σ H fun v H1 => ∃ (a : Addr) (xs : List V) (pb : Nat → Bool), v = .ref a ∧ SqT X.K H1 a xs ∧ GxR.TabG H1 T ∧ EltT X T sc x elt xs pb H1 ∧
  ∀ H2, GxR.Tabbed T H1 H2 → Q (.bl ((List.range xs.length).any pb)) H2
theorem pe_allG {c T : Addr} {elt iter : Expr} {x : Str} {px p pos gpos : Pos} {scope : Scope} {te : TE} {k : Nat}
    (hr : Room k X.A) (hg : Gl X "all") (hm : X.mg "all" = none) (hb : bootBuiltins "all" = some (.builtin "all")) (TB : GxR.TabB X.base X.mg c T) (hcode : X.env.code = .ref c) (S : GxR.GenS X.env scope x) (hi : PE X iter te) (hs : ∀ v, genFold iter X.env v = pure v)
    (he : starEach [.GeneratorExp elt [⟨.Name x px, iter, [], 0⟩] scope gpos] X.env = (false, eval (.GeneratorExp elt [⟨.Name x px, iter, [], 0⟩] scope gpos) X.env) :: starEach [] X.env := by rfl) :
    PE X (.Call (.Name "all" p) [.GeneratorExp elt [⟨.Name x px, iter, [], 0⟩] scope gpos] [] pos) (tAllG X T scope x elt te) := by
  refine ⟨fun pins s σ H Q I h => wpAny_Call_Name_kw (ld_blt I hg hm hb (PyProof.Rows.callWith_builtin1 ?_ he (by rfl)))⟩
  rw [he]
  show wpAny _ _ (spliced ((false, eval (.GeneratorExp elt [⟨.Name x px, iter, [], 0⟩] scope gpos) X.env) :: backTo pos (starEach [] X.env))) _ _ s
  refine Calls.spliced_cons (gen_tup (R := fun n pb H1 => ∀ H2, GxR.Tabbed T H1 H2 → Q (.bl ((List.range n).all pb)) H2) hr TB hcode S hi hs I h fun n pb H1 g s5 hR hG => ?_)
  obtain ⟨fp, wr, G, F, St, W, hst, htr, hI⟩ := hG
  refine Calls.spliced_nil (call_all_walkS (W.self 0 _ _ _ hst ⟨g, fp, wr, G, _, F, St, _, rfl, W, hst, htr, fun s' hmv => ?_⟩))
  obtain ⟨H2, hT, J⟩ := hI s' hmv
  exact ⟨.bl _, H2, J, rfl, hR H2 hT⟩
end
/-- the element's reading over zip of two tuples -/
def EltZ (X : Cx) (T : Addr) (sc : Scope) (x y : Str) (el : Expr) (xs ys : List V) (pb : Nat → Bool) (H1 : Hp) : Prop :=
  ∀ (Φ : Heap → Prop) (pins : List (Addr × Obj)) (σ : L2.St) (t1 : Shared) (cenv : Env) (m : Str → Option Value) (i : Nat) (v v2 : V) (u u2 : Value), Stay X.K X.mg Φ → Inv X pins σ H1 t1 →
    (∀ h, Φ h → ∀ b o, b ≠ T → t1.heap.get? b = some o → h.get? b = some o) → PuEnv cenv → cenv.scope = sc → cenv.cells = cloFrom X.env.cells sc.names [] → xs[i]? = some v → RelV v u → m x = some u → ys[i]? = some v2 → RelV v2 u2 → m y = some u2 →
    PuE X.prog X.w Φ cenv m (X.A.depth + 1) (X.A.units + 8) el (· = .bool (pb i))
section
variable {X : Cx} {pins : List (Addr × Obj)} {σ : L2.St} {H : Hp} {s : Shared}
theorem gen_zip {c T : Addr} {elt e e2 : Expr} {x y : Str} {pa pb' pt p zpos gpos : Pos} {kt : Nat} {scope : Scope} {ta : TA} {k : Nat} {Q' : Value → Shared → Prop} {R : Nat → (Nat → Bool) → Hp → Prop}
    (hr : Room k X.A) (TB : GxR.TabB X.base X.mg c T) (hcode : X.env.code = .ref c) (S : GxR.GenS X.env scope x) (hy : scope.names.lookup y = some .local) (hxy : x ≠ y) (hg : Gl X "zip") (hm : X.mg "zip" = none) (ha : PA X [e, e2] ta)
    (hs : ∀ v, genFold (.Call (.Name "zip" p) [e, e2] [] zpos) X.env v = pure v) (I : Inv X pins σ H s)
    (h : ta σ H fun vs H1 => ∃ (a b : Addr) (xs ys : List V) (pb : Nat → Bool), vs = [.ref a, .ref b] ∧ SqT X.K H1 a xs ∧ SqT X.K H1 b ys ∧ GxR.TabG H1 T ∧ EltZ X T scope x y elt xs ys pb H1 ∧ R (min xs.length ys.length) pb H1)
    (hQ' : ∀ n pb H1 g t5, R n pb H1 → Rdy X pins σ H1 T n pb g t5 → Q' (.ref g) t5)
    (hst : starEach [e, e2] X.env = (false, eval e X.env) :: starEach [e2] X.env := by rfl) (hpl : (backTo zpos (starEach [e2] X.env)).any (·.1) = false := by rfl) :
    wpAny (model X.prog X.w) X.A (eval (.GeneratorExp elt [⟨.Tuple [.Name x pa, .Name y pb'] kt pt, .Call (.Name "zip" p) [e, e2] [] zpos, [], 0⟩] scope gpos) X.env) Q' X.xe s := by
  refine wpAny_GeneratorExp_walksQTD hr.hd S.co (closure_ok S.free) S.cell S.dot S.loc hy hxy S.kind (by have := hr.dp; omega) ?_ hs
  refine PyProof.Rows.Call_ (ld_blt I hg hm PyProof.Rows.boot_zip (PyProof.Rows.callWith_type1 (thn (ha.run zpos pins s σ H _ I h) fun us t1 ⟨vs, H1, I1, r1, a, b, xs, ys, pb, ev, hsx, hsy, ⟨ps, hT, htri⟩, hel, hQ⟩ => ?_) hst hpl))
  subst ev
  obtain ⟨u1, u2, rfl, ra, rb⟩ := vals2 r1
  cases ra
  cases rb
  obtain ⟨its, rv, htup, hz⟩ := I1.tuple hsx
  obtain ⟨its2, rv2, htup2, hz2⟩ := I1.tuple hsy
  have tT : t1.heap.get? T = some { cls := .none, data := .fields ps } := I1.hok T _ hT
  have lT : T < t1.heap.objs.size := Heap.lt_size tT
  have la : a < t1.heap.objs.size := by obtain ⟨o, e, _⟩ := htup; exact Heap.lt_size e
  have lb : b < t1.heap.objs.size := by obtain ⟨o, e, _⟩ := htup2; exact Heap.lt_size e
  have naT : a ≠ T := fun e => by
    obtain ⟨o, e1, e2, _⟩ := htup
    rw [e, tT] at e1
    cases e1
    cases e2
  have nbT : b ≠ T := fun e => by
    obtain ⟨o, e1, e2, _⟩ := htup2
    rw [e, tT] at e1
    cases e1
    cases e2
  refine RZ.call_zipT (show t1.heap.IsTuple a its.toArray from htup) (show t1.heap.IsTuple b its2.toArray from htup2) fun h2 hz0 hTI hTO hi1 hi2 hsz2 hk2 => wpAny_pyIter_zip hz0 ?_
  have hlen : its.toArray.size = xs.length := by rw [List.size_toArray]; exact rv.length.symm
  have hlen2 : its2.toArray.size = ys.length := by rw [List.size_toArray]; exact rv2.length.symm
  have tT2 : h2.get? T = some { cls := .none, data := .fields ps } := hk2 _ _ tT
  have cd : PySem.W.CodeHd h2 c T := TB.code.keeps fun b u e => hk2 _ _ (I1.bk b u e)
  have lim2 : h2.NoLimit := I1.nolimit.keeps hk2
  have hbT : ∀ b u, X.base.get? b = some u → t1.heap.get? b = some u ∧ b ≠ T := fun b u e => ⟨I1.bk b u e, fun z => by
    have q := (I1.bs b u e).2
    rw [z, hT] at q
    cases q⟩
  have run : ∀ (code : Value) (h3 : Heap) (tk : Nat) (ps' : Array Value), Heap.ExtBut T h2 h3 → h2.objs.size ≤ h3.objs.size → h3.get? T = some { cls := .none, data := .fields ps' } → (∃ more, ps' = ps ++ more) → TriplesOk ps'.toList →
      wpAny (model X.prog X.w) X.A (builtinsFor X.env.globals X.env.builtins) (fun bi t4 =>
        ∃ Ia fp wr n₀ Pt St₀ Mid pz F, Value.ref (t1.heap.objs.size + 4) = .ref Ia ∧ (∀ A' : Around, A'.handled = none → WalksU X.prog X.w A' Ia fp wr n₀ Pt St₀ Mid) ∧ (∀ i vals, Pt i vals → ∃ va vb, vals = #[va, vb]) ∧ St₀ 0 t4.heap ∧ (∀ b ∈ fp, b < t4.heap.objs.size) ∧ t4.heap.NoLimit ∧ cStatics ∉ wr ∧
          (∀ href : Heap, (∀ b o, t4.heap.get? b = some o → href.get? b = some o) →
            QuietGenTD X.prog X.w (genEnv scope (cloFrom X.env.cells scope.names []) t4.heap.objs.size code bi X.env) x y [] elt (List.range t4.heap.objs.size) wr Pt pz F href (X.A.depth + 1) (X.A.units + 8)) ∧
          (∀ g0 h₅ tk gs, gs.bare = true → t4.heap.objs.size < g0 → h₅.objs.size = g0 + 1 → (∀ b o, t4.heap.get? b = some o → h₅.get? b = some o) →
            WalksS X.prog X.w X.A.in4 g0 (g0 :: t4.heap.objs.size :: List.range t4.heap.objs.size) (t4.heap.objs.size :: wr) (GenOnlyQ t4.gens.size) (passing pz n₀ 0).length
              (fun j y => ∃ i, (passing pz n₀ 0)[j]? = some i ∧ F i y) (GenAt X.prog X.w X.A.in4 g0 t4.gens.size t4.heap.objs.size (List.range t4.heap.objs.size) wr pz n₀ F) →
            GenAt X.prog X.w X.A.in4 g0 t4.gens.size t4.heap.objs.size (List.range t4.heap.objs.size) wr pz n₀ F 0 { t4 with gens := t4.gens.push gs, toks := tk, heap := h₅ } →
            Q' (.ref g0) { t4 with gens := t4.gens.push gs, toks := tk, heap := h₅ })) X.xe { t1 with heap := h3, toks := tk } := by
    intro code h3 tk ps' hx hsz hT3 hmore ht3
    obtain ⟨bm, ob, e1, e2, e3, e4, e5, e6, e7, e8⟩ := TB.bm
    have hcT : cStatics ≠ T := fun e => by
      obtain ⟨_, ⟨o', es, ep, ho, hd, _⟩, _⟩ := I1.nolimit
      rw [e, tT] at ho
      cases ho
      cases hd
    have hcl : cStatics < t1.heap.objs.size := let ⟨_, hns, _⟩ := I1.nolimit; hns.lt
    have up3 : ∀ b u, b ≠ T → t1.heap.get? b = some u → h3.get? b = some u := fun b u hb e => hx b u hb (hk2 _ _ e)
    have hsz' : t1.heap.objs.size + 5 ≤ h3.objs.size := by rw [← hsz2]; exact hsz
    have far : ∀ j : Nat, T ≠ t1.heap.objs.size + j := fun j z => by
      have q : (T : Nat) < t1.heap.objs.size := lT
      rw [z] at q
      exact Nat.lt_irrefl _ (Nat.lt_of_le_of_lt (Nat.le_add_right _ _) q)
    have nea : ∀ j : Nat, a ≠ t1.heap.objs.size + j := fun j z => by
      have q : (a : Nat) < t1.heap.objs.size := la
      rw [z] at q
      exact Nat.lt_irrefl _ (Nat.lt_of_le_of_lt (Nat.le_add_right _ _) q)
    have neb : ∀ j : Nat, b ≠ t1.heap.objs.size + j := fun j z => by
      have q : (b : Nat) < t1.heap.objs.size := lb
      rw [z] at q
      exact Nat.lt_irrefl _ (Nat.lt_of_le_of_lt (Nat.le_add_right _ _) q)
    have nn : ∀ i j : Nat, i ≠ j → (t1.heap.objs.size : Nat) + i ≠ t1.heap.objs.size + j := fun i j q => by omega
    have sep : ZipSep2 (t1.heap.objs.size + 4) (t1.heap.objs.size + 2) (t1.heap.objs.size + 3) t1.heap.objs.size (t1.heap.objs.size + 1) [t1.heap.objs.size, a] [t1.heap.objs.size + 1, b] := by
      have m2 : ∀ {q r t : Addr}, q ≠ r → q ≠ t → q ∉ [r, t] := fun {q r t} z1 z2 z => by
        have z' : q = r ∨ q = t := by simpa using z
        rcases z' with z' | z'
        · exact z1 z'
        · exact z2 z'
      exact ⟨nn 2 4 (by decide), nn 3 4 (by decide), nn 2 3 (by decide), nn 2 0 (by decide), List.mem_cons_self, m2 (nn 4 0 (by decide)) (nea 4).symm, m2 (nn 3 0 (by decide)) (nea 3).symm, nn 2 1 (by decide), List.mem_cons_self, m2 (nn 4 1 (by decide)) (neb 4).symm, m2 (nn 3 1 (by decide)) (neb 3).symm,
        m2 (nn 0 1 (by decide)) (neb 0).symm, m2 (nn 1 0 (by decide)) (nea 1).symm⟩
    refine wpAny_builtinsFor (m := X.mg) (by rw [I1.ok.glob]; exact (I1.mod.glob.keeps fun b u e => hk2 _ _ (I1.bk b u e)).extBut hx TB.gP) e1 e2 (up3 _ _ e4 (I1.bk _ _ e5)) e6 e7 e8 ?_
    refine ⟨t1.heap.objs.size + 4, _, _, _, _, _, _, (fun _ => true), (fun i y => y = .bool (pb i)), rfl,
      (fun A' hA => (WalksT.zipD2 sep (Draws.tuple (A := A'.in1) hA _ _ (nea 0) its.toArray) (Draws.tuple (A := A'.in1) hA _ _ (neb 1) its2.toArray)).toU), ?_, ⟨?_, ?_, ⟨.none, .none, ?_⟩, ⟨?_, ?_⟩, ⟨?_, ?_⟩⟩, ?_, lim2.extBut hx hcT, ?_, ?_, ?_⟩
    · rintro i vals ⟨x1, x2, _, _, rfl⟩
      exact ⟨x1, x2, rfl⟩
    · exact hx _ _ (far 4).symm hz0
    · exact hx _ _ (far 2).symm hTI
    · exact hx _ _ (far 3).symm hTO
    · exact hi1.at fun o q => hx _ _ (far 0).symm q
    · obtain ⟨o, q1, q2, q3⟩ := htup
      exact ⟨o, up3 a o naT q1, q2, q3⟩
    · exact hi2.at fun o q => hx _ _ (far 1).symm q
    · obtain ⟨o, q1, q2, q3⟩ := htup2
      exact ⟨o, up3 b o nbT q1, q2, q3⟩
    · intro q hq
      have hq' : q = t1.heap.objs.size + 4 ∨ q = t1.heap.objs.size + 2 ∨ q = t1.heap.objs.size + 3 ∨ q = t1.heap.objs.size ∨ q = a ∨ q = t1.heap.objs.size + 1 ∨ q = b := by simpa using hq
      have ok : ∀ j : Nat, j < 5 → (t1.heap.objs.size : Nat) + j < h3.objs.size := fun j hj => Nat.lt_of_lt_of_le (Nat.add_lt_add_left hj _) hsz'
      show (q : Nat) < h3.objs.size
      rcases hq' with z | z | z | z | z | z | z
      · rw [z]; exact ok 4 (by decide)
      · rw [z]; exact ok 2 (by decide)
      · rw [z]; exact ok 3 (by decide)
      · rw [z]; exact ok 0 (by decide)
      · rw [z]; exact Nat.lt_trans la (ok 0 (by decide))
      · rw [z]; exact ok 1 (by decide)
      · rw [z]; exact Nat.lt_trans lb (ok 0 (by decide))
    · intro z
      have z' : cStatics = t1.heap.objs.size + 4 ∨ cStatics = t1.heap.objs.size + 3 ∨ cStatics = t1.heap.objs.size ∨ cStatics = t1.heap.objs.size + 1 := by simpa using z
      have no : ∀ j : Nat, cStatics ≠ t1.heap.objs.size + j := fun j z => by
        have q : (cStatics : Nat) < t1.heap.objs.size := hcl
        rw [z] at q
        exact Nat.lt_irrefl _ (Nat.lt_of_le_of_lt (Nat.le_add_right _ _) q)
      rcases z' with z' | z' | z' | z'
      · exact no 4 z'
      · exact no 3 z'
      · exact no 0 z'
      · exact no 1 z'
    · intro href hhref
      have St3 := stay_but (T := T) (h1 := t1.heap) I1.mod hbT
      refine ⟨fun A' E' i va vb s₂ m₂ _ _ _ hPv hn hma hmb hk => ?_, fun A' E' i va vb s₂ m₂ hA hD hU hPv hp hn hma hmb hk => ?_⟩
      · simp only [List.forIn_nil]
        exact wpAny_pure ⟨rfl, keeps0 s₂ s₂.toks⟩
      · obtain ⟨x1, x2, hx1, hx2, exy⟩ := hPv
        have ev : va = x1 ∧ vb = x2 := by
          have q := congrArg Array.toList exy
          simpa using q
        obtain ⟨rfl, rfl⟩ := ev
        have hv : its[i]? = some va := by simpa using hx1
        have hv2 : its2[i]? = some vb := by simpa using hx2
        have hi' : i < xs.length := by rw [rv.length]; exact (List.getElem?_eq_some_iff.mp hv).1
        have hi2' : i < ys.length := by rw [rv2.length]; exact (List.getElem?_eq_some_iff.mp hv2).1
        obtain ⟨u, hu, ru⟩ := rv.get (List.getElem?_eq_getElem hi')
        obtain ⟨u', hu', ru'⟩ := rv2.get (List.getElem?_eq_getElem hi2')
        rw [hv] at hu
        rw [hv2] at hu'
        cases hu
        cases hu'
        refine hel _ pins σ t1 (genEnv scope (cloFrom X.env.cells scope.names []) h3.objs.size code builtinsNs X.env) m₂ i _ _ va vb St3 I1 (fun h q => q) ⟨S.kind, I1.ok.glob, rfl⟩ rfl rfl (List.getElem?_eq_getElem hi') ru hma (List.getElem?_eq_getElem hi2') ru' hmb A' E' s₂ hA hD hU ?_ hn
        intro q u hb e
        have e3' := up3 q u hb e
        refine hk q (List.mem_range.mpr (Heap.lt_size e3')) (fun z => ?_) u (hhref q u e3')
        have z' : q = t1.heap.objs.size + 4 ∨ q = t1.heap.objs.size + 3 ∨ q = t1.heap.objs.size ∨ q = t1.heap.objs.size + 1 := by simpa using z
        have hlt : (q : Nat) < t1.heap.objs.size := Heap.lt_size e
        have no : ∀ j : Nat, q ≠ t1.heap.objs.size + j := fun j z => by
          rw [z] at hlt
          exact Nat.lt_irrefl _ (Nat.lt_of_le_of_lt (Nat.le_add_right _ _) hlt)
        rcases z' with z' | z' | z' | z'
        · exact no 4 z'
        · exact no 3 z'
        · exact no 0 z'
        · exact no 1 z'
    · intro g h5 tk5 gs hgb hag hsz5 hk5 W5 hat
      simp only [GxR.passing_true, List.length_range] at W5
      rw [hlen, hlen2] at W5 hat
      refine hQ' (min xs.length ys.length) pb H1 g _ hQ ⟨_, _, _, _, _, W5.in4_1, hat, ?_, fun s' hm => ?_⟩
      · intro j y sj Qj Ej hy hQj
        obtain ⟨i, hij, rfl⟩ := hy
        obtain ⟨hj, ej⟩ := List.getElem?_eq_some_iff.mp hij
        rw [List.getElem_range] at ej
        subst ej
        exact wpAny_truthy_bool hQj
      · obtain ⟨more, em⟩ := hmore
        have nwr : ∀ b u, t1.heap.get? b = some u → b ∉ h3.objs.size :: [t1.heap.objs.size + 4, t1.heap.objs.size + 3, t1.heap.objs.size, t1.heap.objs.size + 1] := fun b u e hb => by
          have hl : (b : Nat) < t1.heap.objs.size := Heap.lt_size e
          have hb' : b = h3.objs.size ∨ b = t1.heap.objs.size + 4 ∨ b = t1.heap.objs.size + 3 ∨ b = t1.heap.objs.size ∨ b = t1.heap.objs.size + 1 := by simpa using hb
          have no : ∀ j : Nat, b ≠ t1.heap.objs.size + j := fun j z => by
            rw [z] at hl
            exact Nat.lt_irrefl _ (Nat.lt_of_le_of_lt (Nat.le_add_right _ _) hl)
          rcases hb' with z | z | z | z | z
          · rw [z] at hl
            exact Nat.lt_irrefl _ (Nat.lt_of_lt_of_le hl (Nat.le_trans (Nat.le_add_right _ 5) hsz'))
          · exact no 4 z
          · exact no 3 z
          · exact no 0 z
          · exact no 1 z
        have J := GxR.inv_tab (more := more) (h' := s'.heap) (g' := s'.gens) (d' := s'.drawn) (t' := s'.toks) I1 hT (fun b u hb e => hm.heap b u (nwr b u e) (hk5 b u (up3 b u hb e)))
          (by rw [← em]; exact hm.heap T _ (nwr T _ tT) (hk5 T _ hT3)) (PyProof.Rows.AllBare.movedS (I1.bare.push hgb) hm)
        rw [GxR.sh_eta t1 s' hm.os] at J
        exact ⟨upd H1 T (.tbl (ps ++ more)), ⟨⟨ps ++ more, upd_same, by rw [← em]; exact ht3⟩, fun b hb => upd_ne hb⟩, J⟩
  refine ⟨lim2, ?_⟩
  cases hf : codeAmong gpos ps.toList with
  | none =>
    refine wpAny_genexprCodeX hcode (cd.code tT2 htri) (cd.tab tT2) hf fun c' h' tk hx hge hlt hco' _ htab' _ => ?_
    obtain ⟨_, _, _, _, _, _, _, _, _, _, _, _, _, _, _, _, _, _, _, htr, _⟩ := hco'
    exact run _ h' tk _ hx (Nat.le_trans hge (Nat.le_of_lt hlt)) htab'.2 ⟨_, rfl⟩ htr
  | some cv =>
    refine wpAny_genexprCode_hit hcode (cd.code tT2 htri) hf ?_
    exact run cv h2 t1.toks ps (Heap.ExtBut.refl _ _) (Nat.le_refl _) tT2 ⟨#[], by simp⟩ htri
def tAnyZ (X : Cx) (T : Addr) (sc : Scope) (x y : Str) (elt : Expr) (ta : TA) : TE := fun σ H Q => ta σ H fun vs H1 => ∃ (a b : Addr) (xs ys : List V) (pb : Nat → Bool), vs = [.ref a, .ref b] ∧ SqT X.K H1 a xs ∧ SqT X.K H1 b ys ∧ GxR.TabG H1 T ∧ EltZ X T sc x y elt xs ys pb H1 ∧
  ∀ H2, GxR.Tabbed T H1 H2 → Q (.bl ((List.range (min xs.length ys.length)).any pb)) H2
theorem pe_anyZ {c T : Addr} {elt e e2 : Expr} {x y : Str} {pa pb' pt p p' pos zpos gpos : Pos} {kt : Nat} {scope : Scope} {ta : TA} {k : Nat}
    (hr : Room k X.A) (hg : Gl X "any") (hm : X.mg "any" = none) (TB : GxR.TabB X.base X.mg c T) (hcode : X.env.code = .ref c) (S : GxR.GenS X.env scope x) (hy : scope.names.lookup y = some .local) (hxy : x ≠ y) (hgz : Gl X "zip") (hmz : X.mg "zip" = none) (ha : PA X [e, e2] ta)
    (hs : ∀ v, genFold (.Call (.Name "zip" p) [e, e2] [] zpos) X.env v = pure v)
    (hst : starEach [e, e2] X.env = (false, eval e X.env) :: starEach [e2] X.env := by rfl) (hpl : (backTo zpos (starEach [e2] X.env)).any (·.1) = false := by rfl)
    (he : starEach [.GeneratorExp elt [⟨.Tuple [.Name x pa, .Name y pb'] kt pt, .Call (.Name "zip" p) [e, e2] [] zpos, [], 0⟩] scope gpos] X.env = (false, eval (.GeneratorExp elt [⟨.Tuple [.Name x pa, .Name y pb'] kt pt, .Call (.Name "zip" p) [e, e2] [] zpos, [], 0⟩] scope gpos) X.env) :: starEach [] X.env := by rfl) :
    PE X (.Call (.Name "any" p') [.GeneratorExp elt [⟨.Tuple [.Name x pa, .Name y pb'] kt pt, .Call (.Name "zip" p) [e, e2] [] zpos, [], 0⟩] scope gpos] [] pos) (tAnyZ X T scope x y elt ta) := by
  refine ⟨fun pins s σ H Q I h => wpAny_Call_Name_kw (ld_blt I hg hm PyProof.Rows.boot_any (PyProof.Rows.callWith_builtin1 ?_ he (by rfl)))⟩
  rw [he]
  show wpAny _ _ (spliced ((false, eval (.GeneratorExp elt [⟨.Tuple [.Name x pa, .Name y pb'] kt pt, .Call (.Name "zip" p) [e, e2] [] zpos, [], 0⟩] scope gpos) X.env) :: backTo pos (starEach [] X.env))) _ _ s
  refine Calls.spliced_cons (gen_zip (R := fun n pb H1 => ∀ H2, GxR.Tabbed T H1 H2 → Q (.bl ((List.range n).any pb)) H2) hr TB hcode S hy hxy hgz hmz ha hs I h (fun n pb H1 g s5 hR hG => ?_) hst hpl)
  obtain ⟨fp, wr, G, F, St, W, hst, htr, hI⟩ := hG
  refine Calls.spliced_nil (call_any_walkS (W.self 0 _ _ _ hst ⟨g, fp, wr, G, _, F, St, _, rfl, W, hst, htr, fun s' hmv => ?_⟩))
  obtain ⟨H2, hT, J⟩ := hI s' hmv
  exact ⟨.bl _, H2, J, rfl, hR H2 hT⟩
end

/-! ### tuples: sum(t), t * 1, t[::-1] -/
section
variable {X : Cx}
/-- sum(t), t a tuple or a list of ints -/
def rSumS (K : PySem.W.Frag) : List V → Hp → VK → Prop := fun vs H Q => ∃ (a : Addr) (ns : List Int), vs = [V.ref a] ∧ (SqL K H a (ns.map V.int) ∨ SqT K H a (ns.map V.int)) ∧ Q (.int ns.sum) H
theorem cr_sumS (hc : X.calm = true) : CallR X (.builtin "sum") (rSumS X.K) := by
  intro pins s σ H vs us Q I r h
  obtain ⟨a, ns, rfl, hs, q⟩ := h
  rcases hs with hs | hs
  · exact cr_sum hc pins s σ H [.ref a] us Q I r ⟨a, ns, rfl, hs, q⟩
  · obtain ⟨its, rv, hl, _⟩ := I.tuple hs
    rw [Vals.ref1 r]
    have hi := intsAre_of rv
    obtain ⟨xs, e⟩ := hi.allInts.items
    have hn : numsOf (intItems xs).toList = ns := by rw [← e]; exact hi.numsOf
    rw [nums_intItems] at hn
    have hl' : s.heap.IsTuple a (intItems xs) := by rw [← e]; exact hl
    refine PySem.W.ktm_sumG (I.ok.hd hc) hl' fun h' tk t' hk => ⟨.int ns.sum, H, I.kept hk, ?_, q⟩
    rw [preSum_eq, List.take_of_length_le (by simp), hn]
    exact ⟨t', rfl⟩
theorem adjust_rev (n : Nat) : Builtin.Slice.sliceAdjust none none (-1) (n : Int) = ((n : Int) - 1, -1) := rfl
theorem places_rev (n : Nat) : Builtin.Slice.slicePlaces ((n : Int) - 1) (-1) (-1) = n := by
  unfold Builtin.Slice.slicePlaces
  rw [if_neg (by omega)]
  split
  · have e : ((n : Int) - 1 - -1 - 1) / (- -1) = (n : Int) - 1 := by
      rw [show (- -1 : Int) = 1 from rfl, Int.ediv_one]; omega
    rw [e]; omega
  · omega
theorem pick_revL : ∀ (l : List Value), ((List.range l.length).filterMap fun (k : Nat) => l[l.length - 1 - k]?) = l.reverse
  | [] => rfl
  | v :: l => by
    have e : ((List.range l.length).filterMap fun (k : Nat) => (v :: l)[l.length - k]?) = (List.range l.length).filterMap fun (k : Nat) => l[l.length - 1 - k]? := by
      have go : ∀ (m : List Nat), (∀ k ∈ m, k < l.length) → (m.filterMap fun (k : Nat) => (v :: l)[l.length - k]?) = m.filterMap fun (k : Nat) => l[l.length - 1 - k]? := by
        intro m
        induction m with
        | nil => intro _; rfl
        | cons k m ih =>
          intro hm
          have hk := hm k (by simp)
          have e3 : (v :: l)[l.length - k]? = l[l.length - 1 - k]? := by
            rw [show l.length - k = (l.length - 1 - k) + 1 by omega, List.getElem?_cons_succ]
          rw [List.filterMap_cons, List.filterMap_cons, e3, ih fun q hq => hm q (by simp [hq])]
      exact go _ fun k hk => List.mem_range.mp hk
    have e0 : ((List.range (v :: l).length).filterMap fun (k : Nat) => (v :: l)[(v :: l).length - 1 - k]?) = ((List.range (l.length + 1)).filterMap fun (k : Nat) => (v :: l)[l.length - k]?) := rfl
    rw [e0, List.range_succ, List.filterMap_append, e, pick_revL l]
    simp
theorem pick_rev (xs : Array Value) : ((List.range xs.size).filterMap fun (k : Nat) => xs[((xs.size : Int) - 1 + (k : Int) * -1).toNat]?).toArray = xs.toList.reverse.toArray := by
  have e : (fun (k : Nat) => xs[((xs.size : Int) - 1 + (k : Int) * -1).toNat]?) = fun (k : Nat) => if (k : Int) ≤ (xs.size : Int) - 1 then xs.toList[xs.toList.length - 1 - k]? else xs[0]? := by
    funext k
    by_cases hk : (k : Int) ≤ (xs.size : Int) - 1
    · rw [if_pos hk, Array.getElem?_toList, Array.length_toList]
      congr 1
      omega
    · rw [if_neg hk]
      congr 1
      omega
  rw [e]
  have go : ∀ (m : List Nat), (∀ k ∈ m, k < xs.size) → (m.filterMap fun (k : Nat) => if (k : Int) ≤ (xs.size : Int) - 1 then xs.toList[xs.toList.length - 1 - k]? else xs[0]?) = m.filterMap fun (k : Nat) => xs.toList[xs.toList.length - 1 - k]? := by
    intro m
    induction m with
    | nil => intro _; rfl
    | cons k m ih =>
      intro hm
      have hk := hm k (by simp)
      rw [List.filterMap_cons, List.filterMap_cons, if_pos (by omega), ih fun q hq => hm q (by simp [hq])]
  rw [go _ fun k hk => List.mem_range.mp hk]
  have := pick_revL xs.toList
  rw [Array.length_toList] at this ⊢
  rw [this]
def tRevT (K : PySem.W.Frag) (te : TE) : TE := fun σ H Q => te σ H fun x H1 => ∃ a xs, x = .ref a ∧ SqT K H1 a xs ∧ ∀ p, H1 p = none → Q (.ref p) (upd H1 p (.tup xs.reverse))
theorem pe_revT {e : Expr} {te : TE} {j : Nat} {p1 p2 p3 pos : Pos} (he : PE X e te) : PE X (.Subscript e (.Slice none none (some (.UnaryOp .USub (.Constant (.int 1) j p1) p2)) p3) pos) (tRevT X.K te) := by
  refine ⟨fun pins s σ H Q I h => ?_⟩
  refine PyProof.Rows.Subscript_ (thn (he.run pins s σ H _ I h) fun v s1 ⟨x, H1, I1, r1, a, xs, ex, hs, q⟩ => ?_)
  subst ex
  cases r1
  obtain ⟨its, rv, htup, hz⟩ := I1.tuple hs
  refine wpAny_Slice ?_
  rw [evalPart_none, evalPart_some]
  refine wpAny_pure (wpAny_pure ?_)
  refine thn ((pe_un (X := X) (pos := p2) un_neg (pe_int (X := X) (i := 1) (j := j) (pos := p1))).run pins s1 σ H1 (fun y H2 => y = .int (-1) ∧ H2 = H1) I1 ⟨1, rfl, rfl, rfl⟩) fun st s2 ⟨y, H2, I2, r2, ey, eH⟩ => ?_
  subst ey eH
  obtain ⟨t, rfl⟩ := r2
  obtain ⟨its', rv', htup', _⟩ := I2.tuple hs
  have hlen' : its'.toArray.size = xs.length := by rw [List.size_toArray]; exact rv'.length.symm
  obtain ⟨o7, ho7⟩ : ∃ o7 : Obj, o7 = { cls := .type "slice", data := .fields #[.none, .none, .int (-1) t] } := ⟨_, rfl⟩
  have I4 : Inv X pins σ H2 { s2 with heap := s2.heap.push o7 } := I2.kept (t' := s2.toks) fun b ob q => Heap.get?_push_of_some _ q
  have hs7 : (s2.heap.push o7).IsSliceOf s2.heap.objs.size .none .none (.int (-1) t) := by rw [ho7]; exact Heap.IsSliceOf.new ..
  have ht7 : PyProof.Rows.IsTup (s2.heap.push o7) a its'.toArray := htup'.push _
  rw [← ho7]
  refine PyProof.Rows.tail_any (ops := [.ref a, .ref s2.heap.objs.size]) (T := "tuple") (s := { s2 with heap := s2.heap.push o7 }) ht7.typeIs PyProof.Rows.slot_tuple_getitem.lookup ?_ (by with_unfolding_all rfl)
  have hTs : ({ s2 with heap := s2.heap.push o7 } : Shared).TypeIs (.ref s2.heap.objs.size) "slice" := by obtain ⟨o, e1, e2, _⟩ := hs7; exact ⟨o, e1, e2⟩
  obtain ⟨oo, ho1, ho2, ho3⟩ := id hs7
  unfold getItem
  try with_reducible refine wpAny_holding ?_
  first | refine wpAny_bind (wpAny_pure ?_) | skip
  refine wpAny_bind (wpAny_sequenceKey ht7.typeIs (by decide) (wpAny_bind (wpAny_callSpecial?_slot (name := Str.ofString "__getitem__") ht7.typeIs PyProof.Rows.slot_tuple_getitem (wpAny_call_entry PyProof.Rows.slot_tuple_getitem ht7.typeIs PyProof.Rows.entry_tuple_getitem ?_ (PyProof.Rows.args_tuple_getitem _ _)))))
  show wpAny _ _ (Builtin.Tuple.tupleItemsOf (.ref a) >>= _) _ _ _
  refine wpAny_bind (PyProof.Rows.tupleItemsOf_ ht7 (wpAny_bind (wpAny_typeOf hTs ?_)))
  rw [if_pos (by decide)]
  refine wpAny_bind (m := Builtin.Slice.sliceApplied _ _) ?_
  unfold Builtin.Slice.sliceApplied Builtin.Slice.sliceFields
  refine wpAny_bind (wpAny_bind (wpAny_field ho1 ho3 (x := .none) rfl (wpAny_bind (wpAny_field ho1 ho3 (x := .none) rfl (wpAny_bind (wpAny_field ho1 ho3 (x := .int (-1) t) rfl (wpAny_pure ?_)))))))
  refine wpAny_bind (PyProof.Rows.slicePart_int ?_)
  show wpAny _ _ (if ((-1 : Int) == 0) = true then _ else _) _ _ _
  rw [if_neg (by decide)]
  refine wpAny_bind (PyProof.Rows.slicePart_none (wpAny_bind (PyProof.Rows.slicePart_none (wpAny_bind (wpAny_pure ?_)))))
  show wpAny _ _ (pure ((its'.toArray.size : Int) - 1, (-1 : Int), Builtin.Slice.slicePlaces ((its'.toArray.size : Int) - 1) (-1) (-1))) _ _ _
  rw [places_rev]
  refine wpAny_pure ?_
  have hno : ¬ ((((its'.toArray.size : Int) - 1 == 0 && (-1 : Int) == 1 && its'.toArray.size == its'.toArray.size)) = true) := by
    intro z
    rw [Bool.and_eq_true, Bool.and_eq_true] at z
    exact absurd z.1.2 (by decide)
  show wpAny _ _ (if ((its'.toArray.size : Int) - 1 == 0 && (-1 : Int) == 1 && its'.toArray.size == its'.toArray.size) = true then _ else _) _ _ _
  rw [if_neg hno, pick_rev]
  have hsz : sizeOk (.seq its'.toArray.toList.reverse.toArray) := by
    show its'.toArray.toList.reverse.toArray.size ≤ sizeLine
    rw [List.size_toArray, List.length_reverse, Array.length_toList, hlen']
    exact hz
  have fin : EP X pins σ Q (.ref (s2.heap.push o7).objs.size) { s2 with heap := (s2.heap.push o7).push { cls := .type "tuple", data := .seq its'.toArray.toList.reverse.toArray } } := by
    have hf : H2 (s2.heap.push o7).objs.size = none := I4.hok.fresh (Nat.le_refl _)
    refine ⟨.ref _, _, I4.laid (t' := s2.toks) (o := .tup xs.reverse) (fun b ob z => Heap.get?_push_of_some _ z) (Nat.le_refl _) ?_, rfl, q _ hf⟩
    exact ⟨by rw [List.length_reverse]; exact hz, its'.reverse, rv'.reverse, ⟨_, Heap.get?_push_size _ rfl, rfl, 0, rfl⟩⟩
  first
    | exact wpAny_bind (m := Builtin.Tuple.tupleExact _) (wpAny_newObj_type (wpAny_pure ⟨_, rfl, wpAny_pure fin⟩) hsz)
    | exact wpAny_bind (m := Builtin.Tuple.tupleExact _) (wpAny_newObj_type (wpAny_bind (wpAny_pure (wpAny_pure ⟨_, rfl, wpAny_pure fin⟩))) hsz)
    | exact wpAny_bind (wpAny_bind (m := Builtin.Tuple.tupleExact _) (wpAny_newObj_type (wpAny_pure (wpAny_pure ⟨_, rfl, wpAny_pure fin⟩)) hsz))
    | exact wpAny_bind (wpAny_bind (m := Builtin.Tuple.tupleExact _) (wpAny_newObj_type (wpAny_pure ⟨_, rfl, wpAny_pure fin⟩) hsz))
end

section
open PyProof.Rows
theorem tup_mul_one (l : Addr) (items : Array Value) (n : Nat) (dd : Option Addr) (sl : Array (Option Value)) (u : Tok) :
    Meets (Builtin.«tuple.__mul__» ⟨[.ref l, .int 1 u], []⟩) (fun _ R s => s.heap.get? l = some { cls := .type "tuple", dict := dd, data := .seq items n, slots := sl } ∧ R (.ok (.ret (.ref l))) s) :=
  .of_wp fun prog w A R s h => by
    obtain ⟨hp, g, d, tk, os⟩ := s
    obtain ⟨hl, h⟩ := h
    have f1 := AutoSeq1.idx_int
    wp_walk using PySem.AutoSeq1.wpAny_loadPart' hl
    try (refine wpAny_ite_false (decide_eq_false (by decide)) ?_; wp_walk using PySem.AutoSeq1.wpAny_loadPart' hl)
    repeat (first
      | exact ⟨_, rfl, h⟩
      | (refine wpAny_ite_true (decide_eq_true (by simp)) ?_; wp_walk using PySem.AutoSeq1.wpAny_loadPart' hl)
      | (refine wpAny_ite_true (by simp) ?_; wp_walk using PySem.AutoSeq1.wpAny_loadPart' hl))
/-- t * 1 is t itself -/
def rRep1 (K : PySem.W.Frag) : R2 := fun x y H Q => ∃ l xs, x = .ref l ∧ y = .int 1 ∧ SqT K H l xs ∧ Q (.ref l) H
theorem op_rep1 {X : Cx} : OpR X (binaryOp .Mult) (rRep1 X.K) := by
  intro pins s σ H x y v u Q I rx ry h
  obtain ⟨l, xs, rfl, rfl, hT, q⟩ := h
  cases rx
  obtain ⟨t, rfl⟩ := ry
  obtain ⟨its, r, ⟨⟨cls, dd, data, sl⟩, ho, hc, n, hd⟩, hs⟩ := I.tuple hT
  simp only at hc hd
  subst hc hd
  exact wpAny_binaryOp_repeat_ref (T := "tuple") (U := "int") (by decide) ⟨_, ho, rfl⟩ (fun s' => typeIs_int s' 1 t) noFill_tuple_mul F.fills_int_mul F.slot_int_rmul repeat_tuple F.slot_int_index.lookup
    (call_meets F.slot_int_rmul (typeIs_int s 1 t) F.entry_int_rmul (F.args_int_rmul_2 _ _) (int_rmul_tuple 1 t l its.toArray n dd sl)
      ⟨ho, rfl, ⟨_, ho, rfl⟩, call_meets F.slot_tuple_mul ⟨_, ho, rfl⟩ F.entry_tuple_mul (F.args_tuple_mul_2 _ _) (tup_mul_one l its.toArray n dd sl t) ⟨ho, .ref l, H, I, rfl, q⟩⟩)
def rRepA (K : PySem.W.Frag) : R2 := fun x y H Q => rRepT K x y H Q ∨ rRep1 K x y H Q
theorem op_repA {X : Cx} : OpR X (binaryOp .Mult) (rRepA X.K) := OpR.or op_repT op_rep1
end

/-! ### order of nested data; sorted of it -/
section
open PySem.W
variable {X : Cx}
theorem ix_any : IxR X (fun x y H Q => rIxL X.K x y H Q ∨ rIxT X.K x y H Q) := IxR.or ix_list ix_tup
/-- the one before the other, as nested data -/
def rLtD (K : PySem.W.Frag) : R2 := fun x y H Q => ∃ d e, Dp K H x d ∧ Dp K H y e ∧ alike d e = true ∧ d ≠ .none ∧ d.depth ≤ 32 ∧ Q (.bl (dataLt d e)) H
def rGtD (K : PySem.W.Frag) : R2 := fun x y H Q => ∃ d e, Dp K H x d ∧ Dp K H y e ∧ alike d e = true ∧ d ≠ .none ∧ d.depth ≤ 32 ∧ Q (.bl (dataLt e d)) H
theorem op_ltD (hu : X.A.units + 64 < cLine) : OpR X (compareOp .Lt) (rLtD X.K) := by
  intro pins s σ H x y v u Q I rx ry ⟨d, e, hd, he, al, nn, dp, q⟩
  obtain ⟨as, r1⟩ := Dp.reads I d x v hd rx
  obtain ⟨bs, r2⟩ := Dp.reads I e y u he ry
  exact lt_data r1 r2 al nn (by omega) ⟨.bl _, H, I, rfl, q⟩
theorem op_gtD (hu : X.A.units + 64 < cLine) : OpR X (compareOp .Gt) (rGtD X.K) := by
  intro pins s σ H x y v u Q I rx ry ⟨d, e, hd, he, al, nn, dp, q⟩
  obtain ⟨as, r1⟩ := Dp.reads I d x v hd rx
  obtain ⟨bs, r2⟩ := Dp.reads I e y u he ry
  exact gt_data r1 r2 al nn (by omega) ⟨.bl _, H, I, rfl, q⟩
theorem each_of {β : Type} {g : β → V} : ∀ {bs : List β} {its : List Value}, Vals (bs.map g) its → EachIs (fun v b => RelV (g b) v) its bs
  | [], _, h => by cases h; exact .nil
  | _ :: _, _, h => by
    cases h with
    | cons r t => exact .cons r (each_of t)
theorem vals_of_each {β : Type} {g : β → V} : ∀ {bs : List β} {its : List Value}, EachIs (fun v b => RelV (g b) v) its bs → Vals (bs.map g) its
  | _, _, .nil => .nil
  | _, _, .cons r t => .cons r (vals_of_each t)
theorem each_and {α β : Type} {R S : α → β → Prop} : ∀ {as : List α} {bs : List β}, EachIs R as bs → (∀ a b, b ∈ bs → R a b → S a b) → EachIs S as bs
  | _, _, .nil, _ => .nil
  | _, _, .cons r t, h => .cons (h _ _ List.mem_cons_self r) (each_and t fun a b hb => h a b (List.mem_cons_of_mem _ hb))
/-- sorted(xs) of nested data, in order: the pairs are the items and what they read as -/
def rSortedD (K : PySem.W.Frag) : List V → Hp → VK → Prop := fun vs H Q => ∃ (a : Addr) (bs : List (V × PyData)), vs = [.ref a] ∧ SqL K H a (bs.map (·.1)) ∧ (∀ b ∈ bs, Dp K H b.1 b.2) ∧ AllAlike (bs.map (·.2)) ∧ Sortable (bs.map (·.2)) ∧ (∀ b ∈ bs, b.2.depth ≤ 32) ∧
  ∀ p, H p = none → Q (.ref p) (upd H p (.lst ((bs.mergeSort (dataLe false (·.2))).map (·.1))))
theorem cr_sortedD (hu : X.A.units + 64 < cLine) : CallR X (.builtin "sorted") (rSortedD X.K) := by
  intro pins s σ H vs us Q I r ⟨a, bs, ev, hs, hd, al, so, dp, q⟩
  subst ev
  obtain ⟨its, rv, hl, hz⟩ := I.list hs
  rw [Vals.ref1 r]
  have e := each_of (g := fun b : V × PyData => b.1) rv
  have hzb : bs.length ≤ sizeLine := by rw [List.length_map] at hz; exact hz
  refine sorted_data (R := fun v (b : V × PyData) => RelV b.1 v) (enc := fun b => b.2) hl.isList e (each_and e fun v b hb rr => Dp.reads I b.2 b.1 v (hd b hb) rr) al so hzb (fun b hb => by have := dp b hb; omega) fun out hol ho => ?_
  obtain ⟨ep, hat⟩ := PyProof.Rows.sortedAll_at s.heap its (List.toArray out)
  have hlen : ((bs.mergeSort (dataLe false (·.2))).map (·.1)).length ≤ sizeLine := by rw [List.length_map, (List.mergeSort_perm _ _).length_eq]; exact hzb
  exact ⟨.ref _, _, I.laid (t' := s.toks) (o := .lst ((bs.mergeSort (dataLe false (·.2))).map (·.1))) (fun _ _ => PyProof.Rows.sortedAll_old) (Nat.le_succ _) ⟨hlen, out, ep, vals_of_each ho, hat⟩, rfl, q _ (I.hok.fresh (Nat.le_succ _))⟩
theorem stay_all {K : PySem.W.Frag} {mg : Str → Option Value} {base : Heap} {h1 : Heap} (M : Mod K mg base) (hb : ∀ b o, base.get? b = some o → h1.get? b = some o) : Stay K mg fun h => Kp h1 h := by
  have up : ∀ h : Heap, Kp h1 h → ∀ b o, base.get? b = some o → h.get? b = some o := fun h q b o e => q b o (hb b o e)
  refine ⟨fun h h' q k b o e => k b o (q b o e), fun h q => M.kin.keeps (up h q), fun h q => M.glob.keeps (up h q), fun h q => ?_, fun h q => M.nolimit.keeps (up h q)⟩
  obtain ⟨mb, e1, e2⟩ := M.blt
  exact ⟨mb, e1.keeps (up h q), e2⟩
theorem alike_ints {β : Type} (g : β → Int) (bs : List β) : AllAlike (bs.map fun b => PyData.int (g b)) := by
  intro d hd d' hd'
  obtain ⟨b, _, rfl⟩ := List.mem_map.mp hd
  obtain ⟨b', _, rfl⟩ := List.mem_map.mp hd'
  rfl
theorem sortable_ints {β : Type} (g : β → Int) (bs : List β) : Sortable (bs.map fun b => PyData.int (g b)) := by
  refine .inr fun d hd => ?_
  obtain ⟨b, _, rfl⟩ := List.mem_map.mp hd
  exact ⟨(fun z => nomatch z), (fun _ z => nomatch z)⟩
end

/-! ### zip of a tuple and a list; a method that sums products over it, read plainly -/
section
open PyProof.Rows
abbrev zmH1 (h : Heap) (l1 : Addr) : Heap := h.push { cls := .type "tuple_iterator", data := .fields #[.ref l1, .int 0 0] }
abbrev zmH2 (h : Heap) (l1 l2 : Addr) : Heap := (zmH1 h l1).push { cls := .type "list_iterator", data := .fields #[.ref l2, .int 0 0] }
abbrev zmH3 (h : Heap) (l1 l2 : Addr) : Heap := (zmH2 h l1 l2).push { cls := .type "tuple", data := .seq #[.ref h.objs.size, .ref (zmH1 h l1).objs.size] }
abbrev zmH4 (h : Heap) (l1 l2 : Addr) : Heap := (zmH3 h l1 l2).push { cls := .type "tuple", data := .seq #[.none, .none] }
abbrev zmH5 (h : Heap) (l1 l2 : Addr) : Heap := (zmH4 h l1 l2).push { cls := .type "zip", data := .fields #[.none, .bool false, .bool false, .ref (zmH2 h l1 l2).objs.size, .ref (zmH3 h l1 l2).objs.size] }
theorem meets_zipTL (l1 l2 : Addr) (xs ys : Array Value) :
    Meets (Builtin.«zip.__new__» ⟨[.type "zip", .ref l1, .ref l2], []⟩) (fun _ R s => s.heap.IsTuple l1 xs ∧ s.heap.IsList l2 ys ∧ R (.ok (.ret (.ref (zmH4 s.heap l1 l2).objs.size))) { s with heap := zmH5 s.heap l1 l2 }) :=
  .of_wp fun prog w A R s h => by
    obtain ⟨hp, g, d, tk, os⟩ := s
    obtain ⟨q1, q2, h⟩ := h
    have f0 := sub_zip
    have a1 : Heap.IsTuple (Shared.heap ⟨hp, g, d, tk, os⟩) l1 xs := q1
    have a2 : Heap.IsList (Shared.heap ⟨hp.push { cls := .type "tuple_iterator", data := .fields #[.ref l1, .int 0 0] }, g, d, tk, os⟩) l2 ys := Heap.IsList.push q2 _
    wp_walk using wpAny_pyIter_tuple a1, wpAny_pyIter_list a2
    exact ⟨_, rfl, h⟩
variable {prog : Program} {w : World} {A : Around} {E : Value → Shared → Prop} {s : Shared}
theorem call_zipTL {l1 l2 : Addr} {xs ys : Array Value} {Q : Value → Shared → Prop} (q1 : s.heap.IsTuple l1 xs) (q2 : s.heap.IsList l2 ys)
    (h : ∀ h', IsZip h' (s.heap.objs.size + 4) (s.heap.objs.size + 2) (s.heap.objs.size + 3) .none → IsTupOf2 h' (s.heap.objs.size + 2) (.ref s.heap.objs.size) (.ref (s.heap.objs.size + 1)) → IsTupOf2 h' (s.heap.objs.size + 3) .none .none →
      h'.IsTupleIter s.heap.objs.size l1 0 → h'.IsListIter (s.heap.objs.size + 1) l2 0 → h'.objs.size = s.heap.objs.size + 5 → Kp s.heap h' → Q (.ref (s.heap.objs.size + 4)) { s with heap := h' }) :
    wpAny (model prog w) A (call (.type "zip") [.ref l1, .ref l2]) Q E s := by
  refine callType_new F.called_zip (by decide) (F.typeCall_zip_2 _ _) (F.newCall_zip_2 _ _) (fun obj => F.args_object_init_3 obj _ _) F.entry_zip_new (meets_zipTL l1 l2 xs ys) ⟨q1, q2, ?_⟩
  have z1 : (zmH1 s.heap l1).objs.size = s.heap.objs.size + 1 := Heap.size_push ..
  have z2 : (zmH2 s.heap l1 l2).objs.size = s.heap.objs.size + 2 := by rw [Heap.size_push, z1]
  have z3 : (zmH3 s.heap l1 l2).objs.size = s.heap.objs.size + 3 := by rw [Heap.size_push, z2]
  have z4 : (zmH4 s.heap l1 l2).objs.size = s.heap.objs.size + 4 := by rw [Heap.size_push, z3]
  have z5 : (zmH5 s.heap l1 l2).objs.size = s.heap.objs.size + 5 := by rw [Heap.size_push, z4]
  have g5 : (zmH5 s.heap l1 l2).get? (zmH4 s.heap l1 l2).objs.size = some _ := Heap.get?_push_size _ rfl
  have g4 : (zmH5 s.heap l1 l2).get? (zmH3 s.heap l1 l2).objs.size = some _ := Heap.get?_push_of_some _ (Heap.get?_push_size _ rfl)
  have g3 : (zmH5 s.heap l1 l2).get? (zmH2 s.heap l1 l2).objs.size = some _ := Heap.get?_push_of_some _ (Heap.get?_push_of_some _ (Heap.get?_push_size _ rfl))
  have g2 : (zmH5 s.heap l1 l2).get? (zmH1 s.heap l1).objs.size = some _ := Heap.get?_push_of_some _ (Heap.get?_push_of_some _ (Heap.get?_push_of_some _ (Heap.get?_push_size _ rfl)))
  have g1 : (zmH5 s.heap l1 l2).get? s.heap.objs.size = some _ := Heap.get?_push_of_some _ (Heap.get?_push_of_some _ (Heap.get?_push_of_some _ (Heap.get?_push_of_some _ (Heap.get?_push_size _ rfl))))
  show _ ∧ _
  rw [z2, z3, z4] at g5
  rw [z3] at g4
  rw [z1, z2] at g3
  rw [z1] at g2
  have hQ := h (zmH5 s.heap l1 l2) g5 g3 g4 ⟨_, g1, rfl, rfl⟩ ⟨_, g2, rfl, rfl⟩ z5 fun c o e => Heap.get?_push_of_some _ (Heap.get?_push_of_some _ (Heap.get?_push_of_some _ (Heap.get?_push_of_some _ (Heap.get?_push_of_some _ e))))
  rw [← z4] at hQ
  exact ⟨⟨_, Heap.get?_push_size _ rfl, rfl⟩, hQ⟩
/-- the cells of a zip over a tuple and a list, made now -/
theorem zip_sep {n : Nat} {l1 l2 : Addr} (a1 : l1 < n) (a2 : l2 < n) : ZipSep2 (n + 4) (n + 2) (n + 3) n (n + 1) [n, l1] [n + 1, l2] := by
  have nn : ∀ i j : Nat, i ≠ j → (n : Nat) + i ≠ n + j := fun i j q => by omega
  have ne1 : ∀ j : Nat, n + j ≠ l1 := fun j z => by
    have q : (l1 : Nat) < n := a1
    rw [← z] at q
    exact Nat.lt_irrefl _ (Nat.lt_of_le_of_lt (Nat.le_add_right _ _) q)
  have ne2 : ∀ j : Nat, n + j ≠ l2 := fun j z => by
    have q : (l2 : Nat) < n := a2
    rw [← z] at q
    exact Nat.lt_irrefl _ (Nat.lt_of_le_of_lt (Nat.le_add_right _ _) q)
  have m2 : ∀ {q r t : Addr}, q ≠ r → q ≠ t → q ∉ [r, t] := fun {q r t} z1 z2 z => by
    have z' : q = r ∨ q = t := by simpa using z
    rcases z' with z' | z'
    · exact z1 z'
    · exact z2 z'
  exact ⟨nn 2 4 (by decide), nn 3 4 (by decide), nn 2 3 (by decide), nn 2 0 (by decide), List.mem_cons_self, m2 (nn 4 0 (by decide)) (ne1 4), m2 (nn 3 0 (by decide)) (ne1 3), nn 2 1 (by decide), List.mem_cons_self, m2 (nn 4 1 (by decide)) (ne2 4), m2 (nn 3 1 (by decide)) (ne2 3),
    m2 (nn 0 1 (by decide)) (ne2 0), m2 (nn 1 0 (by decide)) (ne1 1)⟩
end

/-- the sum of the products, place by place, up to the shorter -/
def dotZ : List Int → List Int → Int
  | x :: xs, y :: ys => x * y + dotZ xs ys
  | _, _ => 0
theorem dot_take : ∀ (i : Nat) (xs ys : List Int) (x y : Int), xs[i]? = some x → ys[i]? = some y → dotZ (xs.take (i + 1)) (ys.take (i + 1)) = dotZ (xs.take i) (ys.take i) + x * y
  | 0, x0 :: xs, y0 :: ys, x, y, h1, h2 => by
    simp at h1 h2
    subst h1 h2
    simp [dotZ]
  | i + 1, x0 :: xs, y0 :: ys, x, y, h1, h2 => by
    have := dot_take i xs ys x y (by simpa using h1) (by simpa using h2)
    simp only [List.take_succ_cons, dotZ, this]
    omega
  | _, [], _, _, _, h1, _ => by simp at h1
  | _, _ :: _, [], _, _, _, h2 => by simp at h2
theorem dot_take_all (xs ys : List Int) (n : Nat) (h : n = min xs.length ys.length) : dotZ (xs.take n) (ys.take n) = dotZ xs ys := by
  subst h
  have go : ∀ (xs ys : List Int), dotZ (xs.take (min xs.length ys.length)) (ys.take (min xs.length ys.length)) = dotZ xs ys := by
    intro xs
    induction xs with
    | nil => intro ys; simp [dotZ]
    | cons x xs ih =>
      intro ys
      cases ys with
      | nil => simp [dotZ]
      | cons y ys =>
        have e : min (x :: xs).length (y :: ys).length = min xs.length ys.length + 1 := by simp only [List.length_cons]; omega
        rw [e]
        simp only [List.take_succ_cons, dotZ, ih]
  exact go xs ys
section
variable {P : Program} {w : World} {K : PySem.W.Frag} {mg : Str → Option Value} {Φ : Heap → Prop} {D U : Nat}
/-- def code(self, m): total = 0; for e, u in zip(m, self.units): total += e * u; return total -/
theorem pf_dot {x qual at_ vm vt ve vu : Str} {st : Stmt} {f a M L dx C : Addr} {fd : FuncData} {N ps : List Str} {p1 p2 p3 p4 p5 p6 p7 p8 p9 p10 p11 p12 p13 p14 p15 p16 p17 p18 p19 : Pos} {j1 kt : Nat} {vself : Str} {ms uss : List Int}
    (F : Fun K x qual st f fd) (S : FnScope N ps (defScope st)) (Sx : Stay K mg Φ) (hps : ps = [vself, vm])
    (hbody : defBody st = [.Assign [.Name vt p1] (.Constant (.int 0) j1 p2) p3,
      .For (.Tuple [.Name ve p4, .Name vu p5] kt p6) (.Call (.Name "zip" p7) [.Name vm p8, .Attribute (.Name vself p9) at_ p10] [] p11) [.AugAssign (.Name vt p12) .Add (.BinOp (.Name ve p13) .Mult (.Name vu p14) p15) p16] [] p17, .Return (some (.Name vt p18)) p19])
    (hk : ∀ y ∈ [vself, vm, vt, ve, vu], (defScope st).names.lookup y = some .local) (hnd : [vself, vm, vt, ve, vu].Nodup) (hz : (defScope st).names.lookup ("zip" : Str) = some .globalImplicit) (hmz : mg "zip" = none)
    (hdb : ∀ y ∈ [vself, vm, vt, ve, vu], (y == ("__debug__" : Str)) = false) (hD : D + 8 < recursionLimit) (hU : U + 64 < cLine)
    (cl : Cls K C) (na : NoAttr K C at_)
    (hself : ∀ h, Φ h → ∃ mA t, ObjM h a dx C mA ∧ mA at_ = some (.ref t) ∧ t = L)
    (hM : ∀ h, Φ h → ∃ its : List Value, h.IsTuple M its.toArray ∧ PyProof.Rows.IntsAre its ms) (hL : ∀ h, Φ h → ∃ its : List Value, h.IsList L its.toArray ∧ PyProof.Rows.IntsAre its uss)
    (hw : ∀ (i : Nat) (x y : Int), ms[i]? = some x → uss[i]? = some y → CMulW x y) : PuG P w Φ D U f fd ps [.ref a, .ref M] (fun y => ∃ t, y = .int (dotZ ms uss) t) := by
  intro A s args hbb h1 h2 h3 hφ
  obtain ⟨oc, od, kV, doc, pm, an, cdv, ct, osl, rfl, lk, hcd⟩ := F.ex
  have KX : K.In s.heap := Sx.kin _ hφ
  have lim : s.heap.NoLimit := Sx.lim _ hφ
  have hus : ([Value.ref a, Value.ref M] : List Value).length = ps.length := by rw [hps]; rfl
  have kd : ∀ y ∈ [vself, vm, vt, ve, vu], ∀ cenv : Env, cenv.scope = defScope st → cenv.kindOf y = some .local := fun y hy cenv e => by
    show cenv.scope.names.lookup y = _
    rw [e]
    exact hk y hy
  have hkind : ∀ y ∈ ps.zip [Value.ref a, Value.ref M], (defScope st).names.lookup y.1 = some .local ∨ ((defScope st).names.lookup y.1 = some .cell ∧ ((cellsFrom (s.heap.objs.size + 1) (defScope st).names []).lookup y.1).isSome = true) := fun ⟨n, v⟩ hy => by
    rcases S.par n (List.of_mem_zip hy).1 with q | q
    · exact .inl q
    · exact .inr ⟨q, PySem.W.cellsFrom_some _ _ _ (.inl q)⟩
  refine codeAny_call_function (by omega) (KX _ _ lk) rfl S.co S.gen rfl (PySem.W.codeRec_of KX hcd) (hbb _ _ _ _ ?_)
  refine wpAny_newFunctionEnv_cells S.kind hkind fun env hen s1 ic => ?_
  have hsc : env.scope = defScope st := by rw [hen]; rfl
  have hgl : env.globals = mainGlobals := by rw [hen]; rfl
  have hbl : env.builtins = builtinsNs := by rw [hen]; rfl
  have hloc : env.locals = s.heap.objs.size := by rw [hen]; rfl
  refine ⟨lim.keeps ic.toInCall.keep, codeAny_func ?_⟩
  obtain ⟨h1', tk, rfl, hkp⟩ := ic.done
  show wpAny _ _ (execs (defBody st) _) _ _ _
  rw [hbody]
  have m0 : (bindL env.kindOf (ps.zip [Value.ref a, Value.ref M]) fun _ => none) vself = some (.ref a) ∧ (bindL env.kindOf (ps.zip [Value.ref a, Value.ref M]) fun _ => none) vm = some (.ref M) := by
    have nd2 : ps.Nodup := by rw [hps]; exact hnd.sublist (by simp)
    exact ⟨bindL_get (i := 0) nd2 (by rw [hps]; rfl) rfl (kd _ (by simp) env hsc), bindL_get (i := 1) nd2 (by rw [hps]; rfl) rfl (kd _ (by simp) env hsc)⟩
  obtain ⟨m, hm⟩ : ∃ m : Str → Option Value, m = bindL env.kindOf (ps.zip [Value.ref a, Value.ref M]) fun _ => none := ⟨_, rfl⟩
  have hns : h1'.Ns env.locals m := by rw [hm]; exact ic.toInCall.ns
  rw [← hm] at m0
  have F0 : PyProof.Rows.Fr s.heap env.locals h1' m := ⟨hns, hkp, by rw [hloc]; exact Nat.le_refl _⟩
  have ck : (env.scope.kind == .class || (env.scope.kind == .module && env.locals != env.globals)) = false := by rw [hsc, S.kind]; rfl
  have ek : env.scope.kind = .function := by rw [hsc]; exact S.kind
  have ne : ∀ {y z : Str}, y ≠ z → (if z = y then (none : Option Value) else none) = none := fun _ => by split <;> rfl
  have nt : vself ≠ vt ∧ vm ≠ vt ∧ ve ≠ vt ∧ vu ≠ vt ∧ ve ≠ vu ∧ vself ≠ ve ∧ vself ≠ vu ∧ vm ≠ ve ∧ vm ≠ vu := by
    simp only [List.nodup_cons, List.mem_cons, not_or, List.not_mem_nil, not_false_eq_true, and_true, List.nodup_nil] at hnd
    exact ⟨hnd.1.2.1, hnd.2.1.1, fun z => hnd.2.2.1.1 z.symm, fun z => hnd.2.2.1.2 z.symm, hnd.2.2.2, hnd.1.2.2.1, hnd.1.2.2.2, hnd.2.1.2.1, hnd.2.1.2.2⟩
  -- total = 0
  refine wpAny_mono (Q := fun f s' => ∃ t, f = .ret (.int (dotZ ms uss) t) ∧ Keeps s s') (E := fun _ _ => False) ?_ (fun f s' q => ?_) (fun _ _ z => z.elim)
  case refine_2 =>
    obtain ⟨t, rfl, q⟩ := q
    exact ⟨⟨t, rfl⟩, q⟩
  refine wpAny_execs_cons (wpAny_Assign_Name (wpAny_Constant_int (wpAny_storeName_local (kd _ (by simp) env hsc) hns (fun h2 hn2 hs2 => ?_) ck)) rfl)
  have F2 := F0.set hn2 hs2
  have hφ2 : Φ h2 := Sx.up _ _ hφ F2.keep
  have hg2 : h2.Ns mainGlobals mg := Sx.glob _ hφ2
  obtain ⟨mb, b1, b2⟩ := Sx.blt _ hφ2
  have e0 : ∀ tk', ({ s with heap := h2, toks := tk' } : Shared).heap = h2 := fun _ => rfl
  refine wpAny_execs_cons (wpAny_mono (Q := fun f s' => f = .next ∧ ∃ h3 tk3 m3 t3, s' = { s with heap := h3, toks := tk3 } ∧ PyProof.Rows.Fr s.heap env.locals h3 m3 ∧ m3 vt = some (.int (dotZ ms uss) t3)) (E := fun _ _ => False) ?loop (fun f s' q => ?after) (fun _ _ z => z.elim))
  case after =>
    obtain ⟨rfl, h3, tk3, m3, t3, rfl, F3, hv3⟩ := q
    refine wpAny_execs_cons (wpAny_Return_some (wpAny_Name (wpAny_loadName_local ek (kd _ (by simp) env hsc) F3.ns hv3 ?_) (hdb _ (by simp))))
    exact ⟨t3, rfl, h3, tk3, rfl, F3.keep⟩
  case loop =>
    refine PySem.W.For_turns F2 ?_ (hE := PassesOwn.never)
    refine PyProof.Rows.Call_ (Calls.Name_function_global ek (by show env.scope.names.lookup _ = _; rw [hsc]; exact hz) (Calls.loadGlobal_builtin (by rw [hgl]; exact hg2) hmz (by rw [hbl]; exact b1) ((b2 _ (by decide)).trans PyProof.Rows.boot_zip) (PyProof.Rows.callWith_type1 ?_ rfl rfl)))
    show wpAny _ _ (spliced ((false, eval (.Name vm p8) env) :: backTo p11 (starEach [.Attribute (.Name vself p9) at_ p10] env))) _ _ _
    have n2 : ∀ y, y ≠ vt → (fun y => if y = vt then some (Value.int 0 s.toks) else m y) y = m y := fun y q => if_neg q
    refine Calls.spliced_cons (wpAny_Name (wpAny_loadName_local ek (kd _ (by simp) env hsc) hn2 (v := .ref M) ?v1 ?_) (hdb _ (by simp)))
    case v1 => first | exact (if_neg nt.2.1).trans m0.2 | simp [nt.2.1, m0.2]
    refine Calls.spliced_cons (attr_of rfl (wpAny_Name (wpAny_loadName_local ek (kd _ (by simp) env hsc) hn2 (v := .ref a) ?v2 ?_) (hdb _ (by simp))))
    case v2 => first | exact (if_neg nt.1).trans m0.1 | simp [nt.1, m0.1]
    obtain ⟨mA, tL, O, hmA, rfl⟩ := hself _ hφ2
    refine get_map (Sx.kin _ hφ2) O (cl.get _) cl.hd na hmA (handed_of (v := .ref tL) rfl) ?_
    refine Calls.spliced_nil ?_
    obtain ⟨itm, hitm, hims⟩ := hM _ hφ2
    obtain ⟨itl, hitl, hils⟩ := hL _ hφ2
    refine call_zipTL hitm hitl fun h4 z1 z2 z3 z4 z5 z6 k4 => wpAny_pyIter_zip z1 ?_
    have F4 : PyProof.Rows.Fr s.heap env.locals h4 _ := F2.keeps k4
    have lM : M < h2.objs.size := by obtain ⟨o, e, _⟩ := hitm; exact Heap.lt_size e
    have lL : tL < h2.objs.size := by obtain ⟨o, e, _⟩ := hitl; exact Heap.lt_size e
    have lenv : env.locals < h2.objs.size := F2.ns.lt
    have hge : ∀ j : Nat, s.heap.get? (h2.objs.size + j) = none := fun j => Heap.get?_none_of_le (Nat.le_trans F2.above (Nat.le_trans (Nat.le_of_lt lenv) (Nat.le_add_right _ j)))
    have hen4 : ∀ j : Nat, env.locals ≠ h2.objs.size + j := fun j z => by
      have q : (env.locals : Nat) < h2.objs.size := lenv
      rw [z] at q
      exact Nat.lt_irrefl _ (Nat.lt_of_le_of_lt (Nat.le_add_right _ _) q)
    have hnM : env.locals ≠ M := fun z => by
      obtain ⟨o, e1, e2, e3⟩ := hM _ hφ |>.choose_spec.1
      have q := Heap.lt_size e1
      rw [← z, hloc] at q
      exact Nat.lt_irrefl _ q
    have hnL : env.locals ≠ tL := fun z => by
      obtain ⟨o, e1, e2, e3⟩ := hL _ hφ |>.choose_spec.1
      have q := Heap.lt_size e1
      rw [← z, hloc] at q
      exact Nat.lt_irrefl _ q
    have W := PySem.W.KTurns.ofWalksU (elts := [.Name ve p4, .Name vu p5]) (k := kt) (pos := p6) (WalksT.zipD2 (prog := P) (w := w) (A := A.deeper env) (zip_sep lM lL) (Draws.tuple (A := (A.deeper env).in1) h1 _ _ (Nat.ne_of_lt lM) itm.toArray) (Draws.list (A := (A.deeper env).in1) h1 _ _ (Nat.ne_of_lt (Nat.lt_succ_of_lt lL)) itl.toArray)).toU
    refine ⟨h2.objs.size + 4, _, _, _, _, _, _, _, [], fun i m' n' => n' = [] ∧ ∃ t, m' vt = some (.int (dotZ (ms.take i) (uss.take i)) t), rfl, W, ?_, ?_, (fun _ hp => nomatch hp), ?_, F4, PyProof.Rows.News.nil, ⟨rfl, tk, ?_⟩, ?_, ?_⟩
    · intro hh
      have hh' : env.locals = h2.objs.size + 4 ∨ env.locals = h2.objs.size + 2 ∨ env.locals = h2.objs.size + 3 ∨ env.locals = h2.objs.size ∨ env.locals = M ∨ env.locals = h2.objs.size + 1 ∨ env.locals = tL := by simpa using hh
      rcases hh' with z | z | z | z | z | z | z
      · exact hen4 4 z
      · exact hen4 2 z
      · exact hen4 3 z
      · exact hen4 0 z
      · exact hnM z
      · exact hen4 1 z
      · exact hnL z
    · intro b hb'
      have hh' : b = h2.objs.size + 4 ∨ b = h2.objs.size + 3 ∨ b = h2.objs.size ∨ b = h2.objs.size + 1 := by simpa using hb'
      rcases hh' with z | z | z | z
      · rw [z]; exact hge 4
      · rw [z]; exact hge 3
      · rw [z]; exact hge 0
      · rw [z]; exact hge 1
    · exact ⟨z1, z2, ⟨_, _, z3⟩, ⟨z4, hitm.at fun o e => k4 _ o e⟩, ⟨z5, hitl.at fun o e => k4 _ o e⟩⟩
    · simp [dotZ]
    · rintro i v m1 n1 h5 tk5 own hi ⟨T, vals, rfl, ⟨x1, x2, hx1, hx2, rfl⟩, hT⟩ ⟨rfl, t1, hv1⟩ - hown1 hown2 hown3 st5 F5 N5
      have hx1' : itm[i]? = some x1 := by simpa using hx1
      have hx2' : itl[i]? = some x2 := by simpa using hx2
      have li : i < ms.length := by rw [← hims.length]; exact (List.getElem?_eq_some_iff.mp hx1').1
      have li2 : i < uss.length := by rw [← hils.length]; exact (List.getElem?_eq_some_iff.mp hx2').1
      obtain ⟨q1, e1⟩ := hims.get i _ (List.getElem?_eq_getElem li)
      obtain ⟨q2, e2⟩ := hils.get i _ (List.getElem?_eq_getElem li2)
      rw [hx1'] at e1
      rw [hx2'] at e2
      cases e1
      cases e2
      refine wpAny_assign_Tuple (s := { s with heap := h5, toks := tk5 }) h1 hT rfl rfl fun h6 hx6 => ?_
      have old6 : Kp h5 h6 := fun b o e => hx6 b o (Nat.ne_of_lt (Heap.lt_size e)) e
      have F6 := F5.keeps old6
      show wpAny _ _ (do holding [Value.int uss[i] q2] (assign (.Name ve p4) env (Value.int ms[i] q1)); do holding [] (assign (.Name vu p5) env (Value.int uss[i] q2)); pure ()) _ _ _
      refine wpAny_bind (wpAny_holding (wpAny_assign_Name (wpAny_storeName_local (kd _ (by simp) env hsc) F6.ns (fun h7 hn7 hs7 => ?_) ck)))
      have F7 := F6.set hn7 hs7
      refine wpAny_bind (wpAny_holding (wpAny_assign_Name (wpAny_storeName_local (kd _ (by simp) env hsc) hn7 (fun h8 hn8 hs8 => wpAny_pure ?_) ck)))
      have F8 := F7.set hn8 hs8
      have gv : ∀ (y : Str) (g : Str → Option Value), (fun x => if x = vu then some (Value.int uss[i] q2) else if x = ve then some (Value.int ms[i] q1) else g x) y = if y = vu then some (Value.int uss[i] q2) else if y = ve then some (Value.int ms[i] q1) else g y := fun _ _ => rfl
      refine wpAny_execs_cons (wpAny_AugAssign_Name (wpAny_loadName_local ek (kd _ (by simp) env hsc) hn8 (v := .int (dotZ (ms.take i) (uss.take i)) t1) ?w1 ?_))
      case w1 => simp [nt.2.2.1.symm, nt.2.2.2.1.symm, hv1]
      refine wpAny_BinOp (wpAny_Name (wpAny_loadName_local ek (kd _ (by simp) env hsc) hn8 (v := .int ms[i] q1) ?w2 ?_) (hdb _ (by simp)))
      case w2 => simp [nt.2.2.2.2.1]
      refine wpAny_Name (wpAny_loadName_local ek (kd _ (by simp) env hsc) hn8 (v := .int uss[i] q2) ?w3 ?_) (hdb _ (by simp))
      case w3 => simp
      refine PyProof.Rows.mul_int ?_ (hw i _ _ (List.getElem?_eq_getElem li) (List.getElem?_eq_getElem li2)).ok
      refine PyProof.Rows.iadd_int ?_
      refine wpAny_storeName_local (kd _ (by simp) env hsc) hn8 (fun h9 hn9 hs9 => ?_) ck
      have F9 := F8.set hn9 hs9
      refine wpAny_execs_nil ?_
      refine PyProof.Rows.LoopStepU.intro F9 (fun p hp => ?_) (fun p hp => absurd hp (by simp)) ⟨rfl, ?_⟩
      · have hp' : p ∈ own := by simpa using hp
        have q5 := N5 p (by simpa using hp')
        refine ⟨?_, q5.2⟩
        exact (hs9.2 _ q5.2.1).trans ((hs8.2 _ q5.2.1).trans ((hs7.2 _ q5.2.1).trans (old6 _ _ q5.1)))
      · apply Exists.intro
        rw [dot_take i ms uss _ _ (List.getElem?_eq_getElem li) (List.getElem?_eq_getElem li2)]
        exact if_pos rfl
    · rintro h5 tk5 m5 n5 F5 N5 - ⟨-, t5, hv5⟩
      refine ⟨rfl, h5, tk5, m5, t5, rfl, F5, ?_⟩
      rw [hv5]
      congr 2
      refine dot_take_all ms uss _ ?_
      rw [List.size_toArray, List.size_toArray, hims.length, hils.length]
end

/-! ### lambdas without parameters, made and called in one def -/
section
open PySem.Spec PyProof.Rows LamX NdefX
def LamO (f : Addr) (q : Str) (params : Arguments) (body : Expr) (scope : Scope) (cl : List (Str × Addr)) (c' : Addr) : HO :=
  .ext fun h => ∃ pm ctv, h.get? f = some (PySem.W.kla_obj "<lambda>" q params body scope cl pm c' ctv)
variable {X : Cx} {pins : List (Addr × Obj)} {σ : L2.St} {H : Hp} {s : Shared}
theorem inv_lam {q : Str} {params : Arguments} {body : Expr} {scope : Scope} {cl : List (Str × Addr)} {c' : Addr} {pm ctv : Value} {t' : Nat} (I : L2.Inv X pins σ H s) :
    L2.Inv X pins σ (upd H s.heap.objs.size (LamO s.heap.objs.size q params body scope cl c')) { s with heap := s.heap.push (PySem.W.kla_obj "<lambda>" q params body scope cl pm c' ctv), toks := t' } := by
  refine I.laid (a := s.heap.objs.size) (fun b u e => Heap.get?_push_of_some _ e) (Nat.le_refl _) ?_
  have e : (s.heap.push (PySem.W.kla_obj "<lambda>" q params body scope cl pm c' ctv)).get? s.heap.objs.size = some (PySem.W.kla_obj "<lambda>" q params body scope cl pm c' ctv) := Heap.get?_push_size _ rfl
  exact ⟨⟨pm, ctv, e⟩, ⟨_, e⟩, fun h1 h2 ⟨p, t, z⟩ st => ⟨p, t, st _ z⟩⟩
theorem lam_makeT {T : List (Addr × Str)} {c P : Addr} {params : Arguments} {body : Expr} {scope : Scope} {pos : Pos} {E : Value → Shared → Prop} {Q : Value → Shared → Prop} (I : L2.Inv X pins σ H s) (TB : TabB X.base X.mg c P) (hcode : X.env.code = .ref c)
    (hm : (P, X.env.qual ++ "<lambda>") ∈ T) (hu : ∀ p ∈ T, p.1 = P → p.2 = X.env.qual ++ "<lambda>") (hT : Tabs T H) (hdef : defaultsOf params X.env = ([], [])) (hfree : ∀ y ∈ scope.names, y.2 = .free → ∃ c, X.env.cells.lookup y.1 = some c)
    (h : ∀ (f c' : Addr) (H1 : Hp) (s' : Shared), L2.Inv X pins σ H1 s' → ExtN H H1 → (∀ b, H1 b = Option.none → H b = Option.none) → Tabs T H1 → H f = Option.none → H1 f = some (LamO f (X.env.qual ++ "<lambda>") params body scope (cloFrom X.env.cells scope.names []) c') → H1 c' = some (CodeO c' (X.env.qual ++ "<lambda>")) → (∀ b o, b ≠ P → H b = some o → H1 b = some o) → Q (.ref f) s') :
    wpAny (model X.prog X.w) X.A (eval (.Lambda params body scope pos) X.env) Q E s := by
  obtain ⟨ps, hP, ht, ha⟩ := hT _ hm
  refine PySem.W.kla_eval hdef ?_
  have bP : s.heap.BuiltinsAt X.mg P := TB.bm.keeps I.bk
  have hP' : s.heap.get? P = some { cls := .none, data := .fields ps } := I.hok P _ hP
  cases hc : codeAmong pos ps.toList with
  | none =>
    refine PySem.W.kla_makeFunction (mg := X.mg) (c := c) (P := P) (ps := ps) (closure_ok hfree) I.ok.glob (I.mod.glob.keeps I.bk) hcode (TB.code.keeps I.bk) hP' ht hc TB.gP bP fun c' ctv h' tk hx hge hlt hrec htb => ?_
    obtain ⟨c2, oc, vs, t, e2, hoc, hd, hv⟩ := hrec
    cases e2
    have nC : H c' = Option.none := I.hok.fresh hge
    have I1 := inv_table (t' := tk) (more := #[rawInt pos.line, rawInt pos.col, .ref c']) (h' := h') I hP (fun b o hb e => hx b o hb e) htb hge ⟨oc, vs, t, hoc, hd, hv⟩
    have hE : ExtN H (upd (upd H P (.tbl (ps ++ #[rawInt pos.line, rawInt pos.col, .ref c']))) c' (CodeO c' (X.env.qual ++ "<lambda>"))) := fun b o e n => by
      rw [upd_ne (ne_of_none e nC), upd_ne (fun z => n ps (Option.some.inj (e.symm.trans (by rw [z]; exact hP))))]
      exact e
    have eL : (ps ++ #[rawInt pos.line, rawInt pos.col, .ref c']).toList = ps.toList ++ [rawInt pos.line, rawInt pos.col, .ref c'] := by simp
    have T1 : Tabs T (upd (upd H P (.tbl (ps ++ #[rawInt pos.line, rawInt pos.col, .ref c']))) c' (CodeO c' (X.env.qual ++ "<lambda>"))) := fun p hp => by
      by_cases hb : p.1 = P
      · rw [hu p hp hb, hb]
        refine ⟨_, by rw [upd_ne (ne_of_none hP nC), upd_same], by rw [eL]; exact PySem.TriplesOk_snoc _ _ _ _ ht, fun p' cv hcv => ?_⟩
        rw [eL] at hcv
        rcases among_app _ ht hcv with z | z
        · obtain ⟨c0, e1, e2⟩ := ha p' cv z
          exact ⟨c0, e1, hE _ _ e2 codeO_ne⟩
        · exact ⟨c', z, upd_same⟩
      · obtain ⟨ps', a1, a2, a3⟩ := hT p hp
        refine ⟨ps', by rw [upd_ne (ne_of_none a1 nC), upd_ne hb]; exact a1, a2, fun p' cv hcv => ?_⟩
        obtain ⟨c0, e1, e2⟩ := a3 p' cv hcv
        exact ⟨c0, e1, hE _ _ e2 codeO_ne⟩
    have nF := I1.hok.fresh (Nat.le_refl _)
    have I2 := inv_lam (q := X.env.qual ++ "<lambda>") (params := params) (body := body) (scope := scope) (cl := cloFrom X.env.cells scope.names []) (c' := c') (pm := (X.mg "__name__").getD .none) (ctv := ctv) (t' := tk) I1
    refine h h'.objs.size c' _ _ I2 (fun b o e n => ?_) (fun b e => upd_none (upd_none (upd_none e))) (T1.ext fun b o e => ?_) (I.hok.fresh (Nat.le_trans hge (Nat.le_of_lt hlt))) upd_same ?_ (fun b o nb e => ?_)
    · have e1 := hE b o e n
      exact (upd_ne (ne_of_none e1 nF)).trans e1
    · exact (upd_ne (ne_of_none e nF)).trans e
    · exact (upd_ne (Nat.ne_of_lt hlt)).trans upd_same
    · have q1 : (upd (upd H P (.tbl (ps ++ #[rawInt pos.line, rawInt pos.col, .ref c']))) c' (CodeO c' (X.env.qual ++ "<lambda>"))) b = some o := by
        rw [upd_ne (ne_of_none e nC), upd_ne nb]
        exact e
      exact (upd_ne (ne_of_none q1 nF)).trans q1
  | some cv =>
    obtain ⟨c', e, hco⟩ := ha pos cv hc
    subst e
    refine PySem.W.kla_makeFunctionHit (mg := X.mg) (c := c) (P := P) (ps := ps) (closure_ok hfree) I.ok.glob (I.mod.glob.keeps I.bk) hcode (TB.code.keeps I.bk) hP' ht hc bP fun ctv h' tk hx hsz => ?_
    have I1 : L2.Inv X pins σ H { s with heap := h', toks := tk } := I.kept hx
    have nF : H h'.objs.size = Option.none := I1.hok.fresh (Nat.le_refl _)
    have I2 := inv_lam (q := X.env.qual ++ "<lambda>") (params := params) (body := body) (scope := scope) (cl := cloFrom X.env.cells scope.names []) (c' := c') (pm := (X.mg "__name__").getD .none) (ctv := ctv) (t' := tk) I1
    refine h h'.objs.size c' _ _ I2 (fun b o e n => ?_) (fun b e => upd_none e) (hT.ext fun b o e => ?_) nF upd_same ?_ (fun b o _ e => (upd_ne (ne_of_none e nF)).trans e)
    · exact (upd_ne (ne_of_none e nF)).trans e
    · exact (upd_ne (ne_of_none e nF)).trans e
    · exact (upd_ne (ne_of_none hco nF)).trans hco
/-- the reading of a lambda: a new function object, known with its code object -/
def tLam (T : List (Addr × Str)) (q : Str) (params : Arguments) (body : Expr) (scope : Scope) (cl : List (Str × Addr)) : TE := fun _ H Q =>
  Tabs T H ∧ ∀ (f c' : Addr) (H1 : Hp), ExtN H H1 → (∀ b, H1 b = Option.none → H b = Option.none) → Tabs T H1 → H f = Option.none → H1 f = some (LamO f q params body scope cl c') → H1 c' = some (CodeO c' q) → Q (.ref f) H1
theorem pe_lam {T : List (Addr × Str)} {c P : Addr} {params : Arguments} {body : Expr} {scope : Scope} {pos : Pos} (TB : TabB X.base X.mg c P) (hcode : X.env.code = .ref c) (hm : (P, X.env.qual ++ "<lambda>") ∈ T)
    (hu : ∀ p ∈ T, p.1 = P → p.2 = X.env.qual ++ "<lambda>") (L : LamS X.env.scope scope) (hdef : defaultsOf params X.env = ([], []) := by rfl) :
    PE X (.Lambda params body scope pos) (tLam T (X.env.qual ++ "<lambda>") params body scope (cloFrom X.env.cells scope.names [])) := by
  refine ⟨fun pins s σ H Q I h => ?_⟩
  obtain ⟨hT, h⟩ := h
  exact lam_makeT I TB hcode hm hu hT hdef (L.has I.ok) fun f c' H1 s' I1 eN nn T1 f0 f1 c1 _ => ⟨.ref f, H1, I1, rfl, h f c' H1 eN nn T1 f0 f1 c1⟩
/-- fe(), fe an expression that gives such a lambda of the very def -/
theorem pe_callLam {params : Arguments} {body : Expr} {scope : Scope} {k : Nat} {E : L2.St → XK} {tb : XK → TE} {fe : Expr} {tf : TE} {p2 : Pos} (L : LamS X.env.scope scope) (hf : PE X fe tf)
    (hbind : ∀ c' pm ctv, bindArgs (PySem.W.kla_fn "<lambda>" (X.env.qual ++ "<lambda>") params body scope (cloFrom X.env.cells scope.names []) pm (.ref c') ctv) ⟨[], []⟩ = pure [])
    (hx : ∀ σ, PassesAt (L2.CX X.prog X.w) X σ (E σ)) (hr : Room (k + 1) X.A)
    (hbody : ∀ (E0 : XK) (A : Around) (outer : List Env) (s : Shared) (H : Hp) (f c' : Addr), Room k (A.deeper (lamEnv X scope s.heap.objs.size f c')) → PE (lamCx X A outer s H E0 scope f c') body (tb E0))
    (he : eval (fe.Call [] [] p2) X.env = (do
      let f ← eval fe X.env
      callWith p2 f [] (backTo p2 (starEach [] X.env)) (backToKw p2 (keywordEach [] X.env))) := by rfl) :
    PE X (.Call fe [] [] p2) (fun σ H Q => tf σ H fun x H1 => ∃ f c', x = .ref f ∧ H1 f = some (LamO f (X.env.qual ++ "<lambda>") params body scope (cloFrom X.env.cells scope.names []) c') ∧ H1 c' = some (CodeO c' (X.env.qual ++ "<lambda>")) ∧ tb (E σ) σ H1 Q) := by
  refine ⟨fun pins s σ H Q I h => ?_⟩
  refine PyProof.Rows.Call_ (thn (hf.run pins s σ H _ I h) fun u s1 hh => ?_) he
  obtain ⟨x, H1, I1, r1, f, c', ex, ef, ec, ht⟩ := hh
  subst ex
  obtain rfl : u = Value.ref f := r1
  obtain ⟨⟨pm, ctv, of1⟩, _, _⟩ := I1.hok f _ ef
  refine PySem.W.callWith_F0 ⟨_, _, _, _, of1⟩ ?_
  obtain ⟨⟨oc, vs, t, hoc, hdc, hvc⟩, _, _⟩ := I1.hok c' _ ec
  have rc : codeAny (model X.prog X.w) X.A (.call (.ref f) ⟨[], []⟩) (CR (L2.CX X.prog X.w) X.stack X.prog X.w H1 s1 Q (E σ)) s1 := by
    refine PySem.W.kla_callFunE hr.depth of1 rfl L.co L.gen rfl ⟨c', oc, vs, t, rfl, hoc, hdc, hvc⟩ ?_
    rw [hbind]
    refine wpAny_pure (wpAny_newFunctionEnv (fun y hy => (L.own y hy).2) (fun y hy => absurd hy (by simp)) (fun h₁ hns hsb => ⟨I1.nolimit.fresh _ hsb, ?_⟩) L.kind)
    show codeAny _ _ (.expr body (lamEnv X scope s1.heap.objs.size f c')) _ _
    have kp : ∀ b o, s1.heap.get? b = some o → h₁.get? b = some o := fun b o e => hsb.extBut b o (Nat.ne_of_lt (Heap.lt_size e)) (Heap.get?_push_of_some _ e)
    have J : L2.Inv (lamCx X X.A X.stack s1 H1 (E σ) scope f c') [] σ H1 { s1 with heap := h₁, toks := s1.toks + ([] : List (Str × Value)).length } :=
      lam_start2 I1 L I1.env0 hr.hd Un.refl hns kp
    refine PySem.W.kla_codeExpr (wpAny_mono ((hbody (E σ) _ _ s1 H1 f c' (hr.deeper _)).run [] _ _ H1 Q J ht) (fun v s' hq => ?_) fun e s' hq => hq)
    obtain ⟨w', H', J', rv, q⟩ := hq
    exact ⟨w', H', J'.os, J'.bare, J'.base, J'.hok, rv, q⟩
  refine wpAny_call (codeAny_mono rc fun r s' hq => ?_)
  cases r with
  | error e => exact hx σ pins H1 s1 e s' I1 hq
  | ok fl =>
    cases fl with
    | ret u => exact I1.after hq
    | next => exact False.elim hq
    | brk => exact False.elim hq
    | cont => exact False.elim hq
end

/-! ### sorted(xs, key=lambda m: o.f(m)), o a captured name -/
section
open PySem.Spec PyProof.Rows LamX NdefX
variable {P : Program} {w : World} {K : PySem.W.Frag} {mg : Str → Option Value} {Φ : Heap → Prop} {cenv : Env} {m : Str → Option Value} {D U : Nat}
theorem pu_free {x : Str} {u : Value} {c : Addr} {pos : Pos} (ev : PuEnv cenv) (hx : cenv.scope.names.lookup x = some .free) (hc : cenv.cells.lookup x = some c) (hv : ∀ h, Φ h → h.IsCell c (some u)) (hn : (x == ("__classdict__" : Str)) = false := by decide)
    (hd : (x == ("__debug__" : Str)) = false := by decide) : PuE P w Φ cenv m D U (.Name x pos) (· = u) :=
  fun A E s _ _ _ hf _ => wpAny_Name (wpAny_loadName_free ev.kind (show cenv.scope.names.lookup x = some .free from hx) hc (hv _ hf) ⟨rfl, keeps0 s s.toks⟩ hn) hd
/-- o.f(args) -/
theorem pu_meth {o e : Expr} {es : List Expr} {at_ : Str} {apos pos : Pos} {pl : Sem Bool} {a C g : Addr} {R : Value → Prop} {Rs : List Value → Prop} (S : Stay K mg Φ) (ho : PuE P w Φ cenv m D U o (· = .ref a)) (cl : Cls K C) (hm : Meth K C at_ g)
    (hobj : ∀ h, Φ h → ∃ dx mA, ObjM h a dx C mA ∧ mA at_ = none) (ha : PuA P w Φ cenv m D U (e :: es) Rs) (hf : ∀ us, Rs us → PuF P w Φ D U g (.ref a :: us) R)
    (he : starEach (e :: es) cenv = (false, eval e cenv) :: starEach es cenv := by rfl) (hpl : (backTo pos (starEach es cenv)).any (·.1) = false := by rfl)
    (ht : eval (.Call (.Attribute o at_ apos) (e :: es) [] pos) cenv = (do
      let ov ← eval o cenv
      standAt apos.atName
      let (fv, first) ← holding [ov] (getMethod ov at_ pl)
      callWith pos fv first (backTo pos (starEach (e :: es) cenv)) (backToKw pos (keywordEach [] cenv))) := by rfl) :
    PuE P w Φ cenv m D U (.Call (.Attribute o at_ apos) (e :: es) [] pos) R := by
  intro A E s h1 h2 h3 hφ hn
  refine PySem.W.methodCall_KW (pl := pl) (wpAny_mono (ho A E s h1 h2 h3 hφ hn) (fun u s1 r => ?_) fun _ _ z => z) ht
  obtain ⟨rfl, k1⟩ := r
  have hφ1 := S.up _ _ hφ (keepsH k1)
  obtain ⟨dx, mA, O, hno⟩ := hobj _ hφ1
  refine get_meth (S.kin _ hφ1) O (cl.get at_) hm.at_ hm.fn hno ?_
  refine PySem.W.callWith_K (first := [.ref a]) (h₀ := s1.heap) (S.kin _ hφ1) hm.kp (wpAny_mono (ha pos A E s1 h1 h2 h3 hφ1 (hn.at' fun o e => keepsH k1 _ o e)) (fun us s2 r => ?_) fun _ _ z => z) he hpl
  have hφ2 := S.up _ _ hφ1 (keepsH r.2)
  refine ⟨S.kin _ hφ2, wpAny_call (codeAny_mono (hf us r.1 A s2 h1 h2 h3 hφ2) fun rr s3 q => ?_)⟩
  cases rr with
  | error e => exact False.elim q
  | ok fl =>
    cases fl with
    | ret u => exact ⟨q.1, keepsT k1 (keepsT r.2 q.2)⟩
    | next => exact False.elim q
    | brk => exact False.elim q
    | cont => exact False.elim q
/-- a lambda of one parameter -/
theorem pf_lam1 {f c' : Addr} {q x : Str} {params : Arguments} {body : Expr} {scope : Scope} {cl : List (Str × Addr)} {u : Value} {R : Value → Prop} (S : Stay K mg Φ)
    (hf : ∀ h, Φ h → ∃ pm ctv, h.get? f = some (PySem.W.kla_obj "<lambda>" q params body scope cl pm c' ctv)) (hc : ∀ h, Φ h → ∃ (oc : Obj) (vs : Array Value) (t : Tok), h.get? c' = some oc ∧ oc.data = .fields vs ∧ vs[1]? = some (.str q t))
    (hk : scope.kind = .function) (hco : scope.isCoroutine = false) (hgen : scope.isGenerator = false) (hcell : ∀ y ∈ scope.names, y.2 ≠ .cell) (hx : scope.names.lookup x = some .local)
    (hbind : ∀ pm ctv, bindArgs (PySem.W.kla_fn "<lambda>" q params body scope cl pm (.ref c') ctv) ⟨[u], []⟩ = pure [(x, u)]) (hD : D < recursionLimit)
    (he : ∀ env : Env, PuEnv env → env.scope = scope → env.cells = cl → PuE P w Φ env (fun y => ([(x, u)] : List (Str × Value)).reverse.lookup y) (D + 1) (U + 3) body R) : PuF P w Φ D U f [u] R := by
  intro A s h1 h2 h3 hφ
  obtain ⟨pm, ctv, of1⟩ := hf _ hφ
  obtain ⟨oc, vs, t, hoc, hdc, hvc⟩ := hc _ hφ
  refine PySem.W.kla_callFunE (Nat.lt_of_le_of_lt h2 hD) of1 rfl hco hgen rfl ⟨c', oc, vs, t, rfl, hoc, hdc, hvc⟩ ?_
  rw [hbind]
  refine wpAny_pure (wpAny_newFunctionEnv hcell (fun y hy => by rw [List.mem_singleton] at hy; subst hy; exact hx) (fun h₁ hns hsb => ⟨(S.lim _ hφ).fresh _ hsb, ?_⟩) hk)
  have kp : Kp s.heap h₁ := fun b o e => hsb.extBut b o (Nat.ne_of_lt (Heap.lt_size e)) (Heap.get?_push_of_some _ e)
  refine PySem.W.kla_codeExpr (wpAny_mono (he _ ⟨hk, rfl, rfl⟩ rfl rfl _ _ { s with heap := h₁, toks := s.toks + ([(x, u)] : List (Str × Value)).length } h1 (by show A.depth + 1 ≤ D + 1; omega) (by show A.units + 3 ≤ U + 3; omega) (S.up _ _ hφ kp) hns) (fun v s' hq => ?_) fun e s' hq => hq)
  exact ⟨hq.1, keepsT ⟨h₁, _, rfl, kp⟩ hq.2⟩
variable {X : Cx}
/-- the reading of a lambda: all but its def's table stays -/
def tLamF (Pt : Addr) (T : List (Addr × Str)) (q : Str) (params : Arguments) (body : Expr) (scope : Scope) (cl : List (Str × Addr)) : TE := fun _ H Q =>
  Tabs T H ∧ ∀ (f c' : Addr) (H1 : Hp), (∀ b o, b ≠ Pt → H b = some o → H1 b = some o) → ExtN H H1 → Tabs T H1 → H1 f = some (LamO f q params body scope cl c') → H1 c' = some (CodeO c' q) → Q (.ref f) H1
theorem pe_lamF {T : List (Addr × Str)} {c Pt : Addr} {params : Arguments} {body : Expr} {scope : Scope} {pos : Pos} (TB : TabB X.base X.mg c Pt) (hcode : X.env.code = .ref c) (hm : (Pt, X.env.qual ++ "<lambda>") ∈ T)
    (hu : ∀ p ∈ T, p.1 = Pt → p.2 = X.env.qual ++ "<lambda>") (hfree : ∀ y ∈ scope.names, y.2 = .free → X.env.kindOf y.1 = some .cell ∨ X.env.kindOf y.1 = some .free) (hdef : defaultsOf params X.env = ([], []) := by rfl) :
    PE X (.Lambda params body scope pos) (tLamF Pt T (X.env.qual ++ "<lambda>") params body scope (cloFrom X.env.cells scope.names [])) := by
  refine ⟨fun pins s σ H Q I ⟨hT, h⟩ => ?_⟩
  exact lam_makeT I TB hcode hm hu hT hdef (fun y hy e => I.ok.has _ (hfree y hy e)) fun f c' H1 s' I1 eN nn T1 f0 f1 c1 kb => ⟨.ref f, H1, I1, rfl, h f c' H1 kb eN T1 f1 c1⟩
/-- the key's plain promise, in any state that the call may see -/
def KeyF (X : Cx) (σ : L2.St) (H : Hp) (f : Addr) (bs : List (V × Int)) : Prop :=
  ∀ (Φ : Heap → Prop) (pins : List (Addr × Obj)) (t1 : Shared), Stay X.K X.mg Φ → L2.Inv X pins σ H t1 → (∀ h, Φ h → Kp t1.heap h) → ∀ b ∈ bs, ∀ u, RelV b.1 u → PuF X.prog X.w Φ X.A.depth (X.A.units + 2) f [u] (fun y => ∃ t, y = .int b.2 t)
def tSortF (X : Cx) (te tl : TE) : TE := fun σ H Q => tCons te tNil σ H fun vs H1 => tCons tl tNil σ H1 fun zs H2 => ∃ (a f : Addr) (bs : List (V × Int)), vs = [.ref a] ∧ zs = [.ref f] ∧ SqL X.K H2 a (bs.map (·.1)) ∧ KeyF X σ H2 f bs ∧
  ∀ p, H2 p = none → Q (.ref p) (upd H2 p (.lst ((bs.mergeSort (PySem.W.dataLe false fun b => .int b.2)).map (·.1))))
theorem pe_sortF {e fe : Expr} {te tl : TE} {p pos kpos : Pos} {k : Nat} (hr : Room k X.A) (hg : Gl X "sorted") (hm : X.mg "sorted" = none) (hv : bootBuiltins "sorted" = some (.builtin "sorted")) (he : PE X e te) (hl : PE X fe tl)
    (q0 : starEach [e] X.env = (false, eval e X.env) :: starEach [] X.env := by rfl)
    (q1 : backTo pos (starEach [e] X.env) = (false, eval e X.env) :: backTo pos (starEach [] X.env) := by rfl) (q2 : (backTo pos (starEach [e] X.env)).any (·.1) = false := by rfl)
    (q3 : (backToKw pos (keywordEach [⟨some "key", fe, kpos⟩] X.env)).all (·.1.isSome) = true := by rfl) (q4 : (backToKw pos (keywordEach [⟨some "key", fe, kpos⟩] X.env)).any (·.1.isNone) = false := by rfl)
    (q5 : (backToKw pos (keywordEach [⟨some "key", fe, kpos⟩] X.env)).filterMap (·.1) = [Str.ofString "key"] := by rfl) :
    PE X (.Call (.Name "sorted" p) [e] [⟨some "key", fe, kpos⟩] pos) (tSortF X te tl) := by
  refine ⟨fun pins s σ H Q I h => wpAny_Call_Name_kw (ld_blt I hg hm hv ?_)⟩
  have ha := pa_cons (X := X) he pa_nil q0
  have hk := pk_cons (X := X) (nm := some "key") (kpos := kpos) hl pk_nil
  refine PyProof.Rows.callWith_kw (thn (ha.run pos pins s σ H _ I h) fun us s1 ⟨vs, H1, I1, r1, h1⟩ => thn (hk.run pos pins s1 σ H1 _ I1 h1) fun ws s2 ⟨zs, H2, I2, r2, a, f, bs, ev, ez, hs, hf, q⟩ => ?_) q1 q2 q3 q4
  rw [q5]
  subst ev ez
  obtain rfl := Vals.ref1 r1
  obtain ⟨w1, rfl, e1⟩ := vals1 r2
  obtain rfl : w1 = Value.ref f := e1
  obtain ⟨its, rv, hli, hz⟩ := I2.list hs
  have e := each_of (g := fun b : V × Int => b.1) rv
  have hzb : bs.length ≤ sizeLine := by rw [List.length_map] at hz; exact hz
  have St := stay_all (h1 := s2.heap) I2.mod fun b o q => I2.bk b o q
  refine PySem.W.sorted_key_data (R := fun v (b : V × Int) => RelV b.1 v) (b := false) (f := .ref f) (kw := [(Str.ofString "key", .ref f)]) (fun b => .int b.2) hli.isList e (alike_ints _ bs) (sortable_ints _ bs) hzb (fun b hb => ?_) (PyProof.Rows.ksk_s1 _ _) (fun _ => PyProof.Rows.ksk_l1 _ _) (fun x => PyProof.Rows.ksk_t1 _ _) (fun v b rr hb h tk hk2 => ?_) fun out c h' tk hk2 hfr hat hol ho => ?_
  · have := hr.units
    show X.A.units + 2 + (PyData.int b.2).depth < cLine
    simp only [PyData.depth]
    omega
  · refine wpAny_call (codeAny_mono (hf _ pins s2 St I2 (fun h q => q) b hb v rr X.A.in1.in1 { s2 with heap := h, toks := tk } hr.hd (Nat.le_refl _) (Nat.le_refl _) hk2) fun rr s3 w1 => ?_)
    cases rr with
    | error e => exact False.elim w1
    | ok fl =>
      cases fl with
      | ret y =>
        obtain ⟨⟨t, rfl⟩, h2, tk2, e2, k2⟩ := w1
        exact ⟨h2, tk2, e2, k2, .int _ _⟩
      | next => exact False.elim w1
      | brk => exact False.elim w1
      | cont => exact False.elim w1
  · have hlen : ((bs.mergeSort (PySem.W.dataLe false fun b => .int b.2)).map (·.1)).length ≤ sizeLine := by rw [List.length_map, (List.mergeSort_perm _ _).length_eq]; exact hzb
    exact ⟨.ref _, _, I2.laid (t' := tk) (o := .lst ((bs.mergeSort (PySem.W.dataLe false fun b => .int b.2)).map (·.1))) hk2 (Nat.le_succ _) ⟨hlen, out, c, vals_of_each ho, hat⟩, rfl, q _ (I2.hok.fresh (Nat.le_succ _))⟩
end

/-! ### generator expressions whose element is read in full: the element may call, make and walk what it likes -/
section
open PySem.Spec PyProof.Rows GenW
/-- the context of a generator expression's element; B: the around of its frame -/
abbrev gxCx (X : Cx) (B : Around) (s : Shared) (H : Hp) (cenv : Env) (ys : List Str) (fp : List Addr) (pn : List (Addr × Obj)) : Cx :=
  { X with A := B, N := X.N ++ ys, s_0 := s, H_0 := H, env := cenv, outer := X.stack, stack := cenv :: X.stack, ex := fp, fn := fun _ => false, calm := true, pn := pn, xe := fun _ _ => False }
/-- the names of a generator expression's scope: its own are new, the others captured -/
structure GxOk (N : List Str) (sc scope : Scope) (own : List (Str × Nat)) : Prop where
  kind : scope.kind = .function
  co : scope.isCoroutine = false
  cell : ∀ y ∈ scope.names, y.2 ≠ .cell
  dot : scope.names.lookup (".0" : Str) = some NameKind.local
  free : ∀ y ∈ scope.names, y.2 = .free → sc.names.lookup y.1 = some .cell ∨ sc.names.lookup y.1 = some .free
  ix : ∀ p ∈ own, N[p.2]? = some p.1
  own : ∀ y ∈ scope.names, y.2 = .local → y.1 ∈ own.map (·.1) ∨ y.1 ∉ N
def gxC (N : List Str) (sc scope : Scope) (own : List (Str × Nat)) : Bool :=
  (match scope.kind with | .function => true | _ => false) && !scope.isCoroutine && decide (scope.names.lookup (".0" : Str) = some NameKind.local) && (own.all fun p => decide (N[p.2]? = some p.1)) &&
    (scope.names.all fun y => match y.2 with
      | .free => (match sc.names.lookup y.1 with | some .cell => true | some .free => true | _ => false)
      | .local => decide (y.1 ∈ own.map (·.1)) || decide (y.1 ∉ N)
      | .cell => false
      | _ => true)
theorem gxOk_by {N : List Str} {sc scope : Scope} {own : List (Str × Nat)} (h : gxC N sc scope own = true) : GxOk N sc scope own := by
  unfold gxC at h
  simp only [Bool.and_eq_true, List.all_eq_true, decide_eq_true_eq, Bool.not_eq_true'] at h
  obtain ⟨⟨⟨⟨h1, h2⟩, h3⟩, h5⟩, h4⟩ := h
  refine ⟨?_, h2, fun y hy e => ?_, h3, fun y hy e => ?_, h5, fun y hy e => ?_⟩
  · split at h1
    · assumption
    · cases h1
  · have q := h4 y hy
    simp only [e] at q
    cases q
  · have q := h4 y hy
    simp only [e] at q
    split at q <;> first | exact .inl (by assumption) | exact .inr (by assumption) | cases q
  · have q := h4 y hy
    simp only [e, Bool.or_eq_true, decide_eq_true_eq] at q
    exact q
variable {X : Cx} {pins : List (Addr × Obj)} {σ : L2.St} {H : Hp} {s : Shared}
theorem over_gen {A : Around} {elt : Expr} {gs : List Comprehension} {scope : Scope} {pos : Pos} {it acc : Value} {cenv : Env} : A.over (.compLoop (.GeneratorExp elt gs scope pos) 0 it acc cenv) [] = A.deeper cenv := by
  first
    | rfl
    | (obtain ⟨hd, d, fr, gs, u⟩ := A; simp [Around.over, Around.deeper, marksOver, frameCount, unitsOf, envsOf, guardsOf, pushEnvs, pushGuards, Code.envs, Code.env?, Code.isFrame, Code.guards, Code.isGuard, Code.weight, Code.frames, Code.isCreation, Code.isCaller, Code.cUnits])
theorem gx_start {scope : Scope} {ys : List Str} {fp : List Addr} {B : Around} {C a bi : Addr} {code : Value} {go : Obj} {m : Str → Option Value} {H' : Hp} {s' : Shared} {own : List (Str × Nat)} {vs : List Nat} (I : Inv X pins σ H s) (ok : GxOk X.N X.env.scope scope own) (hN : X.N.Nodup) (hvs : ∀ p ∈ own, p.2 ∈ vs)
    (hbi : bi = builtinsNs) (hB : B.handled = none) (hfr : B.frames = some (genEnv scope (cloFrom X.env.cells scope.names []) C code bi X.env :: X.stack)) (hfp : ∀ b ∈ fp, FpOk X pins H b ∧ b < s.heap.objs.size)
    (hos : s'.os = s.os) (hg : AllBare s'.gens) (un : Un (frs X.stack) fp H H' s.heap s'.heap) (hok : HOk X.prog X.w H' s'.heap) (hC : s.heap.objs.size ≤ C) (hCn : H' C = none) (hns : s'.heap.Ns C m)
    (ha : s'.heap.get? a = some go) (ha0 : s.heap.objs.size ≤ a) (haC : a ≠ C) (haN : H' a = none) (hgo : ∀ v, go.data ≠ .cell v) (hkc : ∀ c v, s.heap.IsCell c v → H c = none → c ∉ fp → s'.heap.IsCell c v) :
    Inv (gxCx X B s H (genEnv scope (cloFrom X.env.cells scope.names []) C code bi X.env) ys fp [(a, go)]) [] (wipe (σ ++ List.replicate ys.length none) vs) H' s' := by
  subst hbi
  have hfree : ∀ y ∈ scope.names, y.2 = .free → ∃ c, X.env.cells.lookup y.1 = some c := fun y hy e => by
    rcases ok.free y hy e with k | k
    · exact I.ok.has _ (.inl k)
    · exact I.ok.has _ (.inr k)
  have cm : ∀ {y c}, (y, c) ∈ cloFrom X.env.cells scope.names [] → X.env.cells.lookup y = some c ∧ c < s.heap.objs.size := fun {y c} hm => by
    rcases cloFrom_mem hm with hm | ⟨h1, rfl⟩
    · cases hm
    · obtain ⟨c, hc⟩ := hfree _ h1 rfl
      rw [hc]
      obtain ⟨w, z⟩ := I.cell _ _ hc
      exact ⟨rfl, z.lt⟩
  have look : ∀ {y}, scope.names.lookup y = some .free → ∃ c, (cloFrom X.env.cells scope.names []).lookup y = some c ∧ X.env.cells.lookup y = some c := fun {y} hl => by
    obtain ⟨c', e'⟩ := mem_lookup (cloFrom_has (cells := X.env.cells) (acc := []) (PySem.mem_of_lookup hl))
    exact ⟨c', e', (cm (PySem.mem_of_lookup e')).1⟩
  have cellK : ∀ {y c}, (cloFrom X.env.cells scope.names []).lookup y = some c → ∀ v, s.heap.IsCell c v → s'.heap.IsCell c v := fun {y c} e v z =>
    hkc c v z (I.freeC _ _ (cm (PySem.mem_of_lookup e)).1) fun hb => (hfp c hb).1.2.2.2.2.1 _ _ (cm (PySem.mem_of_lookup e)).1 rfl
  have okB : (gxCx X B s H (genEnv scope (cloFrom X.env.cells scope.names []) C code builtinsNs X.env) ys fp [(a, go)]).Ok := by
    refine ⟨I.ok.mod, ok.kind, I.ok.glob, rfl, hC, fun y z c e1 e2 => I.ok.inj y z c (cm (PySem.mem_of_lookup e1)).1 (cm (PySem.mem_of_lookup e2)).1, fun y hy => ?_, fun y c z e => absurd z (by simp), fun _ => hB, hfr, .inr ⟨rfl, rfl⟩,
      fun b hb => ⟨Nat.ne_of_lt (Nat.lt_of_lt_of_le (hfp b hb).2 hC), fun y c e z => (hfp b hb).1.2.2.2.2.1 y c (cm (PySem.mem_of_lookup e)).1 z⟩, I.bs, Nat.le_trans I.ok.bsz I.sz, fun b o e hb => ?_, fun b hb z => ?_, I.stack, I.stkFree⟩
    · rcases hy with hy | hy
      · exact absurd rfl (ok.cell _ (PySem.mem_of_lookup (show scope.names.lookup y = some .cell from hy)))
      · obtain ⟨c, h1, _⟩ := look (show scope.names.lookup y = some .free from hy)
        exact ⟨c, h1⟩
    · rcases (hfp b hb).1.2.2.2.1 with z | z
      · exact I.ok.noex b o e z
      · exact absurd (Nat.lt_of_lt_of_le (Heap.lt_size e) (Nat.le_trans I.ok.bsz z)) (Nat.lt_irrefl _)
    · rcases List.mem_cons.mp (I.stkSub b z) with z | z
      · exact (hfp b hb).1.2.1 z
      · exact (hfp b hb).1.2.2.1 z
  refine ⟨okB, hos, hg, un, ⟨m, hns, fun i y v e1 e2 e3 => ?_⟩, fun y c e => ?_, hCn, fun y c e => ?_, fun p hp => ?_, hok, ?_⟩
  · obtain ⟨e2, hiv⟩ := wipe_some e2
    have hi : i < σ.length := by
      by_cases hi : i < σ.length
      · exact hi
      · rw [List.getElem?_append_right (by omega), List.getElem?_replicate] at e2
        split at e2 <;> cases e2
    rw [List.getElem?_append_left hi] at e2
    have e1 : (X.N ++ ys)[i]? = some y := e1
    rw [List.getElem?_append_left (by rw [← I.len]; exact hi)] at e1
    have hfr' : scope.names.lookup y = some .free := by
      rcases (show Vis scope y from e3) with e | e | e
      · rcases ok.own _ (PySem.mem_of_lookup e) rfl with z | z
        · obtain ⟨p, hp, hpy⟩ := List.mem_map.mp z
          have e4 := ok.ix p hp
          rw [show p.1 = y from hpy] at e4
          rw [nodup_ix hN e1 e4] at hiv
          exact absurd (hvs p hp) hiv
        · exact absurd (List.mem_of_getElem? e1) z
      · exact absurd rfl (ok.cell _ (PySem.mem_of_lookup e))
      · exact e
    obtain ⟨m0, hn, hl⟩ := I.loc
    have hvis : Vis X.env.scope y := (ok.free _ (PySem.mem_of_lookup hfr') rfl).elim (fun k => .inr (.inl k)) (fun k => .inr (.inr k))
    obtain ⟨u, r, q⟩ := hl i y v e1 e2 hvis
    refine ⟨u, r, .inr ⟨.inr hfr', ?_⟩⟩
    obtain ⟨c, h1, h2⟩ := look hfr'
    rcases q with ⟨k, _⟩ | ⟨_, c', e', z⟩
    · have k : X.env.scope.names.lookup y = some .local := k
      rcases ok.free _ (PySem.mem_of_lookup hfr') rfl with k' | k' <;> rw [show X.env.scope.names.lookup y = _ from k'] at k <;> cases k
    · rw [h2] at e'
      cases e'
      exact ⟨c, h1, cellK h1 _ z⟩
  · obtain ⟨v, z⟩ := I.cell _ _ (cm (PySem.mem_of_lookup e)).1
    exact ⟨v, cellK e v z⟩
  · have h1 := (cm (PySem.mem_of_lookup e)).1
    obtain ⟨v, z⟩ := I.cell _ _ h1
    obtain ⟨oc, hoc, _⟩ := z
    exact un.free c oc hoc (I.freeC _ _ h1) fun hb => (hfp c hb).1.2.2.2.2.1 _ _ h1 rfl
  · have e : p = (a, go) := by
      have q : p ∈ [(a, go)] ++ ([] : List (Addr × Obj)) := hp
      simpa using q
    subst e
    refine ⟨ha, haN, haC, fun z => ?_, hgo⟩
    have := I.stack.mem z
    obtain ⟨_, o, ho, _⟩ := this
    exact absurd (Nat.lt_of_lt_of_le (Heap.lt_size ho) ha0) (Nat.lt_irrefl _)
  · show _ = (X.N ++ ys).length
    rw [wipe_length, List.length_append, List.length_append, List.length_replicate, I.len]
end
/-! the walk of a generator expression that hands out bools -/
section
open PySem.Spec PyProof.Rows GenW
/-- the end of the generator's run: nothing is left -/
def gxR (X' : Cx) (σ : L2.St) (Fi : Hp → Prop) : GenEnd := fun _ _ r s1 => r = .ok .next ∧ ∃ H', Inv X' [] σ H' s1 ∧ Fi H'
/-- a bool is handed out; c: the bool that stops the walk -/
def gxY (X' : Cx) (σ : L2.St) (c : Bool) (Fl : Hp → Prop) : Protocol := fun _ _ v s kap =>
  ∃ (b : Bool) (H' : Hp), v = .bool b ∧ Inv X' [] σ H' s ∧ (b = c → Fl H') ∧ (b = !c → ∀ s'' : Shared, s''.heap = s.heap → s''.os = s.os → AllBare s''.gens → kap (.send .none) s'')
/-- another state with the same heap -/
theorem inv_same {X' : Cx} {pins : List (Addr × Obj)} {σ : L2.St} {H : Hp} {s s' : Shared} (I : Inv X' pins σ H s) (h : s'.heap = s.heap) (o : s'.os = s.os) (g : AllBare s'.gens) : Inv X' pins σ H s' := by
  refine I.call' (ch := []) o ?_ (by rw [h]; exact I.hok) g (fun b z => absurd z (by simp))
  rw [h]
  exact Un.refl
/-- a turn of the walk: W by the turn and a measure -/
def GxTurn (J : It) (g : TG) (te : TE) (σ : L2.St) (vs : List Nat) (c : Bool) (Fi Fl : Hp → Prop) (W : Nat → Nat → Hp → Prop) : Prop := ∀ i m H, W i m H →
  (J.stop i H ∧ Fi H) ∨ (J.go i H ∧ ∃ Nx : Hp → Prop, (∀ H', Nx H' → ∃ m', m' < m ∧ W (i + 1) m' H') ∧ ∀ x H', J.yld i H x H' → g x σ H' fun σ2 H2 => wipe σ2 vs = σ ∧ te σ2 H2 fun y H3 => ∃ b, y = .bl b ∧ (b = c → Fl H3) ∧ (b = !c → Nx H3))
section
variable {X' : Cx} {B0 : Around} {σ : L2.St} {vs : List Nat} {c : Bool} {Fi Fl : Hp → Prop} {W : Nat → Nat → Hp → Prop} {elt tg iter : Expr} {scope : Scope} {pos : Pos} {it : Addr} {fp : List Addr} {tn : Nat → Heap → Prop} {J : It} {g : TG} {te : TE} {k : Nat}
theorem weak_wipe {vs : List Nat} {pins : List (Addr × Obj)} {σ2 : L2.St} {H : Hp} {s : Shared} (hl : σ.length = X'.N.length) (I : Inv X' pins σ2 H s) (h : wipe σ2 vs = σ) : Inv X' pins σ H s := by
  refine I.weak (hl.trans I.len.symm) fun j v e => ?_
  rw [← h] at e
  exact (wipe_some e).1
theorem seg_gx (hA : X'.A = B0.over (.compLoop (.GeneratorExp elt [⟨tg, iter, [], 0⟩] scope pos) 0 (.ref it) .none X'.env) []) (hco : X'.env.scope.isCoroutine = false) (hcalm : X'.calm = true) (hxe : X'.xe = fun _ _ => False) (hex : X'.ex = fp)
    (hpn : ∀ p ∈ X'.pn, ∀ b ∈ fp, p.1 ≠ b) (T : Turn X'.prog X'.w X'.K tg J fp it tn) (hg : PG X' tg g) (he : PE X' elt te) (hl : σ.length = X'.N.length) (turn : GxTurn J g te σ vs c Fi Fl W) :
    ∀ (n i m : Nat) (s₀ s : Shared) (H : Hp), m < n → Inv X' [] σ H s → tn i s.heap → (∀ b ∈ fp, H b = none) → W i m H →
      Seg (model X'.prog X'.w) B0 (gxR X' σ Fi) (gxY X' σ c Fl) n s₀ (.compLoop (.GeneratorExp elt [⟨tg, iter, [], 0⟩] scope pos) 0 (.ref it) .none X'.env)
        ((model X'.prog X'.w).den (.compLoop (.GeneratorExp elt [⟨tg, iter, [], 0⟩] scope pos) 0 (.ref it) .none X'.env)) [] s := by
  have stat : ∀ {σ' : L2.St} {H' : Hp} {s' : Shared}, Inv X' [] σ' H' s' → (∀ b ∈ fp, H' b = none) → ∀ b ∈ fp, FpOk X' [] H' b := fun {σ' H' s'} I' hn b hb => by
    have hb' : b ∈ X'.ex := by rw [hex]; exact hb
    exact ⟨hn b hb, (I'.ok.exf b hb').1, I'.ok.exfs b hb', .inl hb', fun x c e => (I'.ok.exf b hb').2 x c e, fun p hp => hpn p (by simpa using hp) b hb⟩
  have noE : ∀ {e : Value} {s : Shared} {G : Prop}, X'.xe e s → G := fun {e s G} h => by rw [hxe] at h; exact h.elim
  intro n
  induction n with
  | zero => intro i m s₀ s H hm; omega
  | succ n ih =>
    intro i m s₀ s H hm I st hn w
    show Seg _ B0 _ _ _ s₀ _ ((compTurn (.GeneratorExp elt [⟨tg, iter, [], 0⟩] scope pos) 0 (.ref it) .none X'.env).onRaise (leaving X'.env)) [] s
    rw [compTurn_gen, Sem.onRaise_eq_wrap]
    refine seg_bind_wrap (wpAny_standAt ?_)
    rcases turn i m H w with ⟨stop, fi⟩ | ⟨go, Nx, hNx, step⟩
    · have q := T.done X' rfl rfl rfl hcalm i [] s σ H (fun _ _ => False) I (stat I hn) st stop
      rw [hA] at q
      refine seg_bind_wrap (wpAny_mono q (fun r s6 h6 => ?_) fun _ _ e => e.elim)
      obtain ⟨hr, I6⟩ := h6
      subst hr
      exact seg_end (.ok .next) ⟨rfl, H, I6, fi⟩
    · have q := T.item X' rfl rfl rfl hcalm i [] s σ H (fun _ _ => False) I (stat I hn) st go
      rw [hA] at q
      refine seg_bind_wrap (wpAny_mono q (fun r s6 h6 => ?_) fun _ _ e => e.elim)
      obtain ⟨u, hr, h6⟩ := h6
      subst hr
      refine seg_bind_wrap (wpAny_mono h6 (fun _ s7 h7 => ?_) fun _ _ e => e.elim)
      obtain ⟨x, H7, I7, r7, y7, st7, n7⟩ := h7
      have I7' := I7.pinned (stat I7 n7) (T.obj _ _ st7)
      have q2 := hg.run _ s7 σ H7 x u _ I7' r7 (step x H7 y7)
      rw [hA] at q2
      refine seg_bind_wrap (wpAny_mono q2 (fun _ s8 h8 => ?_) fun _ _ e => noE e)
      obtain ⟨σ8, H8, I8, hw8, q8⟩ := h8
      refine seg_bind_wrap (wpAny_pure ?_)
      simp only [if_true]
      have hy : ∀ v, yieldOut X'.env v = yieldValue v := fun v => by simp only [yieldOut, hco, Bool.false_eq_true, if_false]
      simp only [hy]
      rw [Sem.bind_eq_wrap', Sem.bind_eq_wrap', Sem.wrap_wrap, Sem.wrap_wrap]
      have q3 := he.run _ s8 σ8 H8 _ I8 q8
      rw [hA] at q3
      refine seg_wrap (wpAny_mono q3 (fun z s10 h10 => ?_) fun _ _ e => noE e)
      obtain ⟨yv, H10, I10, r10, b, rfl, hfl, hnx⟩ := h10
      cases r10
      have pin' : ∀ b ∈ fp, ∀ o, s7.heap.get? b = some o → s10.heap.get? b = some o ∧ H10 b = none := fun b hb o e =>
        let z := I10.pin (b, o) (List.mem_append_right _ (List.mem_append_right _ (mem_pinsAt hb e)))
        ⟨z.1, z.2.1⟩
      have I11 : Inv X' [] σ H10 s10 := weak_wipe hl (I10.unpinned (pins := [])) hw8
      have n11 : ∀ b ∈ fp, H10 b = none := fun b hb => by
        obtain ⟨o, e, _⟩ := T.obj _ _ st7 b hb
        exact (pin' b hb o e).2
      have st11 : tn (i + 1) s10.heap := T.keep _ _ _ st7 fun b hb o e => (pin' b hb o e).1
      refine seg_at (seg_yield rfl rfl rfl ⟨b, H10, rfl, I11, hfl, fun hb s'' eh eo eb => ?_⟩)
      obtain ⟨m', hm', w'⟩ := hNx H10 (hnx hb)
      exact seg_again rfl (ih (i + 1) m' s'' s'' H10 (by omega) (inv_same I11 eh eo eb) (by rw [eh]; exact st11) n11 w')
end
end
section
open PySem.Spec PyProof.Rows GenW
section
variable {X' : Cx} {A : Around} {σ : L2.St} {c : Bool} {Fi Fl : Hp → Prop} {R : Result → Shared → Prop} {a : Addr} {g : Nat} {go : Obj}
/-- one draw -/
theorem gx_next (hh : A.handled = none) (hd : A.depth < recursionLimit) (hgen : ∀ h : Heap, h.get? a = some go → h.IsGen a g) {n : Nat} {s : Shared} {Q : Option Value → Shared → Prop} {E : Value → Shared → Prop} (hg : s.heap.IsGen a g) (hl : s.heap.NoLimit)
    (hpn : (a, go) ∈ X'.pn)
    (hgs : ∃ gs, s.gens[g]? = some gs ∧ gs.Goes (model X'.prog X'.w) A.in1 (gxR X' σ Fi) (gxY X' σ c Fl) n (.send .none) (s.setGen g .running))
    (hend : ∀ s' H', Inv X' [] σ H' s' → Fi H' → Q none s')
    (hstop : ∀ s' H', Inv X' [] σ H' s' → Fl H' → Q (some (.bool c)) s')
    (hgoes : ∀ s' H' m, n = m + 1 → Inv X' [] σ H' s' → (∃ gs, s'.gens[g]? = some gs ∧ gs.Goes (model X'.prog X'.w) A.in1 (gxR X' σ Fi) (gxY X' σ c Fl) m (.send .none) (s'.setGen g .running)) → Q (some (.bool (!c))) s') :
    wpAny (model X'.prog X'.w) A (pyNext (.ref a)) Q E s := by
  obtain ⟨gs, hgs, hgo⟩ := hgs
  have hgl : g < s.gens.size := (Array.getElem?_eq_some_iff.mp hgs).1
  refine wpAny_gsz (n := g + 1) hgl (wpAny_pyNext_genexpQ (P := fun _ _ s1 => ∃ H', Inv X' [] σ H' s1 ∧ Fi H') (Y := gxY X' σ c Fl) (n := n) hh hl hd hg hgs hgo (fun v s₁ gs' hbare hv => ?_) fun s₁ hp h' hk => ?_)
  · intro hsz
    obtain ⟨b, H', rfl, I, hfl, hkap⟩ := hv
    have hsz1 : g < s₁.gens.size := by
      have q : (s₁.setGen g gs').gens.size = s₁.gens.size := setGen_size _ _ _
      have hsz' : g + 1 ≤ (s₁.setGen g gs').gens.size := hsz
      omega
    have I2 : Inv X' [] σ H' (s₁.setGen g gs') := inv_same I rfl rfl (allBare_setGen I.bare hbare)
    by_cases hb : b = c
    · subst hb
      exact hstop _ H' I2 (hfl rfl)
    · have hb' : b = !c := by revert hb; cases b <;> cases c <;> decide
      subst hb'
      have hk := hkap rfl ((s₁.setGen g gs').setGen g .running) rfl rfl (allBare_setGen (allBare_setGen I.bare hbare) rfl)
      cases n with
      | zero => exact hk.elim
      | succ m => exact hgoes _ H' m rfl I2 ⟨gs', setGen_at hsz1, hk⟩
  · intro hsz
    obtain ⟨H', I, fi⟩ := hp
    refine hend _ H' (I.call' (ch := []) (s' := { s₁.setGen g .finished with heap := h' }) rfl (Un.kept hk) (I.hok.kept hk) (allBare_setGen I.bare rfl) fun b z => absurd z (by simp)) fi
theorem gx_all (hh : A.handled = none) (hd : A.depth < recursionLimit) (hgen : ∀ h : Heap, h.get? a = some go → h.IsGen a g) (hpn : (a, go) ∈ X'.pn) (hc : c = false)
    (hend : ∀ s' H', Inv X' [] σ H' s' → Fi H' → R (.ok (.ret (.bool true))) s') (hstop : ∀ s' H', Inv X' [] σ H' s' → Fl H' → R (.ok (.ret (.bool false))) s') :
    ∀ (n : Nat) (s : Shared), s.heap.IsGen a g → s.heap.NoLimit →
      (∃ gs, s.gens[g]? = some gs ∧ gs.Goes (model X'.prog X'.w) A.in1.in1 (gxR X' σ Fi) (gxY X' σ c Fl) n (.send .none) (s.setGen g .running)) →
      codeAny (model X'.prog X'.w) A (.builtin "all.loop" ⟨[.ref a], []⟩) R s := by
  subst hc
  have loop : ∀ (n : Nat) (s : Shared), s.heap.IsGen a g → s.heap.NoLimit →
      (∃ gs, s.gens[g]? = some gs ∧ gs.Goes (model X'.prog X'.w) A.in1.in1 (gxR X' σ Fi) (gxY X' σ false Fl) n (.send .none) (s.setGen g .running)) →
      (∀ s' H' m, n = m + 1 → Inv X' [] σ H' s' → (∃ gs, s'.gens[g]? = some gs ∧ gs.Goes (model X'.prog X'.w) A.in1.in1 (gxR X' σ Fi) (gxY X' σ false Fl) m (.send .none) (s'.setGen g .running)) → codeAny (model X'.prog X'.w) A (.builtin "all.loop" ⟨[.ref a], []⟩) R s') →
      codeAny (model X'.prog X'.w) A (.builtin "all.loop" ⟨[.ref a], []⟩) R s := by
    intro n s hg hl hgs hrec
    refine codeAny_builtin F.entry_all_loop ?_
    rw [Around.under_plainId F.plain_all_loop _]
    show wpAny _ A.in1 (pyNext (.ref a) >>= _) _ _ s
    refine wpAny_bind (gx_next (A := A.in1) hh hd hgen hg hl hpn hgs (fun s' H' I fi => ?_) (fun s' H' I fl => ?_) fun s' H' m hn I hgs' => ?_)
    · exact wpAny_bind (wpAny_rule (wpAny_pure (hend s' H' I fi)))
    · refine wpAny_bind (wpAny_holding (wpAny_truthy_bool ?_))
      refine wpAny_bind (wpAny_letGo ?_)
      simp only [Bool.false_eq_true, if_false]
      exact wpAny_bind (wpAny_rule (wpAny_pure (hstop s' H' I fl)))
    · refine wpAny_bind (wpAny_holding (wpAny_truthy_bool ?_))
      refine wpAny_bind (wpAny_letGo ?_)
      simp only [Bool.not_false, if_true]
      exact wpAny_pure ⟨plainId_quiet F.plain_all_loop _, hrec s' H' m hn I hgs'⟩
  intro n
  induction n with
  | zero => exact fun s hg hl hgs => loop 0 s hg hl hgs fun _ _ m hn => absurd hn (by omega)
  | succ n ih =>
    exact fun s hg hl hgs => loop (n + 1) s hg hl hgs fun s' H' m hn I hgs' => by
      obtain rfl : m = n := by omega
      exact ih s' (hgen _ (I.pin (a, go) (List.mem_append_left _ hpn)).1) I.nolimit hgs'
theorem gx_any (hh : A.handled = none) (hd : A.depth < recursionLimit) (hgen : ∀ h : Heap, h.get? a = some go → h.IsGen a g) (hpn : (a, go) ∈ X'.pn) (hc : c = true)
    (hend : ∀ s' H', Inv X' [] σ H' s' → Fi H' → R (.ok (.ret (.bool false))) s') (hstop : ∀ s' H', Inv X' [] σ H' s' → Fl H' → R (.ok (.ret (.bool true))) s') :
    ∀ (n : Nat) (s : Shared), s.heap.IsGen a g → s.heap.NoLimit →
      (∃ gs, s.gens[g]? = some gs ∧ gs.Goes (model X'.prog X'.w) A.in1.in1 (gxR X' σ Fi) (gxY X' σ c Fl) n (.send .none) (s.setGen g .running)) →
      codeAny (model X'.prog X'.w) A (.builtin "any.loop" ⟨[.ref a], []⟩) R s := by
  subst hc
  have loop : ∀ (n : Nat) (s : Shared), s.heap.IsGen a g → s.heap.NoLimit →
      (∃ gs, s.gens[g]? = some gs ∧ gs.Goes (model X'.prog X'.w) A.in1.in1 (gxR X' σ Fi) (gxY X' σ true Fl) n (.send .none) (s.setGen g .running)) →
      (∀ s' H' m, n = m + 1 → Inv X' [] σ H' s' → (∃ gs, s'.gens[g]? = some gs ∧ gs.Goes (model X'.prog X'.w) A.in1.in1 (gxR X' σ Fi) (gxY X' σ true Fl) m (.send .none) (s'.setGen g .running)) → codeAny (model X'.prog X'.w) A (.builtin "any.loop" ⟨[.ref a], []⟩) R s') →
      codeAny (model X'.prog X'.w) A (.builtin "any.loop" ⟨[.ref a], []⟩) R s := by
    intro n s hg hl hgs hrec
    refine codeAny_builtin F.entry_any_loop ?_
    rw [Around.under_plainId F.plain_any_loop _]
    show wpAny _ A.in1 (pyNext (.ref a) >>= _) _ _ s
    refine wpAny_bind (gx_next (A := A.in1) hh hd hgen hg hl hpn hgs (fun s' H' I fi => ?_) (fun s' H' I fl => ?_) fun s' H' m hn I hgs' => ?_)
    · exact wpAny_bind (wpAny_rule (wpAny_pure (hend s' H' I fi)))
    · refine wpAny_bind (wpAny_holding (wpAny_truthy_bool ?_))
      refine wpAny_bind (wpAny_letGo ?_)
      simp only [if_true]
      exact wpAny_bind (wpAny_rule (wpAny_pure (hstop s' H' I fl)))
    · refine wpAny_bind (wpAny_holding (wpAny_truthy_bool ?_))
      refine wpAny_bind (wpAny_letGo ?_)
      simp only [Bool.not_true, Bool.false_eq_true, if_false]
      exact wpAny_pure ⟨plainId_quiet F.plain_any_loop _, hrec s' H' m hn I hgs'⟩
  intro n
  induction n with
  | zero => exact fun s hg hl hgs => loop 0 s hg hl hgs fun _ _ m hn => absurd hn (by omega)
  | succ n ih =>
    exact fun s hg hl hgs => loop (n + 1) s hg hl hgs fun s' H' m hn I hgs' => by
      obtain rfl : m = n := by omega
      exact ih s' (hgen _ (I.pin (a, go) (List.mem_append_left _ hpn)).1) I.nolimit hgs'
end
end
section
open PySem.Spec PyProof.Rows GenW
section
variable {X : Cx} {pins : List (Addr × Obj)} {σ : L2.St} {H : Hp} {s : Shared}
theorem un_tab {fs ex : List Addr} {H : Hp} {T : Addr} {ps more : Array Value} {h h' : Heap} (hT : H T = some (.tbl ps)) (k : ∀ b o, b ≠ T → h.get? b = some o → h'.get? b = some o) (hm : ∃ o, h'.get? T = some o) :
    Un fs ex H (upd H T (.tbl (ps ++ more))) h h' := by
  have nN : ∀ b, H b = none → b ≠ T := fun b e z => by rw [z, hT] at e; cases e
  have nP : ∀ b u, H b = some u → (∀ q, u ≠ .tbl q) → b ≠ T := fun b u e q z => by
    rw [z, hT] at e
    exact q ps (Option.some.inj e).symm
  refine ⟨fun b o e n _ _ => k b o (nN b n) e, fun b o e n _ _ => ⟨o.slots, k b o (nN b n) e⟩, fun b o _ n _ => by rw [upd_ne (nN b n)]; exact n, fun b o e _ => ?_, fun b xs e => by rw [upd_ne (nP b _ e fun q z => by cases z)]; exact e, fun b o u e => by rw [upd_ne (nP b _ e fun q z => by cases z)]; exact e, fun b qs e => ?_⟩
  · by_cases hb : b = T
    · rw [hb]; exact hm
    · exact ⟨o, k b o hb e⟩
  · by_cases hb : b = T
    · rw [hb, hT] at e
      cases e
      rw [hb, upd_same]
      exact ⟨more, rfl⟩
    · rw [upd_ne hb, e]
      exact ⟨#[], by simp⟩
theorem gx_gen {c0 T : Addr} {elt tg iter : Expr} {gpos : Pos} {scope : Scope} {ys : List Str} {wi : TI} {g : TG} {te : TE} {k : Nat} {own : List (Str × Nat)} {vs : List Nat} {cb : Bool} {Fi Fl : Hp → Prop} {Q' : Value → Shared → Prop} (hN : X.N.Nodup) (hvs : ∀ p ∈ own, p.2 ∈ vs)
    (hr : Room (k + 2) X.A) (TB : GxR.TabB X.base X.mg c0 T) (hcode : X.env.code = .ref c0) (ok : GxOk X.N X.env.scope scope own) (hi : PI X tg iter wi)
    (hg : ∀ (B : Around) (s : Shared) (H : Hp) (C : Addr) (cl : List (Str × Addr)) (code : Value) (fp : List Addr) (pn : List (Addr × Obj)), Room k B → PG (gxCx X B s H (genEnv scope cl C code builtinsNs X.env) ys fp pn) tg g)
    (he : ∀ (B : Around) (s : Shared) (H : Hp) (C : Addr) (cl : List (Str × Addr)) (code : Value) (fp : List Addr) (pn : List (Addr × Obj)), Room k B → PE (gxCx X B s H (genEnv scope cl C code builtinsNs X.env) ys fp pn) elt te)
    (hs : ∀ v, genFold iter X.env v = pure v) (I : Inv X pins σ H s)
    (h : wi σ H fun J H1 => GxR.TabG H1 T ∧ ∀ H1', GxR.Tabbed T H1 H1' → ∃ W : Nat → Nat → Hp → Prop, (∃ m, W 0 m H1') ∧ GxTurn J g te (wipe (σ ++ List.replicate ys.length none) vs) vs cb Fi Fl W)
    (hQ' : ∀ (B : Around) (s2 : Shared) (H2 : Hp) (cenv : Env) (fp : List Addr) (a : Addr) (gn : Nat) (go : Obj) (n : Nat) (s5 : Shared), (∀ h : Heap, h.get? a = some go → h.IsGen a gn) → s5.heap.IsGen a gn → s5.heap.NoLimit →
      (∃ gs, s5.gens[gn]? = some gs ∧ gs.Goes (model X.prog X.w) X.A.in1.in1 (gxR (gxCx X B s2 H2 cenv ys fp [(a, go)]) (wipe (σ ++ List.replicate ys.length none) vs) Fi) (gxY (gxCx X B s2 H2 cenv ys fp [(a, go)]) (wipe (σ ++ List.replicate ys.length none) vs) cb Fl) n (.send .none) (s5.setGen gn .running)) →
      (∀ s' H', Inv (gxCx X B s2 H2 cenv ys fp [(a, go)]) [] (wipe (σ ++ List.replicate ys.length none) vs) H' s' → Inv X pins σ H' s') → Q' (.ref a) s5) :
    wpAny (model X.prog X.w) X.A (eval (.GeneratorExp elt [⟨tg, iter, [], 0⟩] scope gpos) X.env) Q' X.xe s := by
  have hfree : ∀ y ∈ scope.names, y.2 = .free → ∃ c, X.env.cells.lookup y.1 = some c := fun y hy e => by
    rcases ok.free y hy e with k | k
    · exact I.ok.has _ (.inl k)
    · exact I.ok.has _ (.inr k)
  refine wpAny_GeneratorExp_make ok.co (closure_ok hfree) ok.cell ok.dot ok.kind hr.depth ?_ hs
  refine thn (hi.run pins s σ H _ I h) fun xv t1 h1 => thn h1 fun itv s2 h2 => ?_
  obtain ⟨it, fp, tn, J, H2, rfl, I2, Tn, st2, f2, ⟨ps, hT, htri⟩, hq⟩ := h2
  refine ⟨I2.nolimit, ?_⟩
  have tT : s2.heap.get? T = some { cls := .none, data := .fields ps } := I2.hok T _ hT
  have lT : T < s2.heap.objs.size := Heap.lt_size tT
  have cd : PySem.W.CodeHd s2.heap c0 T := TB.code.keeps fun b u e => I2.bk b u e
  have szf : ∀ b ∈ fp, b < s2.heap.objs.size := fun b hb => by
    obtain ⟨o, e, _⟩ := Tn.obj _ _ st2 b hb
    exact Heap.lt_size e
  have run : ∀ (code : Value) (h3 : Heap) (tk : Nat) (ps' : Array Value), Heap.ExtBut T s2.heap h3 → s2.heap.objs.size ≤ h3.objs.size → h3.get? T = some { cls := .none, data := .fields ps' } → (∃ more, ps' = ps ++ more) → TriplesOk ps'.toList →
      wpAny (model X.prog X.w) X.A (builtinsFor X.env.globals X.env.builtins) (fun bi s₄ =>
        ∀ h', h'.Ns s₄.heap.objs.size (fun y => if y = ".0" then some (Value.ref it) else none) → Heap.SameBut s₄.heap.objs.size (s₄.heap.push { cls := .type "frame", data := .dict #[] }) h' →
          Q' (.ref h'.objs.size) { s₄ with
            gens := s₄.gens.push (.fresh (.compStart (.GeneratorExp elt [⟨tg, iter, [], 0⟩] scope gpos) 0 (.ref it) .none (genEnv scope (cloFrom X.env.cells scope.names []) s₄.heap.objs.size code bi X.env))),
            toks := s₄.toks + 1 + 1 + 1,
            heap := h'.push { cls := .type "generator", data := .fields #[.int s₄.gens.size 0, .str "<genexpr>" (s₄.toks + 1), .str (X.env.qual ++ "<genexpr>") (s₄.toks + 1 + 1)] } }) X.xe { s2 with heap := h3, toks := tk } := by
    intro code h3 tk ps' hx hsz hT3 hmore ht3
    obtain ⟨bm, ob, e1, e2, e3, e4, e5, e6, e7, e8⟩ := TB.bm
    have up3 : ∀ b u, b ≠ T → s2.heap.get? b = some u → h3.get? b = some u := fun b u hb e => hx b u hb e
    refine wpAny_builtinsFor (m := X.mg) (by rw [I2.ok.glob]; exact (I2.mod.glob.keeps I2.bk).extBut hx TB.gP) e1 e2 (up3 _ _ e4 (I2.bk _ _ e5)) e6 e7 e8 ?_
    intro h' hns hsb
    replace hns : h'.Ns h3.objs.size (fun y => if y = ".0" then some (Value.ref it) else none) := hns
    replace hsb : Heap.SameBut h3.objs.size (h3.push { cls := .type "frame", data := .dict #[] }) h' := hsb
    obtain ⟨more, rfl⟩ := hmore
    have hCa : (h3.objs.size : Nat) < h'.objs.size := hns.lt
    have up5 : ∀ b u, h3.get? b = some u → h'.get? b = some u := fun b u e => hsb.extBut b u (Nat.ne_of_lt (Heap.lt_size e)) (Heap.get?_push_of_some _ e)
    obtain ⟨go, hgo⟩ : ∃ go : Obj, go = { cls := .type "generator", data := .fields #[.int s2.gens.size 0, .str "<genexpr>" (tk + 1), .str (X.env.qual ++ "<genexpr>") (tk + 1 + 1)] } := ⟨_, rfl⟩
    have up : ∀ b u, b ≠ T → s2.heap.get? b = some u → (h'.push go).get? b = some u := fun b u hb e => Heap.get?_push_of_some _ (up5 b u (up3 b u hb e))
    have tT5 : (h'.push go).get? T = some { cls := .none, data := .fields (ps ++ more) } := Heap.get?_push_of_some _ (up5 _ _ hT3)
    have nT : ∀ b, H2 b = none → b ≠ T := fun b e z => by rw [z, hT] at e; cases e
    have nT' : ∀ b : Addr, s2.heap.objs.size ≤ b → b ≠ T := fun b hb z => by rw [z] at hb; exact Nat.lt_irrefl _ (Nat.lt_of_lt_of_le lT hb)
    have hgen : ∀ h : Heap, h.get? h'.objs.size = some go → h.IsGen h'.objs.size s2.gens.size := fun h e => ⟨go, _, _, e, by rw [hgo], by rw [hgo], by rw [hgo]⟩
    have hpush : (h'.push go).get? h'.objs.size = some go := Heap.get?_push_size _ (by rw [hgo]; rfl)
    have bare5 : AllBare (s2.gens.push (.fresh (.compStart (.GeneratorExp elt [⟨tg, iter, [], 0⟩] scope gpos) 0 (.ref it) .none (genEnv scope (cloFrom X.env.cells scope.names []) h3.objs.size code builtinsNs X.env)))) := AllBare.push I2.bare rfl
    have J5 := GxR.inv_tab (more := more) (h' := h'.push go) (g' := s2.gens.push (.fresh (.compStart (.GeneratorExp elt [⟨tg, iter, [], 0⟩] scope gpos) 0 (.ref it) .none (genEnv scope (cloFrom X.env.cells scope.names []) h3.objs.size code builtinsNs X.env)))) (d' := s2.drawn) (t' := tk + 1 + 1 + 1) I2 hT up tT5 bare5
    have un5 : Un (frs X.stack) fp H2 (upd H2 T (.tbl (ps ++ more))) s2.heap (h'.push go) := un_tab hT up ⟨_, tT5⟩
    obtain ⟨W, ⟨m0, w0⟩, turn⟩ := hq _ (⟨⟨ps ++ more, upd_same, ht3⟩, fun b hb => upd_ne hb⟩ : GxR.Tabbed T H2 (upd H2 T (.tbl (ps ++ more))))
    have hCn : upd H2 T (.tbl (ps ++ more)) h3.objs.size = none := by rw [upd_ne (nT' _ hsz)]; exact I2.hok.fresh hsz
    have han : upd H2 T (.tbl (ps ++ more)) h'.objs.size = none := by
      have q : (s2.heap.objs.size : Nat) ≤ h'.objs.size := Nat.le_of_lt (Nat.lt_of_le_of_lt hsz hCa)
      rw [upd_ne (nT' _ q)]; exact I2.hok.fresh q
    have hfr : (X.A.in1.in1.over (.compLoop (.GeneratorExp elt [⟨tg, iter, [], 0⟩] scope gpos) 0 (.ref it) .none (genEnv scope (cloFrom X.env.cells scope.names []) h3.objs.size code builtinsNs X.env)) []).frames = some (genEnv scope (cloFrom X.env.cells scope.names []) h3.objs.size code builtinsNs X.env :: X.stack) := by
      rw [over_gen]
      exact Around.frames_deeper I2.ok.frames
    have rB : Room k (X.A.in1.in1.over (.compLoop (.GeneratorExp elt [⟨tg, iter, [], 0⟩] scope gpos) 0 (.ref it) .none (genEnv scope (cloFrom X.env.cells scope.names []) h3.objs.size code builtinsNs X.env)) []) := by
      rw [over_gen]
      refine ⟨hr.hd, ?_, ?_⟩
      · have := hr.dp; show X.A.depth + 1 + 3 * k + 5 < _; omega
      · have := hr.un; show X.A.units + 1 + 1 + 3 + 16 * k + 200 < _; omega
    generalize hB : X.A.in1.in1.over (.compLoop (.GeneratorExp elt [⟨tg, iter, [], 0⟩] scope gpos) 0 (.ref it) .none (genEnv scope (cloFrom X.env.cells scope.names []) h3.objs.size code builtinsNs X.env)) [] = B at hfr rB
    have I5 := gx_start (ys := ys) (B := B) (C := h3.objs.size) (a := h'.objs.size) (code := code) (go := go) (H' := upd H2 T (.tbl (ps ++ more)))
      (s' := { s2 with gens := s2.gens.push (.fresh (.compStart (.GeneratorExp elt [⟨tg, iter, [], 0⟩] scope gpos) 0 (.ref it) .none (genEnv scope (cloFrom X.env.cells scope.names []) h3.objs.size code builtinsNs X.env))), toks := tk + 1 + 1 + 1, heap := h'.push go })
      I2 ok hN hvs (rfl : builtinsNs = builtinsNs) rB.hd hfr (fun b hb => ⟨f2 b hb, szf b hb⟩) rfl bare5 un5 J5.hok hsz hCn (hns.keeps fun b o e => Heap.get?_push_of_some _ e) hpush
      (Nat.le_of_lt (Nat.lt_of_le_of_lt hsz hCa)) (Nat.ne_of_gt hCa) han (fun v q => by rw [hgo] at q; cases q) fun c v z hn _ => by
        obtain ⟨oc, hoc, r⟩ := z
        exact ⟨oc, up c oc (nT c hn) hoc, r⟩
    have n5 : ∀ b ∈ fp, upd H2 T (.tbl (ps ++ more)) b = none := fun b hb => by rw [upd_ne (nT b (f2 b hb).1)]; exact (f2 b hb).1
    have st5 : tn 0 (h'.push go) := Tn.keep _ _ _ st2 fun b hb o e => up b o (nT b (f2 b hb).1) e
    have hgo' : ({ cls := .type "generator", data := .fields #[.int (s2.gens.size : Nat) 0, .str "<genexpr>" (tk + 1), .str (X.env.qual ++ "<genexpr>") (tk + 1 + 1)] } : Obj) = go := hgo.symm
    show Q' (.ref h'.objs.size) { s2 with gens := s2.gens.push (.fresh (.compStart (.GeneratorExp elt [⟨tg, iter, [], 0⟩] scope gpos) 0 (.ref it) .none (genEnv scope (cloFrom X.env.cells scope.names []) h3.objs.size code builtinsNs X.env))), toks := tk + 1 + 1 + 1, heap := h'.push { cls := .type "generator", data := .fields #[.int s2.gens.size 0, .str "<genexpr>" (tk + 1), .str (X.env.qual ++ "<genexpr>") (tk + 1 + 1)] } }
    rw [← hgo]
    refine hQ' B s2 H2 (genEnv scope (cloFrom X.env.cells scope.names []) h3.objs.size code builtinsNs X.env) fp h'.objs.size s2.gens.size go (m0 + 1) _ hgen (hgen _ hpush) J5.nolimit ⟨_, Array.getElem?_push_size .., rfl, ?_⟩ fun s' H' I' =>
      I2.call' (ch := fp) I'.os I'.base I'.hok I'.bare fun b hb => ⟨(f2 b hb).2.2.2.1, (f2 b hb).2.1, (f2 b hb).2.2.2.2.1, (f2 b hb).2.2.2.2.2⟩
    have loop : ∀ s6 : Shared, s6.heap = h'.push go → s6.os = s2.os → AllBare s6.gens → Seg (model X.prog X.w) X.A.in1.in1 _ _ (m0 + 1) s6 (.compLoop (.GeneratorExp elt [⟨tg, iter, [], 0⟩] scope gpos) 0 (.ref it) .none (genEnv scope (cloFrom X.env.cells scope.names []) h3.objs.size code builtinsNs X.env)) _ [] s6 := fun s6 q1 q2 q3 =>
      seg_gx (X' := gxCx X B s2 H2 (genEnv scope (cloFrom X.env.cells scope.names []) h3.objs.size code builtinsNs X.env) ys fp [(h'.objs.size, go)]) (B0 := X.A.in1.in1) hB.symm ok.co rfl rfl rfl
        (fun p hp b hb => by
          rw [List.mem_singleton.mp hp]
          exact Nat.ne_of_gt (Nat.lt_trans (Nat.lt_of_lt_of_le (szf b hb) hsz) hCa))
        Tn (hg B s2 H2 _ _ code fp _ rB) (he B s2 H2 _ _ code fp _ rB)
        (by show _ = (X.N ++ ys).length; rw [wipe_length, List.length_append, List.length_append, List.length_replicate, I2.len]) turn (m0 + 1) 0 m0 s6 s6 _ (Nat.lt_succ_self _) (inv_same I5 q1 q2 q3) (by rw [q1]; exact st5) n5 w0
    have lp := loop (Shared.setGen { s2 with gens := s2.gens.push (.fresh (.compStart (.GeneratorExp elt [⟨tg, iter, [], 0⟩] scope gpos) 0 (.ref it) .none (genEnv scope (cloFrom X.env.cells scope.names []) h3.objs.size code builtinsNs X.env))), toks := tk + 1 + 1 + 1, heap := h'.push go } s2.gens.size .running) rfl rfl (allBare_setGen bare5 rfl)
    show Seg _ X.A.in1.in1 _ _ _ _ _ ((compStart (.GeneratorExp elt [⟨tg, iter, [], 0⟩] scope gpos) 0 (.ref it) .none (genEnv scope (cloFrom X.env.cells scope.names []) h3.objs.size code builtinsNs X.env)).onRaise (leaving _)) [] _
    unfold compStart
    rw [Sem.onRaise_eq_wrap]
    show Seg _ X.A.in1.in1 _ _ _ _ _ ((ask >>= _).wrap _ _ _ _) [] _
    refine seg_bind_wrap (wpAny_askSetting ?_)
    split
    · exact seg_again rfl lp
    · first
        | exact seg_bind_wrap (wpAny_rule (seg_bind_wrap (wpAny_standAt (seg_bind_wrap (Tn.self _ 0 _ _ _ st5 (seg_again rfl lp))))))
        | (refine seg_bind_wrap (wpAny_rule ?_); show Seg _ X.A.in1.in1 _ _ _ _ _ ((standAt iter.pos >>= _).wrap _ _ _ _) [] _; exact seg_bind_wrap (wpAny_standAt (seg_bind_wrap (Tn.self _ 0 _ _ _ st5 (seg_again rfl lp)))))
  cases hf : codeAmong gpos ps.toList with
  | none =>
    refine wpAny_genexprCodeX hcode (cd.code tT htri) (cd.tab tT) hf fun c' h' tk hx hge hlt hco' _ htab' _ => ?_
    obtain ⟨_, _, _, _, _, _, _, _, _, _, _, _, _, _, _, _, _, _, _, htr, _⟩ := hco'
    exact run _ h' tk _ hx (Nat.le_trans hge (Nat.le_of_lt hlt)) htab'.2 ⟨_, rfl⟩ htr
  | some cv =>
    refine wpAny_genexprCode_hit hcode (cd.code tT htri) hf ?_
    exact run cv s2.heap s2.toks ps (Heap.ExtBut.refl _ _) (Nat.le_refl _) tT ⟨#[], by simp⟩ htri
end
end
section
open PySem.Spec PyProof.Rows GenW
/-- all(elt for tg in e), any(..): the element read in full; ny: how many names it has of its own; behind it the def's table may have grown -/
def tAllR (T : Addr) (wi : TI) (g : TG) (te : TE) (ny : Nat) (vs : List Nat) : TE := fun σ H Q => wi σ H fun J H1 => GxR.TabG H1 T ∧ ∀ H1', GxR.Tabbed T H1 H1' → ∃ W : Nat → Nat → Hp → Prop, (∃ m, W 0 m H1') ∧ GxTurn J g te (wipe (σ ++ List.replicate ny none) vs) vs false (fun H2 => Q (.bl true) H2) (fun H2 => Q (.bl false) H2) W
def tAnyR (T : Addr) (wi : TI) (g : TG) (te : TE) (ny : Nat) (vs : List Nat) : TE := fun σ H Q => wi σ H fun J H1 => GxR.TabG H1 T ∧ ∀ H1', GxR.Tabbed T H1 H1' → ∃ W : Nat → Nat → Hp → Prop, (∃ m, W 0 m H1') ∧ GxTurn J g te (wipe (σ ++ List.replicate ny none) vs) vs true (fun H2 => Q (.bl false) H2) (fun H2 => Q (.bl true) H2) W
section
variable {X : Cx}
theorem pe_allR {c0 T : Addr} {elt tg iter : Expr} {p pos gpos : Pos} {scope : Scope} {ys : List Str} {wi : TI} {g : TG} {te : TE} {k : Nat} {own : List (Str × Nat)} {vs : List Nat} (hN : X.N.Nodup) (hvs : ∀ p ∈ own, p.2 ∈ vs)
    (hr : Room (k + 2) X.A) (hgl : Gl X "all") (hm : X.mg "all" = none) (hb : bootBuiltins "all" = some (.builtin "all")) (TB : GxR.TabB X.base X.mg c0 T) (hcode : X.env.code = .ref c0) (ok : GxOk X.N X.env.scope scope own) (hi : PI X tg iter wi)
    (hg : ∀ (B : Around) (s : Shared) (H : Hp) (C : Addr) (cl : List (Str × Addr)) (code : Value) (fp : List Addr) (pn : List (Addr × Obj)), Room k B → PG (gxCx X B s H (genEnv scope cl C code builtinsNs X.env) ys fp pn) tg g)
    (he : ∀ (B : Around) (s : Shared) (H : Hp) (C : Addr) (cl : List (Str × Addr)) (code : Value) (fp : List Addr) (pn : List (Addr × Obj)), Room k B → PE (gxCx X B s H (genEnv scope cl C code builtinsNs X.env) ys fp pn) elt te)
    (hs : ∀ v, genFold iter X.env v = pure v)
    (hst : starEach [.GeneratorExp elt [⟨tg, iter, [], 0⟩] scope gpos] X.env = (false, eval (.GeneratorExp elt [⟨tg, iter, [], 0⟩] scope gpos) X.env) :: starEach [] X.env := by rfl) :
    PE X (.Call (.Name "all" p) [.GeneratorExp elt [⟨tg, iter, [], 0⟩] scope gpos] [] pos) (tAllR T wi g te ys.length vs) := by
  refine ⟨fun pins s σ H Q I h => wpAny_Call_Name_kw (ld_blt I hgl hm hb (PyProof.Rows.callWith_builtin1 ?_ hst (by rfl)))⟩
  rw [hst]
  show wpAny _ _ (spliced ((false, eval (.GeneratorExp elt [⟨tg, iter, [], 0⟩] scope gpos) X.env) :: backTo pos (starEach [] X.env))) _ _ s
  refine Calls.spliced_cons (gx_gen (cb := false) (Fi := fun H2 => Q (.bl true) H2) (Fl := fun H2 => Q (.bl false) H2) hN hvs hr TB hcode ok hi hg he hs I h fun B s2 H2 cenv fp a gn go n s5 hgen hig hlim hgs hback => ?_)
  refine Calls.spliced_nil ?_
  refine call_function_tree F.kind_all F.plain_all F.entry_all (F.args_all1 _) ?_
  unfold Builtin.«all»
  refine wpAny_bind (m := oneArg "all" _) (wpAny_pure ?_)
  refine wpAny_bind (wpAny_pyIter_gen hig ?_)
  refine wpAny_pure ⟨plainId_quiet F.plain_all_loop _, gx_all (X' := gxCx X B s2 H2 cenv ys fp [(a, go)]) (c := false) hr.hd hr.depth hgen (List.mem_singleton.mpr rfl) rfl (fun s' H' I' fi => ?_) (fun s' H' I' fl => ?_) n s5 hig hlim hgs⟩
  · exact ⟨.bl true, H', hback s' H' I', rfl, fi⟩
  · exact ⟨.bl false, H', hback s' H' I', rfl, fl⟩
theorem pe_anyR {c0 T : Addr} {elt tg iter : Expr} {p pos gpos : Pos} {scope : Scope} {ys : List Str} {wi : TI} {g : TG} {te : TE} {k : Nat} {own : List (Str × Nat)} {vs : List Nat} (hN : X.N.Nodup) (hvs : ∀ p ∈ own, p.2 ∈ vs)
    (hr : Room (k + 2) X.A) (hgl : Gl X "any") (hm : X.mg "any" = none) (hb : bootBuiltins "any" = some (.builtin "any")) (TB : GxR.TabB X.base X.mg c0 T) (hcode : X.env.code = .ref c0) (ok : GxOk X.N X.env.scope scope own) (hi : PI X tg iter wi)
    (hg : ∀ (B : Around) (s : Shared) (H : Hp) (C : Addr) (cl : List (Str × Addr)) (code : Value) (fp : List Addr) (pn : List (Addr × Obj)), Room k B → PG (gxCx X B s H (genEnv scope cl C code builtinsNs X.env) ys fp pn) tg g)
    (he : ∀ (B : Around) (s : Shared) (H : Hp) (C : Addr) (cl : List (Str × Addr)) (code : Value) (fp : List Addr) (pn : List (Addr × Obj)), Room k B → PE (gxCx X B s H (genEnv scope cl C code builtinsNs X.env) ys fp pn) elt te)
    (hs : ∀ v, genFold iter X.env v = pure v)
    (hst : starEach [.GeneratorExp elt [⟨tg, iter, [], 0⟩] scope gpos] X.env = (false, eval (.GeneratorExp elt [⟨tg, iter, [], 0⟩] scope gpos) X.env) :: starEach [] X.env := by rfl) :
    PE X (.Call (.Name "any" p) [.GeneratorExp elt [⟨tg, iter, [], 0⟩] scope gpos] [] pos) (tAnyR T wi g te ys.length vs) := by
  refine ⟨fun pins s σ H Q I h => wpAny_Call_Name_kw (ld_blt I hgl hm hb (PyProof.Rows.callWith_builtin1 ?_ hst (by rfl)))⟩
  rw [hst]
  show wpAny _ _ (spliced ((false, eval (.GeneratorExp elt [⟨tg, iter, [], 0⟩] scope gpos) X.env) :: backTo pos (starEach [] X.env))) _ _ s
  refine Calls.spliced_cons (gx_gen (cb := true) (Fi := fun H2 => Q (.bl false) H2) (Fl := fun H2 => Q (.bl true) H2) hN hvs hr TB hcode ok hi hg he hs I h fun B s2 H2 cenv fp a gn go n s5 hgen hig hlim hgs hback => ?_)
  refine Calls.spliced_nil ?_
  refine call_function_tree F.kind_any F.plain_any F.entry_any (F.args_any1 _) ?_
  unfold Builtin.«any»
  refine wpAny_bind (m := oneArg "any" _) (wpAny_pure ?_)
  refine wpAny_bind (wpAny_pyIter_gen hig ?_)
  refine wpAny_pure ⟨plainId_quiet F.plain_any_loop _, gx_any (X' := gxCx X B s2 H2 cenv ys fp [(a, go)]) (c := true) hr.hd hr.depth hgen (List.mem_singleton.mpr rfl) rfl (fun s' H' I' fi => ?_) (fun s' H' I' fl => ?_) n s5 hig hlim hgs⟩
  · exact ⟨.bl false, H', hback s' H' I', rfl, fi⟩
  · exact ⟨.bl true, H', hback s' H' I', rfl, fl⟩
end
end
/-! ### over a tuple, over a range -/
section
variable {K : PySem.W.Frag} {g : TG} {te : TE} {σ : L2.St} {vs : List Nat} {c : Bool} {Fi Fl : Hp → Prop} {H1 : Hp}
theorem gx_tup {a : Addr} {xs : List V} (Pv : Nat → Hp → Prop) (h0 : Pv 0 H1) (hl : ∀ i H, i ≤ xs.length → Pv i H → SqT K H a xs)
    (hs : ∀ i x H, xs[i]? = some x → Pv i H → g x σ H fun σ2 H2 => wipe σ2 vs = σ ∧ te σ2 H2 fun y H3 => ∃ b, y = .bl b ∧ (b = c → Fl H3) ∧ (b = !c → Pv (i + 1) H3)) (hd : ∀ H, Pv xs.length H → Fi H) :
    ∃ W : Nat → Nat → Hp → Prop, (∃ m, W 0 m H1) ∧ GxTurn (Itt K a) g te σ vs c Fi Fl W := by
  refine ⟨fun i m H => m = xs.length - i ∧ i ≤ xs.length ∧ Pv i H, ⟨xs.length, by simp, Nat.zero_le _, h0⟩, ?_⟩
  rintro i m H ⟨rfl, hi, p⟩
  have q := hl i H hi p
  by_cases hlt : i < xs.length
  · refine .inr ⟨⟨xs, xs[i], q, by simp [hlt]⟩, Pv (i + 1), fun H' p' => ⟨xs.length - (i + 1), by omega, rfl, hlt, p'⟩, fun x H' y => ?_⟩
    obtain ⟨e, y⟩ := y
    subst e
    exact hs i x _ (y xs q) p
  · have e : i = xs.length := by omega
    subst e
    exact .inl ⟨⟨xs, q, Nat.le_refl _⟩, hd H p⟩
theorem gx_range {lo : Int} {n : Nat} (Pv : Nat → Hp → Prop) (h0 : Pv 0 H1)
    (hs : ∀ i H, i < n → Pv i H → g (.int (lo + i)) σ H fun σ2 H2 => wipe σ2 vs = σ ∧ te σ2 H2 fun y H3 => ∃ b, y = .bl b ∧ (b = c → Fl H3) ∧ (b = !c → Pv (i + 1) H3)) (hd : ∀ H, Pv n H → Fi H) :
    ∃ W : Nat → Nat → Hp → Prop, (∃ m, W 0 m H1) ∧ GxTurn (Itr lo n) g te σ vs c Fi Fl W := by
  refine ⟨fun i m H => m = n - i ∧ i ≤ n ∧ Pv i H, ⟨n, by simp, Nat.zero_le _, h0⟩, ?_⟩
  rintro i m H ⟨rfl, hi, p⟩
  by_cases hlt : i < n
  · refine .inr ⟨hlt, Pv (i + 1), fun H' p' => ⟨n - (i + 1), by omega, rfl, hlt, p'⟩, fun x H' y => ?_⟩
    obtain ⟨e, y⟩ := y
    subst e y
    exact hs i _ hlt p
  · have e : i = n := by omega
    subst e
    exact .inl ⟨Nat.le_refl _, hd H p⟩
end

/-! ### reading, step by step -/
theorem iteV {a b : Int} {A B : Prop} (h1 : a = b → A) (h2 : a ≠ b → B) : if decide (V.int a = V.int b) = true then A else B := by
  by_cases h : a = b
  · rw [if_pos (decide_eq_true (congrArg V.int h))]; exact h1 h
  · rw [if_neg (by rw [decide_eq_false (fun z => h (V.int.inj z))]; exact Bool.false_ne_true)]; exact h2 h
theorem iteVn {a b : Int} {A B : Prop} (h1 : a ≠ b → A) (h2 : a = b → B) : if (!decide (V.int a = V.int b)) = true then A else B := by
  by_cases h : a = b
  · rw [if_neg (by rw [decide_eq_true (congrArg V.int h)]; exact Bool.false_ne_true)]; exact h2 h
  · rw [if_pos (by rw [decide_eq_false (fun z => h (V.int.inj z))]; rfl)]; exact h1 h
theorem iteD {c A B : Prop} [Decidable c] (h1 : c → A) (h2 : ¬ c → B) : if decide c = true then A else B := by
  by_cases h : c
  · rw [if_pos (decide_eq_true h)]; exact h1 h
  · rw [if_neg (by rw [decide_eq_false h]; exact Bool.false_ne_true)]; exact h2 h
theorem iteDn {c A B : Prop} [Decidable c] (h1 : ¬ c → A) (h2 : c → B) : if (!decide c) = true then A else B := by
  by_cases h : c
  · rw [if_neg (by rw [decide_eq_true h]; exact Bool.false_ne_true)]; exact h2 h
  · rw [if_pos (by rw [decide_eq_false h]; rfl)]; exact h1 h
theorem iteB {b : Bool} {A B : Prop} (h1 : b = true → A) (h2 : b = false → B) : if b = true then A else B := by
  cases b with
  | true => exact iteT (h1 rfl)
  | false => exact iteF (h2 rfl)
theorem iteN0 {i : Int} {A B : Prop} (h1 : i ≠ 0 → A) (h2 : i = 0 → B) : if (i != 0) = true then A else B := by
  by_cases h : i = 0
  · rw [if_neg (by simp [h])]; exact h2 h
  · rw [if_pos (by simpa using h)]; exact h1 h
theorem vdec {a b : Int} : decide (V.int a = V.int b) = decide (a = b) := by
  by_cases h : a = b
  · subst h; simp
  · rw [decide_eq_false h, decide_eq_false (fun z => h (V.int.inj z))]
theorem sql_ne {K : PySem.W.Frag} {H : Hp} {r a : Addr} {o : HO} {xs : List V} (h : SqL K H a xs) (n : a ≠ r) : SqL K (upd H r o) a xs := by
  rcases h with (h | ⟨u, h⟩) | h
  · exact .inl (.inl (by rw [upd_ne n]; exact h))
  · exact .inl (.inr ⟨u, by rw [upd_ne n]; exact h⟩)
  · exact .inr h
theorem mulW64 {i j : Int} (hi : i.natAbs < 2 ^ 64) (hj : j.natAbs < 2 ^ 64) : CMulW i j := wide_mul hi hj (by decide) (by decide) (by decide)
section
variable {K : PySem.W.Frag}
theorem kit_int_int : PySem.W.kitOne K (.type "int") (.type "int") = some true := kit_ty (by decide +kernel)
theorem kit_int_bool : PySem.W.kitOne K (.type "int") (.type "bool") = some false := kit_ty (by decide +kernel)
theorem kit_int_str : PySem.W.kitOne K (.type "int") (.type "str") = some false := kit_ty (by decide +kernel)
theorem kit_int_tuple : PySem.W.kitOne K (.type "int") (.type "tuple") = some false := kit_ty (by decide +kernel)
theorem kit_int_list : PySem.W.kitOne K (.type "int") (.type "list") = some false := kit_ty (by decide +kernel)
theorem kit_tuple_tuple : PySem.W.kitOne K (.type "tuple") (.type "tuple") = some true := kit_ty (by decide +kernel)
theorem kit_tuple_list : PySem.W.kitOne K (.type "tuple") (.type "list") = some false := kit_ty (by decide +kernel)
theorem kit_tuple_str : PySem.W.kitOne K (.type "tuple") (.type "str") = some false := kit_ty (by decide +kernel)
theorem kit_tuple_int : PySem.W.kitOne K (.type "tuple") (.type "int") = some false := kit_ty (by decide +kernel)
theorem kit_tuple_bool : PySem.W.kitOne K (.type "tuple") (.type "bool") = some false := kit_ty (by decide +kernel)
theorem kitA_int : PySem.W.kitAny K (.type "int") [.type "tuple", .type "list"] = some false :=
  kitAny_cons kit_int_tuple (fun _ => kitAny_cons kit_int_list (fun _ => kitAny_nil) (fun z => nomatch z)) (fun z => nomatch z)
theorem kitA_tuple : PySem.W.kitAny K (.type "tuple") [.type "tuple", .type "list"] = some true :=
  kitAny_cons kit_tuple_tuple (fun z => nomatch z) (fun _ => rfl)
end
local macro_rules | `(tactic| walk_at "rd1") => `(tactic| first
  | refine ⟨_, rfl, ?_⟩
  | refine ⟨_, _, rfl, rfl, ?_⟩
  | refine ⟨_, _, rfl, ?_⟩
  | refine ⟨rfl, ?_⟩
  | refine ⟨(show (0 : Int) < _ by omega), ?_⟩
  | refine .inl ⟨_, rfl, ?_⟩
  | refine ⟨mulW64 (by omega) (by omega), ?_⟩
  | refine ⟨cdivZ (b := 64) (by omega) (by omega) (by decide) (by decide), ?_⟩
  | refine ⟨(show CPowW _ _ from ⟨by decide, by decide +kernel⟩), ?_⟩
  | refine ⟨_, _, rfl, .inr (.inl (.inl (by assumption))), ?_⟩
  | refine ⟨_, _, rfl, .inl (.inl (.inl (by assumption))), ?_⟩
  | refine ⟨_, _, rfl, .inl (.inl upd_same), rfl, ?_⟩
  | refine iteT ?_
  | refine iteF ?_
  | refine ⟨_, _, _, _, rfl, rfl, .inl (.inl (by assumption)), rfl, ?_⟩
  | refine ⟨_, _, _, _, rfl, rfl, .inl (.inl upd_same), rfl, ?_⟩
  | refine ⟨_, _, _, _, rfl, rfl, (by assumption), rfl, ?_⟩
  | refine ⟨_, _, _, _, rfl, rfl, upd_same, rfl, ?_⟩
  | refine ⟨_, _, _, _, _, rfl, .ty _, .base (.int _), kit_int_int, ?_⟩
  | refine ⟨_, _, _, _, _, rfl, .ty _, .base (.int _), kit_int_bool, ?_⟩
  | refine ⟨_, _, _, _, _, rfl, .ty _, .base (.int _), kit_int_str, ?_⟩
  | refine ⟨_, _, _, _, _, rfl, .ty _, .base (.tup (by assumption)), kit_tuple_tuple, ?_⟩
  | refine ⟨_, _, _, _, _, rfl, .ty _, .base (.tup (by assumption)), kit_tuple_list, ?_⟩
  | refine ⟨_, _, _, _, _, rfl, .ty _, .base (.tup (by assumption)), kit_tuple_str, ?_⟩)
local macro_rules | `(tactic| walk_at "rd") => `(tactic| repeat walk_at "rd1")

/-! ### orders, rows, units, as numbers -/
inductive Ord where
  | lex | deglex | drl | block (k : Nat) | wts (ws : List Int)
def OrdOk (n : Nat) : Ord → Prop
  | .block k => 1 ≤ k ∧ k < n
  | .wts ws => ws.length = n ∧ ∀ w ∈ ws, 1 ≤ w ∧ w ≤ 20
  | _ => True
def sLex : Str := "lex"
def sDeg : Str := "deglex"
def sDrl : Str := "degrevlex"
def sBlk : Str := "block"
def sWts : Str := "weights"
def oD : Ord → PyData
  | .lex => .str sLex
  | .deglex => .str sDeg
  | .drl => .str sDrl
  | .block k => .tuple [.str sBlk, .int k]
  | .wts ws => .tuple [.str sWts, .tuple (ws.map .int)]
def singles (n : Nat) : List (List Int) := (List.range n).map fun p => (List.range n).map fun k => if k = p then 1 else 0
def falling (n a b : Nat) : List (List Int) := (List.range (b - a)).map fun j => (List.range n).map fun k => if a ≤ k ∧ k + j + 1 ≤ b then 1 else 0
def rowsL (n : Nat) : Ord → List (List Int)
  | .lex => singles n
  | .deglex => List.replicate n 1 :: singles n
  | .drl => falling n 0 n
  | .block k => falling n 0 k ++ falling n k n
  | .wts ws => ws :: falling n 0 n
def unitN (n : Nat) (rows : List (List Int)) (p : Nat) : Int := (rows.foldl (fun t row => t * PLi + row.getD p 0) 0) * 2 ^ (48 * n) + 2 ^ (48 * (n - 1 - p))
def unitsL (n : Nat) (rows : List (List Int)) : List Int := (List.range n).map (unitN n rows)
/-- a tuple of ints; a tuple of these -/
abbrev rD (r : List Int) : PyData := .tuple (r.map .int)
abbrev rsD (rs : List (List Int)) : PyData := .tuple (rs.map rD)
section
variable {K : PySem.W.Frag} {H H' : Hp}
theorem dpAll_of {α : Type} {f : α → V} {g : α → PyData} : ∀ {l : List α}, (∀ x ∈ l, Dp K H (f x) (g x)) → DpAll K H (l.map f) (l.map g)
  | [], _ => .nil
  | _ :: _, h => .cons (h _ List.mem_cons_self) (dpAll_of fun x hx => h x (List.mem_cons_of_mem _ hx))
theorem dpAll_ints (r : List Int) : DpAll K H (r.map V.int) (r.map .int) := dpAll_of fun x _ => .int x
theorem dp_ints {a : Addr} {r : List Int} (h : SqT K H a (r.map V.int)) : Dp K H (.ref a) (rD r) := .tup h (dpAll_ints r)
mutual
theorem Dp.same (s : Same H H') : ∀ (d : PyData) (v : V), Dp K H v d → Dp K H' v d
  | _, _, .non => .non
  | _, _, .bl b => .bl b
  | _, _, .int i => .int i
  | _, _, .str x => .str x
  | _, _, .lst h a => .lst (L2.Same.seq s h) (DpAll.same s _ _ a)
  | _, _, .tup h a => .tup (Toy.Same.tup s h) (DpAll.same s _ _ a)
theorem DpAll.same (s : Same H H') : ∀ (ds : List PyData) (vs : List V), DpAll K H vs ds → DpAll K H' vs ds
  | _, _, .nil => .nil
  | _, _, .cons h t => .cons (Dp.same s _ _ h) (DpAll.same s _ _ t)
end
end

/-! ### what stays: tuples; all but tables -/
/-- the tuples stay -/
def Tp (H H' : Hp) : Prop := ∀ b xs, Rd H b (.tup xs) → Rd H' b (.tup xs)
theorem Tp.refl (H : Hp) : Tp H H := fun _ _ h => h
theorem Tp.trans {H H1 H2 : Hp} (a : Tp H H1) (b : Tp H1 H2) : Tp H H2 := fun c xs h => b c xs (a c xs h)
theorem tp_ext {H H' : Hp} (e : LamX.ExtN H H') : Tp H H' := fun b xs h => by
  rcases h with h | ⟨o, h⟩
  · exact .inl (e _ _ h fun ps z => by cases z)
  · exact .inr ⟨o, e _ _ h fun ps z => by cases z⟩
theorem tp_same {H H' : Hp} (s : Same H H') : Tp H H' := tp_ext (LamX.ExtN.of s)
theorem tp_lst {H : Hp} {D : Addr} {xs ys : List V} (h : H D = some (.lst xs)) : Tp H (upd H D (.lst ys)) := fun b zs q => by
  have n : b ≠ D := fun e => by
    subst e
    rcases q with q | ⟨o, q⟩
    · rw [h] at q; cases q
    · rw [h] at q; cases q
  rcases q with q | ⟨o, q⟩
  · exact .inl ((upd_ne n).trans q)
  · exact .inr ⟨o, (upd_ne n).trans q⟩
theorem tp_new {H : Hp} {D : Addr} {o : HO} (h : H D = Option.none) : Tp H (upd H D o) := tp_same (same_upd h)
section
variable {K : PySem.W.Frag} {H H' : Hp}
theorem Tp.sqt {a : Addr} {xs : List V} (s : Tp H H') (h : SqT K H a xs) : SqT K H' a xs := by
  rcases h with h | h
  · exact .inl (s _ _ h)
  · exact .inr h
mutual
/-- ints, texts, tuples of such -/
def tOnly : PyData → Bool
  | .int _ => true
  | .str _ => true
  | .tuple xs => tOnlyAll xs
  | _ => false
def tOnlyAll : List PyData → Bool
  | [] => true
  | x :: xs => tOnly x && tOnlyAll xs
end
mutual
theorem Dp.tp (s : Tp H H') : ∀ (d : PyData) (v : V), tOnly d = true → Dp K H v d → Dp K H' v d
  | .int i, _, _, h => by cases h; exact .int i
  | .str x, _, _, h => by cases h; exact .str x
  | .tuple xs, _, t, h => by
    cases h with
    | tup h1 h2 => exact .tup (s.sqt h1) (DpAll.tp s xs _ (by simpa [tOnly] using t) h2)
  | .none, _, t, _ => by simp [tOnly] at t
  | .bool _, _, t, _ => by simp [tOnly] at t
  | .list _, _, t, _ => by simp [tOnly] at t
  | .dict _, _, t, _ => by simp [tOnly] at t
theorem DpAll.tp (s : Tp H H') : ∀ (ds : List PyData) (vs : List V), tOnlyAll ds = true → DpAll K H vs ds → DpAll K H' vs ds
  | [], _, _, h => by cases h; exact .nil
  | d :: ds, _, t, h => by
    cases h with
    | cons h1 h2 =>
      have t' : tOnly d = true ∧ tOnlyAll ds = true := by simpa [tOnlyAll] using t
      exact .cons (Dp.tp s d _ t'.1 h1) (DpAll.tp s ds _ t'.2 h2)
end
theorem tOnly_ints (r : List Int) : tOnlyAll (r.map .int) = true := by
  induction r with
  | nil => rfl
  | cons x xs ih => simp [tOnlyAll, tOnly, ih]
theorem tOnly_rD (r : List Int) : tOnly (rD r) = true := tOnly_ints r
theorem tOnly_rows (rs : List (List Int)) : tOnlyAll (rs.map rD) = true := by
  induction rs with
  | nil => rfl
  | cons x xs ih => simp [tOnlyAll, tOnly, ih, tOnly_ints]
theorem tOnly_ord (o : Ord) : tOnly (oD o) = true := by
  cases o <;> simp [oD, tOnly, tOnlyAll, tOnly_ints]
/-! ### comprehensions that map -/
/-- i items are made at D, each as R says; all that was before stands -/
def MapAt (H1 : Hp) (D : Addr) (R : Nat → V → Hp → Prop) (i : Nat) (H : Hp) : Prop := ∃ ys, Same H1 H ∧ H D = some (.lst ys) ∧ ys.length = i ∧ ∀ (j : Nat) (y : V), ys[j]? = some y → R j y H
theorem mapAt_0 {H1 : Hp} {D : Addr} {R : Nat → V → Hp → Prop} (hD : H1 D = Option.none) : MapAt H1 D R 0 (upd H1 D (.lst [])) := ⟨[], same_upd hD, upd_same, rfl, fun j y h => by simp at h⟩
theorem mapAt_step {H1 H H4 : Hp} {D : Addr} {R : Nat → V → Hp → Prop} {i : Nat} {y : V} (h : MapAt H1 D R i H) (hD : H1 D = Option.none) (hz : i < sizeLine) (s : Same H H4) (hR : ∀ i v H H', R i v H → Tp H H' → R i v H') (r : R i y H4) :
    ∃ acc, H4 D = some (.lst acc) ∧ acc.length < sizeLine ∧ MapAt H1 D R (i + 1) (upd H4 D (.lst (acc ++ [y]))) := by
  obtain ⟨ys, h1, h2, h3, h4⟩ := h
  have e4 := s _ _ h2
  have t : Tp H4 (upd H4 D (.lst (ys ++ [y]))) := tp_lst e4
  refine ⟨ys, e4, by rw [h3]; exact hz, ys ++ [y], fun b o e => ?_, upd_same, by simp [h3], fun j z hz => ?_⟩
  · rw [upd_ne (ne_of_none e hD)]
    exact s _ _ (h1 _ _ e)
  · by_cases hj : j < ys.length
    · rw [List.getElem?_append_left hj] at hz
      exact hR _ _ _ _ (hR _ _ _ _ (h4 j z hz) (tp_same s)) t
    · rw [List.getElem?_append_right (by omega)] at hz
      have ej : j - ys.length = 0 := by
        by_cases q : j - ys.length = 0
        · exact q
        · rw [List.getElem?_eq_none (by simp; omega)] at hz; cases hz
      rw [ej] at hz
      simp at hz
      subst hz
      have : j = i := by omega
      subst this
      exact hR _ _ _ _ r t
/-- the items as a list, when each is told by its place -/
theorem items_eq {n : Nat} {ys : List V} {f : Nat → V} (h : ys.length = n) (e : ∀ (j : Nat) (y : V), ys[j]? = some y → y = f j) : ys = (List.range n).map f := by
  refine List.ext_getElem? fun i => ?_
  by_cases hi : i < n
  · have hi' : i < ys.length := by omega
    rw [List.getElem?_map, List.getElem?_range hi, List.getElem?_eq_getElem hi', e i _ (List.getElem?_eq_getElem hi')]
    rfl
  · rw [List.getElem?_eq_none (by omega), List.getElem?_eq_none (by simp; omega)]
/-- rows made one by one read as the rows -/
theorem dpAll_get {ys : List V} {ds : List PyData} (hl : ys.length = ds.length) (e : ∀ (j : Nat) (y : V) (d : PyData), ys[j]? = some y → ds[j]? = some d → Dp K H y d) : DpAll K H ys ds := by
  induction ys generalizing ds with
  | nil =>
    cases ds with
    | nil => exact .nil
    | cons d ds => simp at hl
  | cons y ys ih =>
    cases ds with
    | nil => simp at hl
    | cons d ds => exact .cons (e 0 y d rfl rfl) (ih (by simpa using hl) fun j y d h1 h2 => e (j + 1) y d (by simpa using h1) (by simpa using h2))
end
/-! ### a comprehension's scope, by its place -/
def rvOf : Stmt → Expr
  | .Return (some e) _ => e
  | .Assign _ e _ => e
  | _ => .Constant .none 0 ⟨0, 0, 0, 0⟩
def scOf : Expr → Scope
  | .ListComp _ _ s _ => s
  | _ => { kind := .function, names := [], isGenerator := false, isCoroutine := false }
theorem relabel_look {env : Env} {y : Str} : ∀ {names : List (Str × NameKind)}, names.lookup y = some .cell ∨ names.lookup y = some .free →
    (names.map fun (n, k) => if (k == NameKind.free && env.scope.kind == .function && env.kindOf n == some .cell) then (n, NameKind.cell) else (n, k)).lookup y = some .cell ∨
    (names.map fun (n, k) => if (k == NameKind.free && env.scope.kind == .function && env.kindOf n == some .cell) then (n, NameKind.cell) else (n, k)).lookup y = some .free
  | [], h => by simp at h
  | (n, k) :: r, h => by
    have ih := @relabel_look env y r
    by_cases e : y = n
    · subst e
      simp only [List.lookup_cons, beq_self_eq_true] at h
      simp only [List.map_cons]
      rcases h with h | h <;> (cases h; split <;> simp)
    · have e' : (y == n) = false := by simpa using e
      simp only [List.lookup_cons, e'] at h
      have q := ih h
      simp only [List.map_cons]
      split <;> simpa [List.lookup_cons, e'] using q
/-- a comprehension within a comprehension -/
theorem blkOk_in {N : List Str} {sc scope : Scope} {own : List (Str × Nat)} {env : Env} (h : blkC N sc scope own = true) : BlkOk N (relabel sc env) scope own := by
  have b := blkOk_by h
  exact ⟨b.kind, b.uniq, b.ix, fun y hy e => relabel_look (b.free y hy e), b.own⟩
/-- tuple(xs) -/
def rTupOf (K : PySem.W.Frag) : List V → Hp → VK → Prop := fun xs H Q => ∃ p ys, xs = [.ref p] ∧ ((SqL K H p ys ∧ ∀ l, H l = Option.none → Q (.ref l) (upd H l (.tup ys))) ∨ (SqT K H p ys ∧ Q (.ref p) H))
section
variable {P : Program} {w : World} {K : PySem.W.Frag} {mg : Str → Option Value} {base : Heap}
def sp_single_rows (K : PySem.W.Frag) : Sp := fun vs H Q _ => ∃ n : Nat, vs = [.int n] ∧ n ≤ 4 ∧ ∀ p H' xs, Same H H' → H' p = some (.lst xs) → H p = Option.none → DpAll K H' xs ((singles n).map rD) → Q (.ref p) H'
theorem ok_single_rows (T : Txt K mg) : FnOk P w K mg base CX0 1 T.single_rows.f T.single_rows.fd P_single_rows (sp_single_rows K) := by
  refine T.single_rows.F.ok sc_single_rows (fun vs H Q E h => ?_) (fun cdv A outer s H vs Q E hr h => ?_)
  · obtain ⟨n, rfl, _⟩ := h; rfl
  · obtain ⟨n, rfl, hn, k⟩ := h
    refine ⟨_, (pss_one (ps_ret (pe_lc (own := [("place", 2)]) rfl sc_single_rows.nd (pi_range1 rfl T.n_range (pa_cons (pv 0) pa_nil)) (blkOk_by (own := [("place", 2)]) (N := N_single_rows) (sc := defScope s_single_rows) (by decide +kernel)) (fun _ _ _ _ _ => (pg_name (i := 2) sc_single_rows.nd rfl (Or.inr rfl))) (fun _ _ _ _ _ => pts_nil) (fun _ _ _ _ _ => (pe_callTy (r := rTupOf K) call_tuple_of rfl T.n_tuple bo_tuple (pa_cons (pe_lc (own := [("k", 1)]) rfl sc_single_rows.nd (pi_range1 rfl T.n_range (pa_cons (pv 0) pa_nil)) (blkOk_in (own := [("k", 1)]) (N := N_single_rows) (sc := scOf (rvOf ((defBody s_single_rows).getD 0 (.Pass ⟨0, 0, 0, 0⟩)))) (by decide +kernel)) (fun _ _ _ _ _ => (pg_name (i := 1) sc_single_rows.nd rfl (Or.inl rfl))) (fun _ _ _ _ _ => pts_nil) (fun _ _ _ _ _ => (pe_ifExp (pt_cmpR op_eq (pv 1) (pv 2) (nomark _)) pe_int pe_int))) pa_nil)))))), ?_⟩
    walk_at "rd"
    refine ⟨(show (-2 ^ 62 : Int) ≤ (n : Int) by omega), (show (n : Int) < 2 ^ 62 by omega), fun D hD => ?_⟩
    rw [Int.toNat_natCast]
    refine lc_range (lo := 0) (n := n) (MapAt H D fun p y H' => Dp K H' y (rD ((List.range n).map fun k => if k = p then 1 else 0))) (mapAt_0 hD) (fun p H1 hp hP => ?_) (fun H1 hP => ?_)
    · walk_at "rd"
      refine ⟨(show (-2 ^ 62 : Int) ≤ (n : Int) by omega), (show (n : Int) < 2 ^ 62 by omega), fun E1 hE => ?_⟩
      rw [Int.toNat_natCast]
      refine lc_range (lo := 0) (n := n) (MapAt H1 E1 fun k y _ => y = .int (if k = p then 1 else 0)) (mapAt_0 hE) (fun q H2 hq hQ => ?_) (fun H2 hQ => ?_)
      · walk_at "rd"
        rw [vdec, Int.zero_add, Int.zero_add]
        refine iteD (fun e => ?_) (fun e => ?_)
        · exact mapAt_step hQ hE (by rw [sizeLine_eq]; omega) (Same.refl _) (fun _ _ _ _ h _ => h) (by rw [if_pos (by omega)])
        · exact mapAt_step hQ hE (by rw [sizeLine_eq]; omega) (Same.refl _) (fun _ _ _ _ h _ => h) (by rw [if_neg (by omega)])
      · obtain ⟨ys, s1, e1, l1, r1⟩ := hQ
        have ey := items_eq (f := fun k => V.int (if k = p then 1 else 0)) l1 r1
        walk_at "rd"
        refine ⟨_, _, rfl, .inl ⟨.inl (.inl e1), fun l hl => ?_⟩⟩
        refine mapAt_step hP hD (by rw [sizeLine_eq]; omega) (Same.trans s1 (same_upd hl)) (fun _ _ _ _ h t => Dp.tp t _ _ (tOnly_rD _) h) ?_
        refine dp_ints (.inl (.inl ?_))
        rw [upd_same, ey, List.map_map]
        rfl
    · obtain ⟨ys, s1, e1, l1, r1⟩ := hP
      refine k D H1 ys s1 e1 hD (dpAll_get (by rw [l1]; simp [singles]) fun j y d h1 h2 => ?_)
      have hj : j < n := by rw [← l1]; exact (List.getElem?_eq_some_iff.mp h1).1
      have e2 : d = rD ((List.range n).map fun k => if k = j then 1 else 0) := by
        rw [singles, List.map_map, List.getElem?_map, List.getElem?_range hj] at h2
        exact (Option.some.inj h2).symm
      rw [e2]
      exact r1 j y h1
end

theorem dpAll_app {K : PySem.W.Frag} {H : Hp} : ∀ {xs ys : List V} {ds es : List PyData}, DpAll K H xs ds → DpAll K H ys es → DpAll K H (xs ++ ys) (ds ++ es)
  | _, _, _, _, .nil, h => h
  | _, _, _, _, .cons h t, h2 => .cons h (dpAll_app t h2)
theorem DpAll.len {K : PySem.W.Frag} {H : Hp} : ∀ {xs : List V} {ds : List PyData}, DpAll K H xs ds → xs.length = ds.length
  | _, _, .nil => rfl
  | _, _, .cons _ t => congrArg (· + 1) (DpAll.len t)
/-- a, a + 1, .., below b -/
def plc (a b : Nat) : List V := (List.range (b - a)).map fun i => V.int ((a : Int) + (i : Nat))
theorem plc_flat (a b : Nat) : (plc a b).all flatV = true := by
  rw [List.all_eq_true]
  intro x hx
  obtain ⟨i, _, rfl⟩ := List.mem_map.mp hx
  rfl
theorem plc_in (a b k : Nat) : inV (V.int (k : Int)) (plc a b) = decide (a ≤ k ∧ k < b) := by
  unfold inV
  by_cases h : a ≤ k ∧ k < b
  · rw [decide_eq_true h, List.any_eq_true]
    refine ⟨V.int (k : Int), List.mem_map.mpr ⟨k - a, List.mem_range.mpr (by omega), by congr 1; omega⟩, ?_⟩
    simp [eqV]
  · rw [decide_eq_false h, List.any_eq_false]
    intro x hx
    obtain ⟨i, hi, rfl⟩ := List.mem_map.mp hx
    have := List.mem_range.mp hi
    simp [eqV]
    omega
theorem plc_len (a b : Nat) : (plc a b).length = b - a := by simp [plc]
theorem plc_take {a b k : Nat} (h : k ≤ b - a) : (plc a b).take k = plc a (a + k) := by
  unfold plc
  rw [← List.map_take, List.take_range, show min k (b - a) = a + k - a by omega]
theorem cut_to' (xs : List V) (k : Nat) (h : k ≤ xs.length) : cutV xs none (some (k : Int)) = xs.take k := by
  unfold cutV
  rw [HT.sIx_nat, HT.sIx_none, Nat.min_eq_left h]
  simp
section
variable {P : Program} {w : World} {K : PySem.W.Frag} {mg : Str → Option Value} {base : Heap}
def sp_falling_rows (K : PySem.W.Frag) : Sp := fun vs H Q _ => ∃ (n a b : Nat) (L : Addr), vs = [.int n, .ref L] ∧ n ≤ 4 ∧ a ≤ b ∧ b ≤ n ∧ H L = some (.lst (plc a b)) ∧ ∀ p H' xs, Same H H' → H' p = some (.lst xs) → H p = Option.none → DpAll K H' xs ((falling n a b).map rD) → Q (.ref p) H'
theorem ok_falling_rows (T : Txt K mg) : FnOk P w K mg base CX0 1 T.falling_rows.f T.falling_rows.fd P_falling_rows (sp_falling_rows K) := by
  refine T.falling_rows.F.ok sc_falling_rows (fun vs H Q E h => ?_) (fun cdv A outer s H vs Q E hr h => ?_)
  · obtain ⟨n, a, b, L, rfl, _⟩ := h; rfl
  · obtain ⟨n, a, b, L, rfl, hn, hab, hbn, hL, k⟩ := h
    refine ⟨_, (pss_cons (ps_set (i := 2) sc_falling_rows.nd rfl (Or.inl rfl) (pe_lst pa_nil))
  (pss_cons (ps_for PassesOwn.never rfl (pi_revR rfl T.n_reversed (prg_1 rfl T.n_range (pe_callB (r := rLenS K) call_len_seq rfl T.n_len bo_len (pa_cons (pv 1) pa_nil)))) (pg_name (i := 3) sc_falling_rows.nd rfl (Or.inl rfl)) (pss_cons (ps_set (i := 4) sc_falling_rows.nd rfl (Or.inr rfl) (pe_slice (r := rSlL K) sl_list (pv 1) po_none (po_some (pe_op op_add (pv 3) pe_int))))
  (pss_one (ps_expr (pe_bm PySem.F.plainAttrs_list PySem.F.slot_list_append PySem.F.type_list_append mt_append (pv 2) (pa_cons (pe_callTy (r := rTupOf K) call_tuple_of rfl T.n_tuple bo_tuple (pa_cons (pe_lc (own := [("k", 5)]) rfl sc_falling_rows.nd (pi_range1 rfl T.n_range (pa_cons (pv 0) pa_nil)) (blkOk_by (own := [("k", 5)]) (N := N_falling_rows) (sc := defScope s_falling_rows) (by decide +kernel)) (fun _ _ _ _ _ => (pg_name (i := 5) sc_falling_rows.nd rfl (Or.inl rfl))) (fun _ _ _ _ _ => pts_nil) (fun _ _ _ _ _ => (pe_ifExp (pt_cmpR (r := rIn K false) op_in_seq (pv 5) (pv 4) (by rfl)) pe_int pe_int))) pa_nil)) pa_nil))))))
  (pss_one (ps_ret (pv 2))))), ?_⟩
    walk_at "rd"
    refine ⟨by decide, fun F hF => ?_⟩
    have sF := same_upd (o := .lst []) hF
    have hL1 := sF _ _ hL
    walk_at "rd"
    rw [plc_len]
    refine ⟨by omega, by omega, by omega, by omega, ?_⟩
    rw [show (((b - a : Nat) : Int) - 0).toNat = b - a by omega]
    refine for_it walk_rangeC (fun j σ H1 => ∃ v3 v4 v5, σ = [some (.int n), some (.ref L), some (.ref F), v3, v4, v5] ∧ Same H H1 ∧ ∃ ys, H1 F = some (.lst ys) ∧ ys.length = j ∧ DpAll K H1 ys (((falling n a b).take j).map rD))
      ⟨_, _, _, rfl, sF, [], upd_same, rfl, .nil⟩ (fun _ _ _ _ _ => trivial) (fun j x σ H1 H1' hj hP hY => ?_) (fun σ H1 hP => ?_)
    · obtain ⟨rfl, rfl⟩ := hY
      obtain ⟨v3, v4, v5, rfl, s1, ys, eF, nF, dF⟩ := hP
      have hL2 := s1 _ _ hL
      walk_at "rd"
      refine ⟨L, _, rfl, .inl (.inl hL2), fun c hc => ?_⟩
      have ce : cutV (plc a b) Option.none (some (0 + ((b - a : Nat) : Int) - 1 + ((j : Nat) : Int) * -1 + 1)) = plc a (b - j) := by
        rw [show 0 + ((b - a : Nat) : Int) - 1 + ((j : Nat) : Int) * -1 + 1 = ((b - a - j : Nat) : Int) by omega, cut_to' _ _ (by rw [plc_len]; omega), plc_take (by omega), show a + (b - a - j) = b - j by omega]
      dsimp only
      rw [ce]
      have sc := same_upd (o := .lst (plc a (b - j))) hc
      obtain ⟨H2, eH2⟩ : ∃ H2, H2 = upd H1' c (.lst (plc a (b - j))) := ⟨_, rfl⟩
      have ec : H2 c = some (.lst (plc a (b - j))) := by rw [eH2]; exact upd_same
      rw [← eH2] at sc ⊢
      clear eH2
      have eF2 := sc _ _ eF
      walk_at "rd"
      refine ⟨.inl ⟨rfl, _, .inl (.inl eF2)⟩, ?_⟩
      walk_at "rd"
      refine ⟨(show (-2 ^ 62 : Int) ≤ (n : Int) by omega), (show (n : Int) < 2 ^ 62 by omega), fun E1 hE => ?_⟩
      rw [Int.toNat_natCast]
      refine lc_range (lo := 0) (n := n) (MapAt H2 E1 fun k y _ => y = .int (if a ≤ k ∧ k + j + 1 ≤ b then 1 else 0)) (mapAt_0 hE) (fun q H3 hq hQ => ?_) (fun H3 hQ => ?_)
      · have s3 : Same H2 H3 := by obtain ⟨_, q, _⟩ := hQ; exact q
        walk_at "rd"
        refine ⟨c, _, rfl, .inl (.inl (.inl (s3 _ _ ec))), rfl, plc_flat _ _, ?_⟩
        have ei : (if false = true then !inV (V.int (0 + (q : Int))) (plc a (b - j)) else inV (V.int (0 + (q : Int))) (plc a (b - j))) = decide (a ≤ q ∧ q < b - j) := by rw [if_neg Bool.false_ne_true, Int.zero_add, plc_in]
        rw [ei]
        refine ⟨_, rfl, ?_⟩
        refine iteD (fun g => ?_) (fun g => ?_)
        · exact mapAt_step hQ hE (by rw [sizeLine_eq]; omega) (Same.refl _) (fun _ _ _ _ h _ => h) (by rw [if_pos (by omega)])
        · exact mapAt_step hQ hE (by rw [sizeLine_eq]; omega) (Same.refl _) (fun _ _ _ _ h _ => h) (by rw [if_neg (by omega)])
      · obtain ⟨zs, s3, e3, l3, r3⟩ := hQ
        have ez := items_eq (f := fun k => V.int (if a ≤ k ∧ k + j + 1 ≤ b then 1 else 0)) l3 r3
        walk_at "rd"
        refine ⟨_, _, rfl, .inl ⟨.inl (.inl e3), fun l hl => ?_⟩⟩
        have s4 := Same.trans s3 (same_upd (o := .tup zs) hl)
        have eF4 := s4 _ _ eF2
        refine ⟨_, _, _, rfl, rfl, eF4, by rw [nF, sizeLine_eq]; omega, ?_⟩
        walk_at "rd"
        refine ⟨_, _, _, rfl, fun x o e => ?_, _, upd_same, by simp [nF], ?_⟩
        · rw [upd_ne (ne_of_none e hF)]
          exact s4 _ _ (sc _ _ (s1 _ _ e))
        · have tl : Tp (upd H3 l (.tup zs)) (upd (upd H3 l (.tup zs)) F (.lst (ys ++ [V.ref l]))) := tp_lst eF4
          have e5 : (falling n a b).take (j + 1) = (falling n a b).take j ++ [(List.range n).map fun k => if a ≤ k ∧ k + j + 1 ≤ b then 1 else 0] := by
            rw [List.take_succ]
            congr 1
            rw [falling, List.getElem?_map, List.getElem?_range hj]
            rfl
          rw [e5, List.map_append]
          refine dpAll_app (DpAll.tp tl _ _ (tOnly_rows _) (DpAll.same (Same.trans sc s4) _ _ dF)) (.cons (dp_ints (tl.sqt (.inl (.inl ?_)))) .nil)
          rw [upd_same, ez, List.map_map]
          rfl
    · obtain ⟨v3, v4, v5, rfl, s1, ys, eF, nF, dF⟩ := hP
      walk_at "rd"
      refine k F H1 ys s1 eF hF ?_
      rw [List.take_of_length_le (by simp [falling])] at dF
      exact dF
end

section
variable {P : Program} {w : World} {K : PySem.W.Frag} {mg : Str → Option Value} {base : Heap}
theorem plc_snoc {a b : Nat} (h : a ≤ b) : plc a (b + 1) = plc a b ++ [V.int ((b : Nat) : Int)] := by
  unfold plc
  rw [show b + 1 - a = (b - a) + 1 by omega, List.range_succ, List.map_append]
  congr 1
  simp
  omega
theorem plc_none {a b : Nat} (h : b ≤ a) : plc a b = [] := by
  unfold plc
  rw [show b - a = 0 by omega]; rfl
theorem rg_plc (n : Nat) : rgV 0 (n : Int) = plc 0 n := by
  unfold rgV plc
  rw [show ((n : Int) - 0).toNat = n - 0 by omega]
  rfl
def sp_block_rows (K : PySem.W.Frag) : Sp := fun vs H Q _ => ∃ (n c : Nat) (L : Addr), vs = [.int n, .ref L] ∧ n ≤ 4 ∧ 1 ≤ c ∧ c < n ∧ H L = some (.lst (plc 0 c)) ∧ ∀ p H' xs, Same H H' → H' p = some (.tup xs) → DpAll K H' xs ((falling n 0 c ++ falling n c n).map rD) → Q (.ref p) H'
theorem ok_block_rows (T : Txt K mg) : FnOk P w K mg base CX0 2 T.block_rows.f T.block_rows.fd P_block_rows (sp_block_rows K) := by
  refine T.block_rows.F.ok sc_block_rows (fun vs H Q E h => ?_) (fun cdv A outer s H vs Q E hr h => ?_)
  · obtain ⟨n, c, L, rfl, _⟩ := h; rfl
  · obtain ⟨n, c, L, rfl, hn4, hc1, hc2, hL, k⟩ := h
    refine ⟨_, (pss_cons (ps_setLc (i := 2) (own := [("place", 3)]) rfl sc_block_rows.nd rfl rfl (sw_true rfl rfl rfl (by decide +kernel)) (pi_range1 rfl T.n_range (pa_cons (pv 0) pa_nil)) (blkOk_by (own := [("place", 3)]) (N := N_block_rows) (sc := defScope s_block_rows) (by decide +kernel)) (fun _ _ _ _ _ => (pg_name (i := 3) sc_block_rows.nd rfl (Or.inl rfl))) (fun _ _ _ _ _ => pts_one (pt_cmpR (r := rIn K true) op_notIn_seq (pv 3) (pv 1) (by rfl))) (fun _ _ _ _ _ => (pv 3)))
  (pss_one (ps_ret (pe_callTy (r := rTupOf K) call_tuple_of rfl T.n_tuple bo_tuple (pa_cons (pe_op op_cat (pe_call (ok_falling_rows T) (hr.mono (by decide)) rfl T.falling_rows.g T.falling_rows.F.kp (b_falling_rows T) .nil pass0 (pa_cons (pv 0) (pa_cons (pv 1) pa_nil))) (pe_call (ok_falling_rows T) (hr.mono (by decide)) rfl T.falling_rows.g T.falling_rows.F.kp (b_falling_rows T) .nil pass0 (pa_cons (pv 0) (pa_cons (pv 2) pa_nil)))) pa_nil))))), ?_⟩
    walk_at "rd"
    refine ⟨(by omega), (by omega), fun D hD => ?_⟩
    rw [Int.toNat_natCast]
    refine lc_range (lo := 0) (n := n) (fun i H1 => Same H H1 ∧ H1 D = some (.lst (plc c i))) ⟨same_upd hD, by rw [plc_none (by omega)]; exact upd_same⟩ (fun i H1 hi q => ?_) (fun H1 q => ?_)
    · obtain ⟨s1, e1⟩ := q
      walk_at "rd"
      refine ⟨L, _, rfl, .inl (.inl (.inl (s1 _ _ hL))), rfl, plc_flat _ _, ?_⟩
      have ei : (if true = true then !inV (V.int (0 + (i : Int))) (plc 0 c) else inV (V.int (0 + (i : Int))) (plc 0 c)) = !decide (0 ≤ i ∧ i < c) := by rw [if_pos rfl, Int.zero_add, plc_in]
      rw [ei]
      refine ⟨_, rfl, ?_⟩
      refine iteDn (fun g => ?_) (fun g => ?_)
      · walk_at "rd"
        refine ⟨_, e1, by rw [plc_len, sizeLine_eq]; omega, fun b o e => (upd_ne (ne_of_none e hD)).trans (s1 _ _ e), ?_⟩
        rw [upd_same, plc_snoc (by omega), Int.zero_add]
      · refine ⟨s1, ?_⟩
        rw [plc_none (by omega)] at e1 ⊢
        exact e1
    · obtain ⟨s1, e1⟩ := q
      walk_at "rd"
      refine ⟨n, 0, c, L, rfl, hn4, by omega, by omega, s1 _ _ hL, fun p H2 xs s2 e2 n2 d2 => ?_⟩
      walk_at "rd"
      refine ⟨n, c, n, D, rfl, hn4, by omega, by omega, s2 _ _ e1, fun q H3 ys s3 e3 n3 d3 => ?_⟩
      refine ⟨_, _, _, _, rfl, rfl, s3 _ _ e2, e3, ?_, fun r hr' => ?_⟩
      · have h1 := Toy.DpAll.len d2
        have h2 := Toy.DpAll.len d3
        simp [falling] at h1 h2
        rw [sizeLine_eq]
        omega
      refine ⟨_, _, rfl, .inl ⟨.inl (.inl upd_same), fun l hl => ?_⟩⟩
      have s4 : Same H3 (upd (upd H3 r (.lst (xs ++ ys))) l (.tup (xs ++ ys))) := Same.trans (same_upd hr') (same_upd hl)
      refine k l _ _ (Same.trans s1 (Same.trans s2 (Same.trans s3 s4))) upd_same ?_
      rw [List.map_append]
      exact dpAll_app (DpAll.same (Same.trans s3 s4) _ _ d2) (DpAll.same s4 _ _ d3)
theorem rep_flat (n : Nat) (x : V) : (List.replicate n [x]).flatten = List.replicate n x := by
  induction n with
  | zero => rfl
  | succ m ih => rw [List.replicate_succ, List.flatten_cons, ih]; rfl
theorem shaped_ints {r : List Int} (h : r.length ≤ 4) : SeqAt.shaped (rD r) = true := by
  match r, h with
  | [], _ => rfl
  | [_], _ => rfl
  | [_, _], _ => rfl
  | [_, _, _], _ => rfl
  | [_, _, _, _], _ => rfl
theorem shLex : SeqAt.shaped (.str sLex) = true := by kernel_rfl
theorem shDeg : SeqAt.shaped (.str sDeg) = true := by kernel_rfl
theorem shDrl : SeqAt.shaped (.str sDrl) = true := by kernel_rfl
theorem shBlk : SeqAt.shaped (.str sBlk) = true := by kernel_rfl
theorem shWts : SeqAt.shaped (.str sWts) = true := by kernel_rfl
theorem shaped_ord {n : Nat} {o : Ord} (hn : n ≤ 4) (ho : OrdOk n o) : SeqAt.shaped (oD o) = true := by
  cases o with
  | lex => kernel_rfl
  | deglex => kernel_rfl
  | drl => kernel_rfl
  | block k => kernel_rfl
  | wts ws =>
    have h : ws.length ≤ 4 := by have := ho.1; omega
    match ws, h with
    | [], _ => kernel_rfl
    | [_], _ => kernel_rfl
    | [_, _], _ => kernel_rfl
    | [_, _, _], _ => kernel_rfl
    | [_, _, _, _], _ => kernel_rfl
/-- order's value, the rows -/
def sp_rows_of (K : PySem.W.Frag) : Sp := fun vs H Q _ => ∃ (n : Nat) (o : Ord) (v : V), vs = [.int n, v] ∧ 1 ≤ n ∧ n ≤ 4 ∧ OrdOk n o ∧ Dp K H v (oD o) ∧ ∀ p H' xs, Same H H' → H' p = some (.tup xs) → DpAll K H' xs ((rowsL n o).map rD) → Q (.ref p) H'
theorem ok_rows_of (T : Txt K mg) : FnOk P w K mg base CX0 3 T.rows_of.f T.rows_of.fd P_rows_of (sp_rows_of K) := by
  refine T.rows_of.F.ok sc_rows_of (fun vs H Q E h => ?_) (fun cdv A outer s H vs Q E hr h => ?_)
  · obtain ⟨n, o, v, rfl, _⟩ := h; rfl
  · obtain ⟨n, o, v, rfl, hn, hn4, ho, hv, k⟩ := h
    refine ⟨_, (pss_cons (ps_if (pt_cmpR (op_eqD hr.units) (pv 1) pe_str (nomark _)) (pss_one (ps_ret (pe_callTy (r := rTupOf K) call_tuple_of rfl T.n_tuple bo_tuple (pa_cons (pe_call (ok_single_rows T) (hr.mono (by decide)) rfl T.single_rows.g T.single_rows.F.kp (b_single_rows T) .nil pass0 (pa_cons (pv 0) pa_nil)) pa_nil)))) pss_nil)
  (pss_cons (ps_if (pt_cmpR (op_eqD hr.units) (pv 1) pe_str (nomark _)) (pss_one (ps_ret (pe_callTy (r := rTupOf K) call_tuple_of rfl T.n_tuple bo_tuple (pa_cons (pe_op op_cat (pe_lst (pa_cons (pe_op (r := rRepA K) op_repA (pe_tup (pa_cons pe_int pa_nil)) (pv 0)) pa_nil)) (pe_call (ok_single_rows T) (hr.mono (by decide)) rfl T.single_rows.g T.single_rows.F.kp (b_single_rows T) .nil pass0 (pa_cons (pv 0) pa_nil))) pa_nil)))) pss_nil)
  (pss_cons (ps_set (i := 2) sc_rows_of.nd rfl (Or.inl rfl) (pe_listRg rfl rfl T.n_list (prg_1 rfl T.n_range (pv 0))))
  (pss_cons (ps_if (pt_cmpR (op_eqD hr.units) (pv 1) pe_str (nomark _)) (pss_one (ps_ret (pe_callTy (r := rTupOf K) call_tuple_of rfl T.n_tuple bo_tuple (pa_cons (pe_call (ok_falling_rows T) (hr.mono (by decide)) rfl T.falling_rows.g T.falling_rows.F.kp (b_falling_rows T) .nil pass0 (pa_cons (pv 0) (pa_cons (pv 2) pa_nil))) pa_nil)))) pss_nil)
  (pss_cons (ps_if (pt_cmpR (op_eqD hr.units) (pe_ix (r := rIxT K) ix_tup (pv 1) pe_int (fun _ _ => rfl)) pe_str (nomark _)) (pss_one (ps_ret (pe_call (ok_block_rows T) (hr.mono (by decide)) rfl T.block_rows.g T.block_rows.F.kp (b_block_rows T) .nil pass0 (pa_cons (pv 0) (pa_cons (pe_slice (r := rSlL K) sl_list (pv 2) po_none (po_some (pe_ix (r := rIxT K) ix_tup (pv 1) pe_int (fun _ _ => rfl)))) pa_nil))))) pss_nil)
  (pss_one (ps_ret (pe_callTy (r := rTupOf K) call_tuple_of rfl T.n_tuple bo_tuple (pa_cons (pe_op op_cat (pe_lst (pa_cons (pe_ix (r := rIxT K) ix_tup (pv 1) pe_int (fun _ _ => rfl)) pa_nil)) (pe_call (ok_falling_rows T) (hr.mono (by decide)) rfl T.falling_rows.g T.falling_rows.F.kp (b_falling_rows T) .nil pass0 (pa_cons (pv 0) (pa_cons (pv 2) pa_nil)))) pa_nil))))))))), ?_⟩
    have sh : SeqAt.shaped (oD o) = true := shaped_ord hn4 ho
    cases o with
    | lex =>
      walk_at "rd"
      refine ⟨_, _, hv, .str _, sh, shLex, ?_⟩
      walk_at "rd"
      refine ⟨hn4, fun p H1 xs s1 e1 n1 d1 => ?_⟩
      walk_at "rd"
      refine ⟨_, _, rfl, .inl ⟨.inl (.inl e1), fun l hl => ?_⟩⟩
      exact k l _ xs (Same.trans s1 (same_upd hl)) upd_same (DpAll.same (same_upd hl) _ _ d1)
    | deglex =>
      walk_at "rd"
      refine ⟨_, _, hv, .str _, sh, shLex, ?_⟩
      walk_at "rd"
      refine ⟨_, _, hv, .str _, sh, shDeg, ?_⟩
      walk_at "rd"
      refine ⟨(show 1 ≤ sizeLine by decide), fun t ht => ?_⟩
      walk_at "rd"
      have one : ∀ {t' : Addr} {H1 : Hp}, Same H H1 → H1 t' = some (.tup (List.replicate n (V.int 1))) → ∀ l, H1 l = Option.none → tCall (sp_single_rows K) [] E0 (tCons (tVar 0) tNil) (L2.start N_rows_of [V.int n, v]) (upd H1 l (.lst [.ref t'])) (fun y H2 => rCat (.ref l) y H2 fun z H3 => rTupOf K [z] H3 Q) := by
        intro t' H1 s1 e1 l hl
        walk_at "rd"
        refine ⟨hn4, fun p H2 xs s2 e2 n2 d2 => ?_⟩
        have s12 : Same H1 H2 := Same.trans (same_upd hl) s2
        refine ⟨_, _, _, _, rfl, rfl, s2 _ _ upd_same, e2, ?_, fun q hq => ?_⟩
        · have hx : xs.length = n := by
            have := Toy.DpAll.len d2
            rw [this]
            simp [singles]
          rw [sizeLine_eq]
          simp
          omega
        refine ⟨_, _, rfl, .inl ⟨.inl (.inl upd_same), fun r hr' => ?_⟩⟩
        have s3 : Same H2 (upd (upd H2 q (.lst ([.ref t'] ++ xs))) r (.tup ([.ref t'] ++ xs))) := Same.trans (same_upd hq) (same_upd hr')
        refine k r _ _ (Same.trans s1 (Same.trans s12 s3)) upd_same (.cons ?_ (DpAll.same s3 _ _ d2))
        refine dp_ints (.inl (.inl ?_))
        rw [List.map_replicate]
        exact s3 _ _ (s12 _ _ e1)
      by_cases h1 : n = 1
      · subst h1
        refine .inr ⟨_, _, rfl, rfl, .inl (.inl upd_same), ?_⟩
        walk_at "rd"
        refine ⟨(show 1 ≤ sizeLine by decide), fun l hl => one (same_upd ht) upd_same l hl⟩
      · refine .inl ⟨_, _, _, rfl, rfl, .inl (.inl upd_same), (by simp), (show (2 : Int) ≤ (n : Int) by omega), (show (n : Int) ≤ 1000 by omega), (show 1 ≤ 1000 by decide), fun t2 ht2 => ?_⟩
        walk_at "rd"
        refine ⟨(show 1 ≤ sizeLine by decide), fun l hl => one (Same.trans (same_upd ht) (same_upd ht2)) ?_ l hl⟩
        rw [upd_same, Int.toNat_natCast]
        rw [rep_flat]
    | drl =>
      walk_at "rd"
      refine ⟨_, _, hv, .str _, sh, shLex, ?_⟩
      walk_at "rd"
      refine ⟨_, _, hv, .str _, sh, shDeg, ?_⟩
      walk_at "rd"
      refine ⟨RgOk.of_le (by omega) (by omega) (by omega) (by omega), fun L hL => ?_⟩
      rw [rg_plc]
      have s1 := same_upd (o := .lst (plc 0 n)) hL
      walk_at "rd"
      refine ⟨_, _, Dp.same s1 _ _ hv, .str _, sh, shDrl, ?_⟩
      walk_at "rd"
      refine ⟨n, 0, n, L, rfl, hn4, Nat.zero_le _, Nat.le_refl _, upd_same, fun p H1 xs s2 e1 n1 d1 => ?_⟩
      walk_at "rd"
      refine ⟨_, _, rfl, .inl ⟨.inl (.inl e1), fun l hl => ?_⟩⟩
      exact k l _ xs (Same.trans s1 (Same.trans s2 (same_upd hl))) upd_same (DpAll.same (same_upd hl) _ _ d1)
    | block c =>
      obtain ⟨hc1, hc2⟩ := ho
      cases hv with
      | @tup a xs0 _ hT hA =>
      cases hA with
      | cons hx0 hA =>
      cases hx0
      cases hA with
      | cons hx1 hA =>
      cases hx1
      cases hA
      have hv : Dp K H (.ref a) (oD (.block c)) := .tup hT (.cons (.str _) (.cons (.int _) .nil))
      walk_at "rd"
      refine ⟨_, _, hv, .str _, sh, shLex, ?_⟩
      walk_at "rd"
      refine ⟨_, _, hv, .str _, sh, shDeg, ?_⟩
      walk_at "rd"
      refine ⟨RgOk.of_le (by omega) (by omega) (by omega) (by omega), fun L hL => ?_⟩
      rw [rg_plc]
      have s1 := same_upd (o := .lst (plc 0 n)) hL
      have hT1 := Toy.Same.tup s1 hT
      walk_at "rd"
      refine ⟨_, _, Dp.same s1 _ _ hv, .str _, sh, shDrl, ?_⟩
      walk_at "rd"
      refine ⟨_, _, .str _, .str _, shBlk, shBlk, ?_⟩
      walk_at "rd"
      refine ⟨L, _, rfl, .inl (.inl upd_same), fun c' hc' => ?_⟩
      rw [cut_to' _ _ (by rw [plc_len]; omega), plc_take (by omega), Nat.zero_add]
      have s2 := same_upd (o := .lst (plc 0 c)) hc'
      walk_at "rd"
      exact ⟨n, c, c', rfl, hn4, hc1, hc2, upd_same, fun p H1 xs s3 e1 d1 => k p H1 xs (Same.trans s1 (Same.trans s2 s3)) e1 d1⟩
    | wts ws =>
      obtain ⟨hw1, hw2⟩ := ho
      cases hv with
      | @tup a xs0 _ hT hA =>
      cases hA with
      | cons hx0 hA =>
      cases hx0
      cases hA with
      | @cons wv _ _ _ hx1 hA =>
      cases hA
      have hv : Dp K H (.ref a) (oD (.wts ws)) := .tup hT (.cons (.str _) (.cons hx1 .nil))
      walk_at "rd"
      refine ⟨_, _, hv, .str _, sh, shLex, ?_⟩
      walk_at "rd"
      refine ⟨_, _, hv, .str _, sh, shDeg, ?_⟩
      walk_at "rd"
      refine ⟨RgOk.of_le (by omega) (by omega) (by omega) (by omega), fun L hL => ?_⟩
      rw [rg_plc]
      have s1 := same_upd (o := .lst (plc 0 n)) hL
      have hT1 := Toy.Same.tup s1 hT
      walk_at "rd"
      refine ⟨_, _, Dp.same s1 _ _ hv, .str _, sh, shDrl, ?_⟩
      walk_at "rd"
      refine ⟨_, _, .str _, .str _, shWts, shBlk, ?_⟩
      walk_at "rd"
      refine ⟨(show 1 ≤ sizeLine by decide), fun t ht => ?_⟩
      have s2 := same_upd (o := .lst [wv]) ht
      walk_at "rd"
      refine ⟨n, 0, n, L, rfl, hn4, Nat.zero_le _, Nat.le_refl _, s2 _ _ upd_same, fun p H1 xs s3 e1 n1 d1 => ?_⟩
      refine ⟨_, _, _, _, rfl, rfl, s3 _ _ upd_same, e1, ?_, fun r hr' => ?_⟩
      · have h1 := Toy.DpAll.len d1
        simp [falling] at h1
        rw [sizeLine_eq]
        simp
        omega
      refine ⟨_, _, rfl, .inl ⟨.inl (.inl upd_same), fun l hl => ?_⟩⟩
      have s4 : Same H1 (upd (upd H1 r (.lst ([wv] ++ xs))) l (.tup ([wv] ++ xs))) := Same.trans (same_upd hr') (same_upd hl)
      have s0 := Same.trans s1 (Same.trans s2 (Same.trans s3 s4))
      exact k l _ _ s0 upd_same (.cons (Dp.same s0 _ _ hx1) (DpAll.same s4 _ _ d1))
end

theorem em_c {p G : Prop} (a : p → G) (b : ¬ p → G) : G := by
  by_cases h : p
  · exact a h
  · exact b h
theorem pe_fldK {X : Cx} {K : PySem.W.Frag} {e : Expr} {f : Str} {pos : Pos} {ta : TE} (hK : X.K = K) (he : PE X e ta) (hb : attributeBase e f X.env (eval e X.env) = eval e X.env) : PE X (.Attribute e f pos) (tFld K ta f) := by
  subst hK
  exact pe_fld he hb
/-- the rows of an order, as far as the numbers need it -/
def RowsOk (n : Nat) (rs : List (List Int)) : Prop := rs.length ≤ 5 ∧ ∀ r ∈ rs, r.length = n ∧ ∀ e ∈ r, 0 ≤ e ∧ e ≤ 20
def foldU (rs : List (List Int)) (p : Nat) : Int := rs.foldl (fun t row => t * PLi + row.getD p 0) 0
theorem pli_eq : PLi = 281474976710656 := by decide +kernel
theorem foldU_snoc (rs : List (List Int)) (r : List Int) (p : Nat) : foldU (rs ++ [r]) p = foldU rs p * PLi + r.getD p 0 := by
  unfold foldU
  rw [List.foldl_append]
  rfl
theorem foldU_bd {n : Nat} : ∀ (m : Nat) (rs : List (List Int)) (p : Nat), rs.length = m → (∀ r ∈ rs, r.length = n ∧ ∀ e ∈ r, 0 ≤ e ∧ e ≤ 20) → 0 ≤ foldU rs p ∧ foldU rs p < 2 ^ (50 * m + 1) := by
  intro m
  induction m with
  | zero =>
    intro rs p h _
    have : rs = [] := List.eq_nil_of_length_eq_zero h
    subst this
    exact ⟨Int.le_refl _, by show (0 : Int) < 2; decide⟩
  | succ m ih =>
    intro rs p h hr
    obtain ⟨qs, r, rfl⟩ : ∃ qs r, rs = qs ++ [r] := by
      have hne : rs ≠ [] := by intro z; subst z; simp at h
      exact ⟨rs.dropLast, rs.getLast hne, (List.dropLast_concat_getLast hne).symm⟩
    have h1 := ih qs p (by simpa using h) fun r hr' => hr r (by simp [hr'])
    have h2 : 0 ≤ r.getD p 0 ∧ r.getD p 0 ≤ 20 := by
      by_cases q : p < r.length
      · rw [List.getD_eq_getElem?_getD, List.getElem?_eq_getElem q]
        exact (hr r (by simp)).2 _ (List.getElem_mem q)
      · rw [List.getD_eq_getElem?_getD, List.getElem?_eq_none (by omega)]
        exact ⟨by decide, by decide⟩
    rw [foldU_snoc, pli_eq]
    have e : (2 : Int) ^ (50 * (m + 1) + 1) = 2 ^ (50 * m + 1) * 1125899906842624 := by
      rw [show 50 * (m + 1) + 1 = (50 * m + 1) + 50 by omega, Int.pow_add]
      rfl
    rw [e]
    obtain ⟨a1, a2⟩ := h1
    have a3 : (1 : Int) ≤ 2 ^ (50 * m + 1) := by omega
    omega
theorem foldU_abs {n m : Nat} {rs : List (List Int)} {p : Nat} (h : rs.length ≤ 5) (hr : ∀ r ∈ rs, r.length = n ∧ ∀ e ∈ r, 0 ≤ e ∧ e ≤ 20) : (foldU rs p).natAbs < 2 ^ 251 := by
  have h1 := foldU_bd (n := n) rs.length rs p rfl hr
  have h2 : (2 : Int) ^ (50 * rs.length + 1) ≤ 2 ^ 251 := by
    have : (2 : Nat) ^ (50 * rs.length + 1) ≤ 2 ^ 251 := Nat.pow_le_pow_right (by decide) (by omega)
    exact_mod_cast this
  have e : ((2 ^ 251 : Nat) : Int) = (2 : Int) ^ 251 := by decide +kernel
  omega
theorem dpAll_at {K : PySem.W.Frag} {H : Hp} : ∀ {xs : List V} {ds : List PyData} {i : Nat} {x : V} {d : PyData}, DpAll K H xs ds → xs[i]? = some x → ds[i]? = some d → Dp K H x d
  | _, _, _, _, _, .nil, h, _ => by simp at h
  | _, _, 0, _, _, .cons a _, h1, h2 => by
    simp at h1 h2
    subst h1 h2
    exact a
  | _, _, i + 1, _, _, .cons _ t, h1, h2 => dpAll_at (i := i) t (by simpa using h1) (by simpa using h2)
theorem dpAll_ints_eq {K : PySem.W.Frag} {H : Hp} : ∀ {xs : List V} {r : List Int}, DpAll K H xs (r.map .int) → xs = r.map V.int
  | _, [], h => by cases h; rfl
  | _, n :: r, h => by
    cases h with
    | cons a t =>
      cases a
      rw [dpAll_ints_eq t]
      rfl
theorem shl_nn {i : Int} {j n : Nat} {J : Int} (e : J = (j : Int)) (h : i.natAbs < 2 ^ n) (hn : n + j ≤ 134217728) : CShl i J := by
  rw [e]
  exact shl_ok h hn
section
variable {P : Program} {w : World} {K : PySem.W.Frag} {mg : Str → Option Value} {base : Heap}
def sp_Coding_unit (C : Addr) (K : PySem.W.Frag) : Sp := fun vs H Q _ => ∃ (a dx R S : Addr) (fs : List (Str × V)) (n p : Nat) (rs : List (List Int)) (xs : List V), vs = [.ref a, .int p] ∧ 1 ≤ n ∧ n ≤ 4 ∧ p < n ∧ RowsOk n rs ∧
  H a = some (.ins C dx fs) ∧ fs.lookup ("rows" : Str) = some (.ref R) ∧ SqT K H R xs ∧ DpAll K H xs (rs.map rD) ∧ fs.lookup ("many" : Str) = some (.int n) ∧ fs.lookup ("shifts" : Str) = some (.ref S) ∧ H S = some (.lst ((List.range n).map fun k => V.int (48 * (n - 1 - k : Nat)))) ∧
  Q (.int (unitN n rs p)) H
theorem ok_Coding_unit (T : Txt K mg) : FnOk P w K mg base CX0 1 T.Coding.fu T.Coding.fdu P_Coding_unit (sp_Coding_unit T.Coding.C K) := by
  refine T.Coding.Fu.ok sc_Coding_unit (fun vs H Q E h => ?_) (fun cdv A outer s H vs Q E hr h => ?_)
  · obtain ⟨a, dx, R, S, fs, n, p, rs, xs, rfl, _⟩ := h; rfl
  · obtain ⟨a, dx, R, S, fs, n, p, rs, xs, rfl, hn1, hn4, hp, ⟨hr5, hrs⟩, ha, fR, hR, dR, fM, fS, hS, k⟩ := h
    refine ⟨_, (pss_cons (ps_set (i := 2) sc_Coding_unit.nd rfl (Or.inl rfl) pe_int)
  (pss_cons (ps_for PassesOwn.never rfl (pi_tup (pe_fld (pv 0) rfl)) (pg_name (i := 3) sc_Coding_unit.nd rfl (Or.inl rfl)) (pss_one (ps_set (i := 2) sc_Coding_unit.nd rfl (Or.inl rfl) (pe_op op_add (pe_op op_mulW (pv 2) (pe_glob rfl T.g_PLACE (v := .int PLi) ⟨_, rfl⟩)) (pe_ix (r := rIxT K) ix_tup (pv 3) (pv 1) (fun _ _ => rfl))))))
  (pss_one (ps_ret (pe_op op_add (pe_op op_shlW (pv 2) (pe_op op_mulW (pe_glob rfl T.g_WIDTH (v := .int 48) ⟨_, rfl⟩) (pe_fld (pv 0) rfl))) (pe_op op_shlW pe_int (pe_ix (r := rIxL K) ix_list (pe_fld (pv 0) rfl) (pv 1) (fun _ _ => rfl)))))))), ?_⟩
    walk_at "rd"
    refine ⟨_, _, _, _, _, rfl, ha, T.Coding.cls, T.Coding.n_rows, fR, ?_⟩
    refine ⟨R, rfl, ⟨xs, hR⟩, ?_⟩
    have hlen : xs.length = rs.length := by have := Toy.DpAll.len dR; simpa using this
    refine for_tup (xs := xs) (fun i σ H' => H' = H ∧ ∃ y, σ = [some (.ref a), some (.int p), some (.int (foldU (rs.take i) p)), y]) ⟨rfl, _, rfl⟩ (fun i σ H' _ q => by rw [q.1]; exact hR) (fun i x σ H' hx q => ?_) (fun σ H' q => ?_)
    · obtain ⟨rfl, y, rfl⟩ := q
      have hi : i < rs.length := by rw [← hlen]; exact (List.getElem?_eq_some_iff.mp hx).1
      have dx1 : Dp K H' x (rD rs[i]) := dpAll_at dR hx (by rw [List.getElem?_map, List.getElem?_eq_getElem hi]; rfl)
      cases dx1 with
      | @tup b ys _ hb hbs =>
      have ey := dpAll_ints_eq hbs
      subst ey
      have hri := hrs _ (List.getElem_mem hi)
      have hpi : p < rs[i].length := by rw [hri.1]; exact hp
      have hat : atI (rs[i].map V.int) (p : Int) = some (V.int (rs[i].getD p 0)) := by
        refine atI_nat ?_
        rw [List.getElem?_map, List.getElem?_eq_getElem hpi, List.getD_eq_getElem?_getD, List.getElem?_eq_getElem hpi]
        rfl
      have bd := foldU_abs (n := n) (m := 0) (rs := rs.take i) (p := p) (by simp; omega) fun r hr' => hrs r (List.mem_of_mem_take hr')
      walk_at "rd"
      refine ⟨wide_mul (a := 251) (b := 49) bd (by rw [pli_eq]; decide) (by decide) (by decide) (by decide), ?_⟩
      walk_at "rd"
      refine ⟨_, _, _, _, rfl, rfl, hb, hat, ?_⟩
      walk_at "rd"
      have e : foldU (rs.take (i + 1)) p = foldU (rs.take i) p * PLi + rs[i].getD p 0 := by
        rw [List.take_succ, List.getElem?_eq_getElem hi]
        exact foldU_snoc _ _ _
      exact ⟨_, by rw [e]; rfl⟩
    · obtain ⟨rfl, y, rfl⟩ := q
      have bd := foldU_abs (n := n) (m := 0) (rs := rs) (p := p) hr5 hrs
      rw [hlen, List.take_length]
      walk_at "rd"
      refine ⟨_, _, _, _, _, rfl, ha, T.Coding.cls, T.Coding.n_many, fM, ?_⟩
      walk_at "rd"
      refine ⟨shl_nn (j := 48 * n) (n := 251) (by omega) bd (by omega), ?_⟩
      walk_at "rd"
      refine ⟨_, _, _, _, _, rfl, ha, T.Coding.cls, T.Coding.n_shifts, fS, ?_⟩
      have hat : atI ((List.range n).map fun k => V.int (48 * (n - 1 - k : Nat))) (p : Int) = some (V.int (48 * (n - 1 - p : Nat))) := by
        refine atI_nat ?_
        rw [List.getElem?_map, List.getElem?_range hp]
        rfl
      walk_at "rd"
      refine ⟨_, _, _, _, rfl, rfl, .inl (.inl hS), hat, ?_⟩
      walk_at "rd"
      refine ⟨shl_nn (j := 48 * (n - 1 - p)) (n := 1) (by omega) (by decide) (by omega), ?_⟩
      walk_at "rd"
      have e1 : (48 * (n : Int)).toNat = 48 * n := by omega
      have e2 : (48 * ((n - 1 - p : Nat) : Int)).toNat = 48 * (n - 1 - p) := by omega
      show Q (V.int (foldU rs p * 2 ^ (48 * (n : Int)).toNat + 1 * 2 ^ (48 * ((n - 1 - p : Nat) : Int)).toNat)) _
      rw [e1, e2, Int.one_mul]
      exact k
/-- a Coding of these rows stands at a -/
def CodO (C : Addr) (K : PySem.W.Frag) (H : Hp) (a : Addr) (n : Nat) (rs : List (List Int)) : Prop := ∃ (dx L : Addr) (fs : List (Str × V)) (rv : V), H a = some (.ins C dx fs) ∧ fs.lookup ("many" : Str) = some (.int n) ∧ fs.lookup ("rows" : Str) = some rv ∧
  Dp K H rv (rsD rs) ∧ fs.lookup ("units" : Str) = some (.ref L) ∧ H L = some (.lst ((unitsL n rs).map V.int)) ∧ fs.lookup ("code" : Str) = Option.none
/-- its field -/
def shiftsL (n : Nat) : List Int := (List.range n).map fun k => 48 * (n - 1 - k : Nat)
/-- its shifts -/
def CodS (H : Hp) (fs : List (Str × V)) : Prop := ∃ (S : Addr) (n : Nat), fs.lookup ("many" : Str) = some (.int n) ∧ fs.lookup ("shifts" : Str) = some (.ref S) ∧ H S = some (.lst ((shiftsL n).map V.int)) ∧ fs.lookup ("exponents" : Str) = Option.none
def CodF (C : Addr) (H : Hp) (a : Addr) (f : Int) : Prop := ∃ (dx : Addr) (fs : List (Str × V)), H a = some (.ins C dx fs) ∧ fs.lookup ("field" : Str) = some (.int f) ∧ CodS H fs
theorem okD {P : Program} {w : World} {K : PySem.W.Frag} {mg : Str → Option Value} {base : Heap} {x qual : Str} {params : Arguments} {body : List Stmt} {scope : Scope} {dvs : List V} {kws : List (Str × V)} {f : Addr} {fd : FuncData} {N ps : List Str} {k : Nat} {sp : Sp} (F : FunD K x qual params body scope dvs kws f fd) (S : FnScope N ps scope) (len : ∀ vs H Q E, sp vs H Q E → vs.length = ps.length)
    (hbody : ∀ (cdv : Value) (A : Around) (outer : List Env) (s : Shared) (H : Hp) (vs : List V) (Q : VK) (E : XK), Room k (A.deeper (PyProof.Rows.envOfC qual scope s.heap.objs.size f cdv)) → sp vs H Q E →
      ∃ t, PSs (cxOf CX0 P w K mg base N qual scope f cdv A outer s H E).nox body t ∧ t { nx := fun _ H' => Q .non H', rt := Q } (L2.start N vs) H) : FnOk P w K mg base CX0 (k + 1) f fd ps sp := by
  refine F.ok S len fun cdv A outer s H vs Q E hr hsp => ?_
  obtain ⟨t, h, q⟩ := hbody cdv A outer s H vs Q E hr hsp
  exact ⟨t, h.nox, q⟩
def sp_Coding_init (C aE : Addr) (K : PySem.W.Frag) : Sp := fun vs H Q _ => ∃ (a dx : Addr) (f : Int) (n : Nat) (rs : List (List Int)) (rv : V), vs = [.ref a, .int f, .int n, rv, .non, .ref aE] ∧ 1 ≤ n ∧ n ≤ 4 ∧ RowsOk n rs ∧ Dp K H rv (rsD rs) ∧ H a = some (.ins C dx []) ∧
  ∀ H', CodO C K H' a n rs → CodF C H' a f → (∀ b o, b ≠ a → H b = some o → H' b = some o) → Q .non H'
theorem ok_Coding___init__ (T : Txt K mg) : FnOk P w K mg base CX0 2 T.Coding.fi T.Coding.fdi P_Coding___init__ (sp_Coding_init T.Coding.C T.Coding.aE K) := by
  refine okD T.Coding.Fi sc_Coding___init__ (fun vs H Q E h => ?_) (fun cdv A outer s H vs Q E hr h => ?_)
  · obtain ⟨a, dx, f, n, rs, rv, rfl, _⟩ := h; rfl
  · obtain ⟨a, dx, f, n, rs, rv, rfl, hn1, hn4, hrs, hrv, ha, k⟩ := h
    refine ⟨_, (pss_cons (ps_fld (pv 0) (pv 1) rfl)
  (pss_cons (ps_fld (pv 0) (pv 2) rfl)
  (pss_cons (ps_fld (pv 0) (pv 3) rfl)
  (pss_cons (ps_fld (pv 0) (pe_ifExp (pt_cmpR op_isN (pv 4) pe_non (nomark _)) (pe_op (r := rRepA K) op_repA (pe_tup (pa_cons pe_int pa_nil)) (pv 2)) (pv 4)) rfl)
  (pss_cons (ps_fld (pv 0) (pv 5) rfl)
  (pss_cons (ps_fld (pv 0) (pe_lc (own := [("k", 6)]) rfl sc_Coding___init__.nd (pi_range1 rfl T.n_range (pa_cons (pv 2) pa_nil)) (blkOk_by (own := [("k", 6)]) (N := N_Coding___init__) (sc := defScope s_Coding___init__) (by decide +kernel)) (fun _ _ _ _ _ => (pg_name (i := 6) sc_Coding___init__.nd rfl (Or.inl rfl))) (fun _ _ _ _ _ => pts_nil) (fun _ _ _ _ _ => (pe_op op_mulW (pe_glob rfl T.g_WIDTH (v := .int 48) ⟨_, rfl⟩) (pe_op op_sub (pe_op op_sub (pv 2) pe_int) (pv 6))))) rfl)
  (pss_cons (ps_fld (pv 0) (pe_lc (own := [("place", 7)]) rfl sc_Coding___init__.nd (pi_range1 rfl T.n_range (pa_cons (pv 2) pa_nil)) (blkOk_by (own := [("place", 7)]) (N := N_Coding___init__) (sc := defScope s_Coding___init__) (by decide +kernel)) (fun _ _ _ _ _ => (pg_name (i := 7) sc_Coding___init__.nd rfl (Or.inl rfl))) (fun _ _ _ _ _ => pts_nil) (fun _ _ _ _ _ => (pe_meth (pv 0) T.Coding.cls T.Coding.m_unit (ok_Coding_unit T) (hr.mono (by decide)) (b_Coding_unit T) .nil pass0 (pa_cons (pv 7) pa_nil)))) rfl)
  (pss_cons (ps_fld (pv 0) (pe_callB (r := rSumS K) (cr_sumS rfl) rfl T.n_sum bo_sum (pa_cons (pe_lc (own := [("k", 6)]) rfl sc_Coding___init__.nd (pi_tup (pv 5)) (blkOk_by (own := [("k", 6)]) (N := N_Coding___init__) (sc := defScope s_Coding___init__) (by decide +kernel)) (fun _ _ _ _ _ => (pg_name (i := 6) sc_Coding___init__.nd rfl (Or.inl rfl))) (fun _ _ _ _ _ => pts_nil) (fun _ _ _ _ _ => (pe_op op_shlW (pe_glob rfl T.g_MASK (v := .int MKi) ⟨_, rfl⟩) (pe_ix (r := rIxL K) ix_list (pe_fldK (K := K) rfl (pv 0) rfl) (pv 6) (fun _ _ => rfl))))) pa_nil)) rfl)
  (pss_one (ps_fld (pv 0) (pe_callB (r := rSumS K) (cr_sumS rfl) rfl T.n_sum bo_sum (pa_cons (pe_lc (own := [("shift", 8)]) rfl sc_Coding___init__.nd (pi_list (pe_fld (pv 0) rfl)) (blkOk_by (own := [("shift", 8)]) (N := N_Coding___init__) (sc := defScope s_Coding___init__) (by decide +kernel)) (fun _ _ _ _ _ => (pg_name (i := 8) sc_Coding___init__.nd rfl (Or.inl rfl))) (fun _ _ _ _ _ => pts_nil) (fun _ _ _ _ _ => (pe_op op_shlW (pe_op op_fdivZ (pe_glob rfl T.g_PLACE (v := .int PLi) ⟨_, rfl⟩) pe_int) (pv 8)))) pa_nil)) rfl)))))))))), ?_⟩
    walk_at "rd"
    refine ⟨_, _, _, _, rfl, ha, T.Coding.cls, T.Coding.n_field, (by decide), ?_⟩
    walk_at "rd"
    have l1 := length_putF ("field" : Str) (V.int f) []
    have l2 := length_putF ("many" : Str) (V.int n) (putF ("field" : Str) (V.int f) [])
    have l3 := length_putF ("rows" : Str) rv (putF ("many" : Str) (V.int n) (putF ("field" : Str) (V.int f) []))
    simp only [List.length_nil] at l1
    refine ⟨_, _, _, _, rfl, upd_same, T.Coding.cls, T.Coding.n_many, (by omega), ?_⟩
    walk_at "rd"
    refine ⟨_, _, _, _, rfl, upd_same, T.Coding.cls, T.Coding.n_rows, (by omega), ?_⟩
    rw [upd_upd, upd_upd]
    obtain ⟨fs0, e0⟩ : ∃ fs0, fs0 = putF ("rows" : Str) rv (putF ("many" : Str) (V.int n) (putF ("field" : Str) (V.int f) [])) := ⟨_, rfl⟩
    have f0f : fs0.lookup ("field" : Str) = some (.int f) := by rw [e0, lookup_putF, if_neg (by decide), lookup_putF, if_neg (by decide), lookup_putF, if_pos rfl]
    have f0m : fs0.lookup ("many" : Str) = some (.int n) := by rw [e0, lookup_putF, if_neg (by decide), lookup_putF, if_pos rfl]
    have f0r : fs0.lookup ("rows" : Str) = some rv := by rw [e0, lookup_putF, if_pos rfl]
    have f0o : ∀ x : Str, x ≠ "rows" → x ≠ "many" → x ≠ "field" → fs0.lookup x = Option.none := fun x h1 h2 h3 => by rw [e0, lookup_putF, if_neg h1, lookup_putF, if_neg h2, lookup_putF, if_neg h3]; rfl
    rw [← e0] at l3 ⊢
    obtain ⟨G0, eG0⟩ : ∃ G0, G0 = upd H a (.ins T.Coding.C dx fs0) := ⟨_, rfl⟩
    have G0a : G0 a = some (.ins T.Coding.C dx fs0) := by rw [eG0]; exact upd_same
    have G0k : ∀ b o, b ≠ a → H b = some o → G0 b = some o := fun b o h1 h2 => by rw [eG0]; exact (upd_ne h1).trans h2
    rw [← eG0]
    walk_at "rd"
    refine ⟨(show 1 ≤ sizeLine by decide), fun t ht => ?_⟩
    have st := same_upd (o := .tup [V.int 1]) ht
    walk_at "rd"
    refine em_c (p := n = 1) (fun h1 => ?_) (fun h1 => ?_)
    focus
      refine .inr ⟨_, _, rfl, (congrArg (fun m : Nat => V.int (m : Int)) h1), .inl (.inl upd_same), ?_⟩
      obtain ⟨G1, eG1⟩ : ∃ G1, G1 = upd G0 t (.tup [V.int 1]) := ⟨_, rfl⟩
      have sG : Same G0 G1 := by rw [eG1]; exact st
      obtain ⟨gv, egv⟩ : ∃ gv, gv = t := ⟨_, rfl⟩
      rw [← eG1, ← egv]
      clear eG1 egv
    rotate_left
    focus
      refine .inl ⟨_, _, _, rfl, rfl, .inl (.inl upd_same), (by simp), (show (2 : Int) ≤ (n : Int) by omega), (show (n : Int) ≤ 1000 by omega), (show 1 ≤ 1000 by decide), fun t2 ht2 => ?_⟩
      have st2 := Same.trans st (same_upd (o := .tup (List.flatten (List.replicate (n : Int).toNat [V.int 1]))) ht2)
      obtain ⟨G1, eG1⟩ : ∃ G1, G1 = upd (upd G0 t (.tup [V.int 1])) t2 (.tup (List.flatten (List.replicate (n : Int).toNat [V.int 1]))) := ⟨_, rfl⟩
      have sG : Same G0 G1 := by rw [eG1]; exact st2
      obtain ⟨gv, egv⟩ : ∃ gv, gv = t2 := ⟨_, rfl⟩
      rw [← eG1, ← egv]
      clear eG1 egv st2
    all_goals
      walk_at "rd"
      refine ⟨_, _, _, _, rfl, sG _ _ G0a, T.Coding.cls, T.Coding.n_grades, (by omega), ?_⟩
      have lg := length_putF ("grades" : Str) (V.ref gv) fs0
      have lm := length_putF ("marks" : Str) (V.ref T.Coding.aE) (putF ("grades" : Str) (V.ref gv) fs0)
      walk_at "rd"
      refine ⟨_, _, _, _, rfl, upd_same, T.Coding.cls, T.Coding.n_marks, (by omega), ?_⟩
      rw [upd_upd]
      obtain ⟨fs3, e3⟩ : ∃ fs3, fs3 = putF ("marks" : Str) (V.ref T.Coding.aE) (putF ("grades" : Str) (V.ref gv) fs0) := ⟨_, rfl⟩
      have f3x : ∀ x : Str, x ≠ "marks" → x ≠ "grades" → fs3.lookup x = fs0.lookup x := fun x h1 h2 => by rw [e3, lookup_putF, if_neg h1, lookup_putF, if_neg h2]
      have f3f : fs3.lookup ("field" : Str) = some (.int f) := by rw [f3x _ (by decide) (by decide)]; exact f0f
      have f3m : fs3.lookup ("many" : Str) = some (.int n) := by rw [f3x _ (by decide) (by decide)]; exact f0m
      have f3r : fs3.lookup ("rows" : Str) = some rv := by rw [f3x _ (by decide) (by decide)]; exact f0r
      have f3o : ∀ x : Str, x ≠ "rows" → x ≠ "many" → x ≠ "field" → x ≠ "marks" → x ≠ "grades" → fs3.lookup x = Option.none := fun x h1 h2 h3 h4 h5 => by rw [f3x _ h4 h5]; exact f0o x h1 h2 h3
      rw [← e3] at lm ⊢
      obtain ⟨G, eG⟩ : ∃ G, G = upd G1 a (.ins T.Coding.C dx fs3) := ⟨_, rfl⟩
      have Ga : G a = some (.ins T.Coding.C dx fs3) := by rw [eG]; exact upd_same
      have Gk : ∀ b o, b ≠ a → H b = some o → G b = some o := fun b o h1 h2 => by rw [eG]; exact (upd_ne h1).trans (sG _ _ (G0k b o h1 h2))
      rw [← eG]
      walk_at "rd"
      refine ⟨(by omega), (by omega), fun D hD => ?_⟩
      rw [Int.toNat_natCast]
      refine lc_range (lo := 0) (n := n) (MapAt G D fun k y _ => y = .int (48 * (n - 1 - k : Nat))) (mapAt_0 hD) (fun q H2 hq hQ => ?_) (fun H2 hQ => ?_)
      · walk_at "rd"
        refine mapAt_step hQ hD (by rw [sizeLine_eq]; omega) (Same.refl _) (fun _ _ _ _ h _ => h) ?_
        show V.int _ = V.int _
        congr 1
        omega
      obtain ⟨ys, s1, e1, n1, r1⟩ := hQ
      have ey := items_eq (f := fun k => V.int (48 * (n - 1 - k : Nat))) n1 r1
      subst ey
      have a2 := s1 _ _ Ga
      have nD : D ≠ a := fun z => by rw [z, Ga] at hD; cases hD
      walk_at "rd"
      refine ⟨_, _, _, _, rfl, a2, T.Coding.cls, T.Coding.n_shifts, (by omega), ?_⟩
      obtain ⟨fs4, e4⟩ : ∃ fs4, fs4 = putF ("shifts" : Str) (V.ref D) fs3 := ⟨_, rfl⟩
      have l4 := length_putF ("shifts" : Str) (V.ref D) fs3
      rw [← e4] at l4 ⊢
      have f4 : ∀ x : Str, x ≠ "shifts" → fs4.lookup x = fs3.lookup x := fun x h => by rw [e4, lookup_putF, if_neg h]
      have f4s : fs4.lookup ("shifts" : Str) = some (.ref D) := by rw [e4, lookup_putF, if_pos rfl]
      obtain ⟨G4, eG4⟩ : ∃ G4, G4 = upd H2 a (.ins T.Coding.C dx fs4) := ⟨_, rfl⟩
      have G4a : G4 a = some (.ins T.Coding.C dx fs4) := by rw [eG4]; exact upd_same
      have G4k : ∀ b o, b ≠ a → H b = some o → G4 b = some o := fun b o h1 h2 => by rw [eG4]; exact (upd_ne h1).trans (s1 _ _ (Gk b o h1 h2))
      have G4D : G4 D = some (.lst ((List.range n).map fun k => V.int (48 * (n - 1 - k : Nat)))) := by rw [eG4]; exact (upd_ne nD).trans e1
      rw [← eG4]
      have tpH : ∀ {H' : Hp}, (∀ b o, b ≠ a → H b = some o → H' b = some o) → Tp H H' := fun {H'} hk b xs q => by
        have nb : b ≠ a := fun z => by
          subst z
          rcases q with q | ⟨o, q⟩
          · rw [ha] at q; cases q
          · rw [ha] at q; cases q
        rcases q with q | ⟨o, q⟩
        · exact .inl (hk _ _ nb q)
        · exact .inr ⟨o, hk _ _ nb q⟩
      have rvt : ∀ {H' : Hp}, (∀ b o, b ≠ a → H b = some o → H' b = some o) → Dp K H' rv (rsD rs) := fun {H'} hk => Dp.tp (tpH hk) _ _ (tOnly_rows rs) hrv
      walk_at "rd"
      refine ⟨(by omega), (by omega), fun D5 hD5 => ?_⟩
      rw [Int.toNat_natCast]
      refine lc_range (lo := 0) (n := n) (MapAt G4 D5 fun p y _ => y = .int (unitN n rs p)) (mapAt_0 hD5) (fun q H5 hq hQ => ?_) (fun H5 hQ => ?_)
      · have s5 : Same G4 H5 := by obtain ⟨_, s5, _⟩ := hQ; exact s5
        walk_at "rd"
        refine ⟨_, _, _, rfl, s5 _ _ G4a, (by rw [f4 _ (by decide)]; exact f3o _ (by decide) (by decide) (by decide) (by decide) (by decide)), ?_⟩
        walk_at "rd"
        have rv5 := rvt (fun b o h1 h2 => s5 _ _ (G4k b o h1 h2))
        cases rv5 with
        | @tup R xs _ hR dR =>
        refine ⟨a, dx, R, D, fs4, n, q, rs, xs, by rw [Int.zero_add]; rfl, hn1, hn4, hq, hrs, s5 _ _ G4a, by rw [f4 _ (by decide)]; exact f3r, hR, dR, by rw [f4 _ (by decide)]; exact f3m, f4s, s5 _ _ G4D, ?_⟩
        exact mapAt_step hQ hD5 (by rw [sizeLine_eq]; omega) (Same.refl _) (fun _ _ _ _ h _ => h) rfl
      obtain ⟨ys, s5, e5, n5, r5⟩ := hQ
      have ey := items_eq (f := fun p => V.int (unitN n rs p)) n5 r5
      subst ey
      have nD5 : D5 ≠ a := fun z => by rw [z, G4a] at hD5; cases hD5
      walk_at "rd"
      refine ⟨_, _, _, _, rfl, s5 _ _ G4a, T.Coding.cls, T.Coding.n_units, (by omega), ?_⟩
      obtain ⟨fs6, e6⟩ : ∃ fs6, fs6 = putF ("units" : Str) (V.ref D5) fs4 := ⟨_, rfl⟩
      have l6 := length_putF ("units" : Str) (V.ref D5) fs4
      rw [← e6] at l6 ⊢
      have f6 : ∀ x : Str, x ≠ "units" → fs6.lookup x = fs4.lookup x := fun x h => by rw [e6, lookup_putF, if_neg h]
      have f6u : fs6.lookup ("units" : Str) = some (.ref D5) := by rw [e6, lookup_putF, if_pos rfl]
      obtain ⟨G6, eG6⟩ : ∃ G6, G6 = upd H5 a (.ins T.Coding.C dx fs6) := ⟨_, rfl⟩
      have G6a : G6 a = some (.ins T.Coding.C dx fs6) := by rw [eG6]; exact upd_same
      have G6k : ∀ b o, b ≠ a → H b = some o → G6 b = some o := fun b o h1 h2 => by rw [eG6]; exact (upd_ne h1).trans (s5 _ _ (G4k b o h1 h2))
      have G6D : G6 D = some (.lst ((List.range n).map fun k => V.int (48 * (n - 1 - k : Nat)))) := by rw [eG6]; exact (upd_ne nD).trans (s5 _ _ G4D)
      have G6U : G6 D5 = some (.lst ((List.range n).map fun p => V.int (unitN n rs p))) := by rw [eG6]; exact (upd_ne nD5).trans e5
      rw [← eG6]
      walk_at "rd"
      refine ⟨⟨[], T.Coding.t_E _⟩, fun D8 hD8 => ?_⟩
      refine lc_tup (K := K) (a := T.Coding.aE) (xs := []) (fun i H8 => Same G6 H8 ∧ H8 D8 = some (.lst [])) ⟨same_upd hD8, upd_same⟩ (fun i H8 _ _ => T.Coding.t_E _) (fun i x H8 hx _ => by simp at hx) (fun H8 q8 => ?_)
      obtain ⟨s8, e8⟩ := q8
      walk_at "rd"
      refine ⟨D8, [], rfl, .inl (.inl (.inl e8)), ?_⟩
      walk_at "rd"
      refine ⟨_, _, _, _, rfl, s8 _ _ G6a, T.Coding.cls, T.Coding.n_marked, (by omega), ?_⟩
      obtain ⟨fs9, e9'⟩ : ∃ fs9, fs9 = putF ("marked" : Str) (V.int ([] : List Int).sum) fs6 := ⟨_, rfl⟩
      have l9 := length_putF ("marked" : Str) (V.int ([] : List Int).sum) fs6
      rw [← e9'] at l9 ⊢
      have f9 : ∀ x : Str, x ≠ "marked" → fs9.lookup x = fs6.lookup x := fun x h => by rw [e9', lookup_putF, if_neg h]
      obtain ⟨G9, eG9⟩ : ∃ G9, G9 = upd H8 a (.ins T.Coding.C dx fs9) := ⟨_, rfl⟩
      have G9a : G9 a = some (.ins T.Coding.C dx fs9) := by rw [eG9]; exact upd_same
      have G9k : ∀ b o, b ≠ a → H b = some o → G9 b = some o := fun b o h1 h2 => by rw [eG9]; exact (upd_ne h1).trans (s8 _ _ (G6k b o h1 h2))
      have G9D : G9 D = some (.lst ((List.range n).map fun k => V.int (48 * (n - 1 - k : Nat)))) := by rw [eG9]; exact (upd_ne nD).trans (s8 _ _ G6D)
      have G9U : G9 D5 = some (.lst ((List.range n).map fun p => V.int (unitN n rs p))) := by rw [eG9]; exact (upd_ne nD5).trans (s8 _ _ G6U)
      rw [← eG9]
      walk_at "rd"
      refine ⟨_, _, _, _, _, rfl, G9a, T.Coding.cls, T.Coding.n_shifts, (by rw [f9 _ (by decide), f6 _ (by decide)]; exact f4s), ?_⟩
      refine ⟨D, rfl, ⟨_, .inl (.inl G9D)⟩, fun D7 hD7 => ?_⟩
      refine lc_list (K := K) (a := D) (xs := (List.range n).map fun k => V.int (48 * (n - 1 - k : Nat))) (MapAt G9 D7 fun k y _ => y = .int (140737488355328 * 2 ^ (48 * (n - 1 - k)))) (mapAt_0 hD7) (fun i H7 _ q => .inl (.inl (by obtain ⟨_, q, _⟩ := q; exact q _ _ G9D))) (fun i x H7 hx hQ => ?_) (fun H7 hQ => ?_)
      · have hi : i < n := by
          have := (List.getElem?_eq_some_iff.mp hx).1
          simpa using this
        rw [List.getElem?_map, List.getElem?_range hi] at hx
        obtain rfl := Option.some.inj hx
        walk_at "rd"
        have e9 : PLi.fdiv 2 = 140737488355328 := by decide +kernel
        refine ⟨shl_nn (j := 48 * (n - 1 - i)) (n := 48) (by omega) (by rw [e9]; decide) (by omega), ?_⟩
        walk_at "rd"
        have e2 : (48 * ((n - 1 - i : Nat) : Int)).toNat = 48 * (n - 1 - i) := by omega
        refine mapAt_step hQ hD7 (by rw [sizeLine_eq]; omega) (Same.refl _) (fun _ _ _ _ h _ => h) ?_
        show V.int _ = V.int _
        rw [e2, e9]
      obtain ⟨ys, s7, e7, n7, r7⟩ := hQ
      simp only [List.length_map, List.length_range] at n7
      have ey := items_eq (f := fun k => V.int (140737488355328 * 2 ^ (48 * (n - 1 - k)))) n7 r7
      subst ey
      walk_at "rd"
      refine ⟨D7, (List.range n).map fun k => 140737488355328 * 2 ^ (48 * (n - 1 - k)), rfl, .inl (.inl (.inl ?_)), ?_⟩
      · rw [e7, List.map_map]
        rfl
      walk_at "rd"
      refine ⟨_, _, _, _, rfl, s7 _ _ G9a, T.Coding.cls, T.Coding.n_guard, (by omega), ?_⟩
      have fin : ∀ (fs8 : List (Str × V)), (∀ x : Str, x ≠ "guard" → fs8.lookup x = fs9.lookup x) → Q .non (upd H7 a (.ins T.Coding.C dx fs8)) := fun fs8 f8 => by
        have hk : ∀ b o, b ≠ a → H b = some o → (upd H7 a (.ins T.Coding.C dx fs8)) b = some o := fun b o h1 h2 => (upd_ne h1).trans (s7 _ _ (G9k b o h1 h2))
        refine k _ ⟨dx, D5, fs8, rv, upd_same, ?_, ?_, rvt hk, ?_, ?_, ?_⟩ ⟨dx, fs8, upd_same, by rw [f8 _ (by decide), f9 _ (by decide), f6 _ (by decide), f4 _ (by decide)]; exact f3f, D, n, by rw [f8 _ (by decide), f9 _ (by decide), f6 _ (by decide), f4 _ (by decide)]; exact f3m, by rw [f8 _ (by decide), f9 _ (by decide), f6 _ (by decide)]; exact f4s, by rw [upd_ne nD, s7 _ _ G9D, shiftsL, List.map_map]; rfl, by rw [f8 _ (by decide), f9 _ (by decide), f6 _ (by decide), f4 _ (by decide)]; exact f3o _ (by decide) (by decide) (by decide) (by decide) (by decide)⟩ hk
        · rw [f8 _ (by decide), f9 _ (by decide), f6 _ (by decide), f4 _ (by decide)]; exact f3m
        · rw [f8 _ (by decide), f9 _ (by decide), f6 _ (by decide), f4 _ (by decide)]; exact f3r
        · rw [f8 _ (by decide), f9 _ (by decide)]; exact f6u
        · rw [upd_ne nD5, s7 _ _ G9U, unitsL, List.map_map]; rfl
        · rw [f8 _ (by decide), f9 _ (by decide), f6 _ (by decide), f4 _ (by decide)]; exact f3o _ (by decide) (by decide) (by decide) (by decide) (by decide)
      exact fin _ fun x h => by rw [lookup_putF, if_neg h]
end

theorem tup_of {P : Program} {w : World} {K : PySem.W.Frag} {H : Hp} {h : Heap} (hok : HOk P w H h) (kin : K.In h) {a : Addr} {xs : List V} (q : SqT K H a xs) : ∃ its : List Value, Vals xs its ∧ h.IsTuple a its.toArray := by
  rcases q with (q | ⟨o, q⟩) | ⟨o, its, n, e1, e2, e3, _, rv⟩
  · obtain ⟨_, its, rv, t⟩ := hok a _ q
    exact ⟨its, rv, t⟩
  · obtain ⟨_, _, its, rv, t⟩ := hok a _ q
    exact ⟨its, rv, t⟩
  · refine ⟨its.toList, rv, o, kin _ _ e1, e2, n, ?_⟩
    rw [e3, Array.toArray_toList]
theorem vals_ints {r : List Int} {its : List Value} (h : Vals (r.map V.int) its) : PyProof.Rows.IntsAre its r := intsAre_of h
section
variable {P : Program} {w : World} {K : PySem.W.Frag} {mg : Str → Option Value} {base : Heap}
/-- code, read plainly: in any heap that grew out of h0 -/
theorem code_pu (T : Txt K mg) {H : Hp} {h0 : Heap} {Φ : Heap → Prop} {D U : Nat} {a M : Addr} {n : Nat} {rs : List (List Int)} {ms : List Int} (Sx : Stay K mg Φ) (hΦ : ∀ h, Φ h → Kp h0 h) (hok : HOk P w H h0) (kin : K.In h0)
    (hc : CodO T.Coding.C K H a n rs) (hM : SqT K H M (ms.map V.int)) (hw : ∀ (i : Nat) (x y : Int), ms[i]? = some x → (unitsL n rs)[i]? = some y → CMulW x y) (hD : D + 8 < recursionLimit) (hU : U + 64 < cLine) :
    PuG P w Φ D U T.Coding.fc T.Coding.fdc P_Coding_code [.ref a, .ref M] (fun y => ∃ t, y = .int (dotZ ms (unitsL n rs)) t) := by
  obtain ⟨dx, L, fs, rv, ha, _, _, _, fu, hL, _⟩ := hc
  obtain ⟨itm, rvm, tm⟩ := tup_of hok kin hM
  obtain ⟨mA, O, hr, _⟩ := ins_get hok ha
  obtain ⟨u, hu, ru⟩ := RelO.some_of (v := .ref L) (o := mA ("units" : Str)) (by rw [← fu]; exact hr _)
  obtain rfl : u = Value.ref L := ru
  obtain ⟨_, itl, nl, rvl, hl⟩ := hok L _ hL
  have up : ∀ h, Φ h → Kp h0 h := hΦ
  refine pf_dot (C := T.Coding.C) (dx := dx) (L := L) T.Coding.Fc sc_Coding_code Sx rfl rfl (by decide) (by decide) rfl T.n_zip (by decide) hD hU T.Coding.cls T.Coding.n_units (fun h q => ?_) (fun h q => ?_) (fun h q => ?_) hw
  · refine ⟨mA, L, ?_, hu, rfl⟩
    obtain ⟨o1, o2, o3⟩ := O
    exact ⟨up h q _ _ o1, o2.keeps fun b o e => up h q b o e, o3⟩
  · obtain ⟨o, e1, e2, e3⟩ := tm
    exact ⟨itm, ⟨o, up h q _ _ e1, e2, e3⟩, vals_ints rvm⟩
  · exact ⟨itl, ⟨_, up h q _ _ hl, rfl, nl, rfl⟩, vals_ints rvl⟩
/-- what bounds the products -/
def MonoOk (n : Nat) (ms : List Int) : Prop := ms.length = n ∧ ∀ e ∈ ms, 0 ≤ e ∧ e ≤ 60
theorem unit_mul {n : Nat} {rs : List (List Int)} {ms : List Int} (hn : n ≤ 4) (hrs : RowsOk n rs) (hm : MonoOk n ms) : ∀ (i : Nat) (x y : Int), ms[i]? = some x → (unitsL n rs)[i]? = some y → CMulW x y := by
  intro i x y hx hy
  have h1 := hm.2 x (List.mem_of_getElem? hx)
  have hi : i < n := by
    have := (List.getElem?_eq_some_iff.mp hy).1
    simpa [unitsL] using this
  rw [unitsL, List.getElem?_map, List.getElem?_range hi] at hy
  obtain rfl := Option.some.inj hy
  refine wide_mul (a := 10) (b := 500) (by omega) ?_ (by decide) (by decide) (by decide)
  have b1 := foldU_abs (n := n) (m := 0) (rs := rs) (p := i) hrs.1 hrs.2
  have e : unitN n rs i = foldU rs i * 2 ^ (48 * n) + 2 ^ (48 * (n - 1 - i)) := rfl
  rw [e]
  have p1 : (2 : Nat) ^ (48 * n) ≤ 2 ^ 192 := Nat.pow_le_pow_right (by decide) (by omega)
  have p2 : (2 : Nat) ^ (48 * (n - 1 - i)) ≤ 2 ^ 192 := Nat.pow_le_pow_right (by decide) (by omega)
  have q1 : (foldU rs i * 2 ^ (48 * n)).natAbs ≤ 2 ^ 251 * 2 ^ 192 := by
    rw [Int.natAbs_mul]
    refine Nat.mul_le_mul (Nat.le_of_lt b1) ?_
    have : ((2 : Int) ^ (48 * n)).natAbs = 2 ^ (48 * n) := by rw [Int.natAbs_pow]; rfl
    rw [this]
    exact p1
  have q2 : ((2 : Int) ^ (48 * (n - 1 - i))).natAbs ≤ 2 ^ 192 := by
    have : ((2 : Int) ^ (48 * (n - 1 - i))).natAbs = 2 ^ (48 * (n - 1 - i)) := by rw [Int.natAbs_pow]; rfl
    rw [this]
    exact p2
  have q3 := Int.natAbs_add_le (foldU rs i * 2 ^ (48 * n)) (2 ^ (48 * (n - 1 - i)))
  have q4 : (2 : Nat) ^ 251 * 2 ^ 192 + 2 ^ 192 < 2 ^ 500 := by decide +kernel
  omega
def sp_Coding_code (C : Addr) (K : PySem.W.Frag) : Sp := fun vs H Q _ => ∃ (a M : Addr) (n : Nat) (rs : List (List Int)) (ms : List Int), vs = [.ref a, .ref M] ∧ n ≤ 4 ∧ RowsOk n rs ∧ MonoOk n ms ∧ CodO C K H a n rs ∧ SqT K H M (ms.map V.int) ∧ Q (.int (dotZ ms (unitsL n rs))) H
theorem ok_Coding_code (T : Txt K mg) : FnOk P w K mg base CX0 8 T.Coding.fc T.Coding.fdc P_Coding_code (sp_Coding_code T.Coding.C K) := by
  refine fnOk_pu (fun vs H Q E h => ?_) (fun A outer s H us vs Q E hr he hv h => ?_)
  · obtain ⟨a, M, n, rs, ms, rfl, _⟩ := h; rfl
  · obtain ⟨a, M, n, rs, ms, rfl, hn, hrs, hm, hc, hM, q⟩ := h
    obtain ⟨u1, u2, rfl, r1, r2⟩ := vals2 hv
    obtain rfl : u1 = Value.ref a := r1
    obtain rfl : u2 = Value.ref M := r2
    have bk : ∀ b o, base.get? b = some o → s.heap.get? b = some o := fun b o e => (he.bs b o e).1
    refine ⟨fun h => Kp s.heap h, _, fun _ _ e => e, code_pu T (stay_all he.mod bk) (fun _ q => q) he.hok (he.mod.kin.keeps bk) hc hM (unit_mul hn hrs hm) (by have := hr.dp; omega) (by have := hr.un; omega), ?_⟩
    rintro y ⟨t, rfl⟩
    exact ⟨.int _, ⟨t, rfl⟩, q⟩
end

theorem val3 {x y z : V} {us : List Value} (r : Vals [x, y, z] us) : ∃ a b c, us = [a, b, c] ∧ RelV x a ∧ RelV y b ∧ RelV z c := by
  cases r with
  | cons h1 t =>
    cases t with
    | cons h2 t =>
      cases t with
      | cons h3 t =>
        cases t
        exact ⟨_, _, _, rfl, h1, h2, h3⟩
section
variable {P : Program} {w : World} {K : PySem.W.Frag} {mg : Str → Option Value} {base : Heap} {Φ : Heap → Prop} {D U : Nat}
theorem isi_int {i : Int} {t : Tok} {T : String} {b : Bool} (h : PySem.W.kitOne K (.type "int") (.type T) = some b) : Isi K Φ (.int i t) T b :=
  ⟨.type "int", fun _ => True, PySem.W.kitx_int, fun _ _ => trivial, h, fun z => nomatch z⟩
theorem glo {cenv : Env} {sc : Scope} {x : Str} {k : NameKind} (e : cenv.scope = sc) (h : sc.names.lookup x = some k) : cenv.kindOf x = some k := by
  show cenv.scope.names.lookup x = _
  rw [e]
  exact h
theorem is_integer_pu (T : Txt K mg) (Sx : Stay K mg Φ) (hD : D < recursionLimit) (i : Int) (t : Tok) : PuG P w Φ D U T.is_integer.f T.is_integer.fd P_is_integer [.int i t] (· = .bool true) := by
  refine pf_of T.is_integer.F sc_is_integer Sx rfl rfl hD fun cenv ev hsc => ?_
  have hv : ∀ {pos : Pos}, PuE P w Φ cenv (bindL cenv.kindOf (P_is_integer.zip [Value.int i t]) fun _ => Option.none) (D + 1) (U + 3) (.Name "value" pos) (· = .int i t) := fun {pos} =>
    pu_name ev (by rw [hsc]; rfl) (bindL_get (i := 0) (by decide) rfl rfl (glo hsc rfl))
  exact pu_and Sx (x := true) (y := true) (pu_isi Sx ev (glo hsc rfl) T.n_isinstance (glo hsc rfl) T.n_int bo_int hv (isi_int kit_int_int))
    (fun _ => pu_not (x := false) (pu_isi Sx ev (glo hsc rfl) T.n_isinstance (glo hsc rfl) T.n_bool bo_bool hv (isi_int kit_int_bool)))
theorem is_integer_in_pu (T : Txt K mg) (Sx : Stay K mg Φ) (hD : D + 1 < recursionLimit) (i lo hi : Int) (t t2 t3 : Tok) :
    PuG P w Φ D U T.is_integer_in.f T.is_integer_in.fd P_is_integer_in [.int i t, .int lo t2, .int hi t3] (· = .bool (decide (lo ≤ i) && decide (i ≤ hi))) := by
  refine pf_of T.is_integer_in.F sc_is_integer_in Sx rfl rfl (by omega) fun cenv ev hsc => ?_
  have hv : ∀ {pos : Pos}, PuE P w Φ cenv (bindL cenv.kindOf (P_is_integer_in.zip [Value.int i t, .int lo t2, .int hi t3]) fun _ => Option.none) (D + 1) (U + 3) (.Name "value" pos) (· = .int i t) := fun {pos} =>
    pu_name ev (by rw [hsc]; rfl) (bindL_get (i := 0) (by decide) rfl rfl (glo hsc rfl))
  have hl : ∀ {pos : Pos}, PuE P w Φ cenv (bindL cenv.kindOf (P_is_integer_in.zip [Value.int i t, .int lo t2, .int hi t3]) fun _ => Option.none) (D + 1) (U + 3) (.Name "low" pos) (· = .int lo t2) := fun {pos} =>
    pu_name ev (by rw [hsc]; rfl) (bindL_get (i := 1) (by decide) rfl rfl (glo hsc rfl))
  have hh : ∀ {pos : Pos}, PuE P w Φ cenv (bindL cenv.kindOf (P_is_integer_in.zip [Value.int i t, .int lo t2, .int hi t3]) fun _ => Option.none) (D + 1) (U + 3) (.Name "high" pos) (· = .int hi t3) := fun {pos} =>
    pu_name ev (by rw [hsc]; rfl) (bindL_get (i := 2) (by decide) rfl rfl (glo hsc rfl))
  refine PuE.imp (pu_and Sx (x := true) (y := decide (lo ≤ i) && decide (i ≤ hi)) (pu_call (f := T.is_integer.f) (R := (· = .bool true)) Sx ev (glo hsc rfl) T.is_integer.g T.is_integer.F.kp (pua_cons Sx hv pua_nil) ?_)
    (fun _ => pu_chain Sx (PuE.imp hl fun y e => ⟨t2, e⟩) (PuE.imp hv fun y e => ⟨t, e⟩) (PuE.imp hh fun y e => ⟨t3, e⟩))) fun y e => ?_
  · rintro us ⟨u, vs, rfl, rfl, rfl⟩
    exact PuG.pos (is_integer_pu T Sx hD i t) Sx (b_is_integer T) rfl
  · rw [e, Bool.true_and]
/-- the two as promises -/
def sp_is_integer : Sp := fun vs H Q _ => ∃ i : Int, vs = [.int i] ∧ Q (.bl true) H
theorem ok_is_integer (T : Txt K mg) : FnOk P w K mg base CX0 1 T.is_integer.f T.is_integer.fd P_is_integer sp_is_integer := by
  refine fnOk_pu (fun vs H Q E h => ?_) (fun A outer s H us vs Q E hr he hv h => ?_)
  · obtain ⟨i, rfl, _⟩ := h; rfl
  · obtain ⟨i, rfl, q⟩ := h
    obtain ⟨u, rfl, ⟨t, rfl⟩⟩ := vals1 hv
    refine ⟨fun h => Kp s.heap h, _, fun _ _ e => e, is_integer_pu T (stay_all he.mod fun b o e => (he.bs b o e).1) (by have := hr.dp; omega) i t, ?_⟩
    rintro y rfl
    exact ⟨.bl true, rfl, q⟩
def sp_is_integer_in : Sp := fun vs H Q _ => ∃ i lo hi : Int, vs = [.int i, .int lo, .int hi] ∧ Q (.bl (decide (lo ≤ i) && decide (i ≤ hi))) H
theorem ok_is_integer_in (T : Txt K mg) : FnOk P w K mg base CX0 2 T.is_integer_in.f T.is_integer_in.fd P_is_integer_in sp_is_integer_in := by
  refine fnOk_pu (fun vs H Q E h => ?_) (fun A outer s H us vs Q E hr he hv h => ?_)
  · obtain ⟨i, lo, hi, rfl, _⟩ := h; rfl
  · obtain ⟨i, lo, hi, rfl, q⟩ := h
    obtain ⟨u, u2, u3, rfl, ⟨t, rfl⟩, ⟨t2, rfl⟩, ⟨t3, rfl⟩⟩ := val3 hv
    refine ⟨fun h => Kp s.heap h, _, fun _ _ e => e, is_integer_in_pu T (stay_all he.mod fun b o e => (he.bs b o e).1) (by have := hr.dp; omega) i lo hi t t2 t3, ?_⟩
    rintro y rfl
    exact ⟨.bl _, rfl, q⟩
/-- the element of is_order's and is_monomial's all(..) -/
theorem elt_in {X : Cx} {Tb : Addr} {sc : Scope} {x : Str} {xs : List Int} {H1 : Hp} {lo hi : Int} {g : Str} {p1 p2 p3 p4 p5 : Pos} {j : Nat} {th : Tok} (T : Txt X.K X.mg) (hr : Room 12 X.A) (hx : sc.names.lookup x = some .local) (hf : sc.names.lookup ("is_integer_in" : Str) = some .globalImplicit) (hg : sc.names.lookup g = some .globalImplicit)
    (mgh : X.mg g = some (.int hi th)) (hd : (x == ("__debug__" : Str)) = false) (hd2 : (g == ("__debug__" : Str)) = false) :
    EltT X Tb sc x (.Call (.Name "is_integer_in" p1) [.Name x p2, .Constant (.int lo) j p3, .Name g p4] [] p5) (xs.map V.int) (fun i => decide (lo ≤ xs.getD i 0) && decide (xs.getD i 0 ≤ hi)) H1 := by
  intro Φ pins σ t1 cenv m i v u Sx I hΦ ev hsc _ hi' rv hm
  have hlt : i < xs.length := by have := (List.getElem?_eq_some_iff.mp hi').1; simpa using this
  rw [List.getElem?_map, List.getElem?_eq_getElem hlt] at hi'
  obtain rfl := Option.some.inj hi'
  obtain ⟨t, rfl⟩ := rv
  have eg : xs.getD i 0 = xs[i] := by rw [List.getD_eq_getElem?_getD, List.getElem?_eq_getElem hlt]; rfl
  refine PuE.imp (R := (· = .bool (decide (lo ≤ xs[i]) && decide (xs[i] ≤ hi)))) ?_ (fun y e => by rw [e]; simp only [eg])
  refine pu_call (f := T.is_integer_in.f) Sx ev (glo hsc hf) T.is_integer_in.g T.is_integer_in.F.kp (pua_cons Sx (pu_name ev (by rw [hsc]; exact hx) hm hd) (pua_cons Sx pu_int (pua_cons Sx (pu_glob Sx ev (glo hsc hg) mgh hd2) pua_nil))) ?_
  rintro us ⟨u, vs, rfl, rfl, u2, vs2, rfl, ⟨t2, rfl⟩, u3, vs3, rfl, rfl, rfl⟩
  exact PuG.pos (is_integer_in_pu T Sx (by have := hr.dp; omega) _ _ _ t t2 th) Sx (b_is_integer_in T) rfl
end

section
variable {P : Program} {w : World} {K : PySem.W.Frag} {mg : Str → Option Value} {base : Heap}
theorem okC {x qual : Str} {st : Stmt} {f : Addr} {fd : FuncData} {N ps : List Str} {k : Nat} {sp : Sp} {c : Addr} (F : Fun K x qual st f fd) (hc : fd.code = .ref c) (S : FnScope N ps (defScope st)) (len : ∀ vs H Q E, sp vs H Q E → vs.length = ps.length)
    (hbody : ∀ (A : Around) (outer : List Env) (s : Shared) (H : Hp) (vs : List V) (Q : VK) (E : XK), Room k (A.deeper (PyProof.Rows.envOfC qual (defScope st) s.heap.objs.size f (.ref c))) → sp vs H Q E →
      ∃ t, PSs (cxOf CX0 P w K mg base N qual (defScope st) f (.ref c) A outer s H E).nox (defBody st) t ∧ t { nx := fun _ H' => Q .non H', rt := Q } (L2.start N vs) H) : FnOk P w K mg base CX0 (k + 1) f fd ps sp := by
  obtain ⟨oc, od, kV, doc, pm, an, cdv, ct, osl, rfl, lk, hcd⟩ := F.ex
  have e : cdv = .ref c := hc
  subst e
  refine fn_of lk hcd S len fun A outer s H vs Q E hr hsp => ?_
  obtain ⟨t, h, q⟩ := hbody A outer s H vs Q E hr hsp
  exact ⟨t, h.nox, q⟩
end

/-! ### tables of the defs that make generator expressions and lambdas -/
def gensL : List Str := ["is_row_of_integers", "is_polynomial"]
def lamsL : List Str := ["sum_of_terms"]
structure TabsAt where
  a : Str → Addr
  ne : ∀ x ∈ gensL ++ lamsL, ∀ y ∈ gensL ++ lamsL, x ≠ y → a x ≠ a y
def qLam (x : Str) : Str := x ++ ".<locals>." ++ "<lambda>"
def lamT (x : Str) (Pt : Addr) : List (Addr × Str) := [(Pt, qLam x)]
structure TS (t : TabsAt) (H : Hp) : Prop where
  g : ∀ x ∈ gensL, GxR.TabG H (t.a x)
  l : ∀ x ∈ lamsL, LamX.Tabs (lamT x (t.a x)) H
theorem tabG_eq {H H' : Hp} {p : Addr} (h : GxR.TabG H p) (e : H' p = H p) : GxR.TabG H' p := by
  obtain ⟨ps, h1, h2⟩ := h
  exact ⟨ps, e.trans h1, h2⟩
theorem TS.same {t : TabsAt} {H H' : Hp} (h : TS t H) (s : Same H H') : TS t H' := by
  have g : ∀ {p : Addr}, GxR.TabG H p → GxR.TabG H' p := fun {p} ⟨ps, h1, h2⟩ => ⟨ps, s _ _ h1, h2⟩
  exact ⟨fun x hx => g (h.g x hx), fun x hx => (h.l x hx).ext s⟩
theorem tabs_off {H H' : Hp} {x : Str} {l p : Addr} (h : LamX.Tabs (lamT x l) H) (hp : GxR.TabG H p) (n : p ≠ l) (e : ∀ b, b ≠ p → H' b = H b) : LamX.Tabs (lamT x l) H' := fun z hz => by
  unfold lamT at hz
  rw [List.mem_singleton] at hz
  subst hz
  obtain ⟨ps, a1, a2, a3⟩ := h (l, qLam x) List.mem_cons_self
  obtain ⟨ps', p1, _⟩ := hp
  refine ⟨ps, (e _ n.symm).trans a1, a2, fun pos cv hcv => ?_⟩
  obtain ⟨cz, q1, q2⟩ := a3 pos cv hcv
  refine ⟨cz, q1, (e _ fun z => ?_).trans q2⟩
  rw [z, p1] at q2
  unfold LamX.CodeO at q2
  cases q2
theorem ext_tab {H H' : Hp} {p : Addr} (hp : GxR.TabG H p) (e : GxR.Tabbed p H H') : LamX.ExtN H H' := fun b o h n => by
  obtain ⟨ps, p1, _⟩ := hp
  have nb : b ≠ p := fun z => by
    subst z
    rw [p1] at h
    exact n ps (Option.some.inj h).symm
  exact (e.2 b nb).trans h
/-- the tables when one of a generator expression has grown -/
theorem TS.tab {t : TabsAt} {H H' : Hp} (h : TS t H) {x : Str} (hx : x ∈ gensL) (hd : x ∉ lamsL) (e : GxR.Tabbed (t.a x) H H') : TS t H' := by
  refine ⟨fun y hy => ?_, fun y hy => ?_⟩
  · by_cases hxy : y = x
    · subst hxy; exact e.1
    · exact tabG_eq (h.g y hy) (e.2 _ (t.ne y (List.mem_append_left _ hy) x (List.mem_append_left _ hx) hxy))
  · have hxy : x ≠ y := fun z => hd (z ▸ hy)
    exact tabs_off (h.l y hy) (h.g x hx) (t.ne x (List.mem_append_left _ hx) y (List.mem_append_right _ hy) hxy) e.2
/-- the tables when a lambda's has grown -/
theorem TS.lam {t : TabsAt} {H H' : Hp} (h : TS t H) {x : Str} (hx : x ∈ lamsL) (hd : x ∉ gensL) (kb : ∀ b o, b ≠ t.a x → H b = some o → H' b = some o) (n : LamX.Tabs (lamT x (t.a x)) H') (hp : ∃ ps, H (t.a x) = some (.tbl ps)) : TS t H' := by
  refine ⟨fun y hy => ?_, fun y hy => ?_⟩
  · obtain ⟨ps, h1, h2⟩ := h.g y hy
    exact ⟨ps, kb _ _ (t.ne y (List.mem_append_left _ hy) x (List.mem_append_right _ hx) fun z => hd (z ▸ hy)) h1, h2⟩
  · by_cases hxy : y = x
    · subst hxy; exact n
    · intro z hz
      unfold lamT at hz
      rw [List.mem_singleton] at hz
      subst hz
      obtain ⟨ps, a1, a2, a3⟩ := h.l y hy (t.a y, qLam y) List.mem_cons_self
      obtain ⟨ps', p1⟩ := hp
      refine ⟨ps, kb _ _ (t.ne y (List.mem_append_right _ hy) x (List.mem_append_right _ hx) hxy) a1, a2, fun pos cv hcv => ?_⟩
      obtain ⟨cz, q1, q2⟩ := a3 pos cv hcv
      refine ⟨cz, q1, kb _ _ (fun z => ?_) q2⟩
      rw [z, p1] at q2
      unfold LamX.CodeO at q2
      cases q2
/-- all but tables stays, and the tables are in order -/
structure Ex (t : TabsAt) (H H' : Hp) : Prop where
  keep : LamX.ExtN H H'
  ts : TS t H'
theorem Ex.same {t : TabsAt} {H H1 H2 : Hp} (a : Ex t H H1) (s : Same H1 H2) : Ex t H H2 := ⟨fun b o e n => s _ _ (a.keep b o e n), a.ts.same s⟩
theorem Ex.trans {t : TabsAt} {H H1 H2 : Hp} (a : Ex t H H1) (b : Ex t H1 H2) : Ex t H H2 := ⟨a.keep.trans b.keep, b.ts⟩
theorem Ex.of {t : TabsAt} {H H1 : Hp} (h : TS t H) (s : Same H H1) : Ex t H H1 := ⟨LamX.ExtN.of s, h.same s⟩
theorem Ex.tab {t : TabsAt} {H H' : Hp} (h : TS t H) {x : Str} (hx : x ∈ gensL) (hd : x ∉ lamsL) (e : GxR.Tabbed (t.a x) H H') : Ex t H H' := ⟨ext_tab (h.g x hx) e, h.tab hx hd e⟩
/-! ### the generator expressions' scopes -/
def geSc : Expr → Scope
  | .GeneratorExp _ _ s _ => s
  | _ => { kind := .function, names := [], isGenerator := false, isCoroutine := false }
def ar0 : Expr → Expr
  | .Call _ (e :: _) _ _ => e
  | _ => .Constant .none 0 ⟨0, 0, 0, 0⟩
def bo0 : Expr → Expr
  | .BoolOp _ (e :: _) _ => e
  | _ => .Constant .none 0 ⟨0, 0, 0, 0⟩
def ifT : Stmt → Expr
  | .If e _ _ _ => e
  | _ => .Constant .none 0 ⟨0, 0, 0, 0⟩
def stN (s : Stmt) (i : Nat) : Stmt := (defBody s).getD i (.Pass ⟨0, 0, 0, 0⟩)
/-- the tables' owners -/
structure TBs {K : PySem.W.Frag} {mg : Str → Option Value} (T : Txt K mg) (base : Heap) (t : TabsAt) where
  c : Str → Addr
  h_is_row_of_integers : T.is_row_of_integers.fd.code = .ref (c "is_row_of_integers")
  b_is_row_of_integers : GxR.TabB base mg (c "is_row_of_integers") (t.a "is_row_of_integers")
  h_is_polynomial : T.is_polynomial.fd.code = .ref (c "is_polynomial")
  b_is_polynomial : GxR.TabB base mg (c "is_polynomial") (t.a "is_polynomial")
  h_sum_of_terms : T.sum_of_terms.fd.code = .ref (c "sum_of_terms")
  b_sum_of_terms : LamX.TabB base mg (c "sum_of_terms") (t.a "sum_of_terms")

/-- a tuple's kind -/
theorem ty_tup {K : PySem.W.Frag} {H : Hp} {a : Addr} {xs : List V} (h : SqT K H a xs) : TyX K H (.ref a) (.type "tuple") := by
  rcases h with (h | ⟨o, h⟩) | ⟨o, its, n, e1, e2, _⟩
  · exact .base (.tup h)
  · exact .fTuple h
  · exact .kTuple e1 e2
theorem gx_row : ("is_row_of_integers" : Str) ∈ gensL := by decide
theorem lx_row : ("is_row_of_integers" : Str) ∉ lamsL := by decide
section
variable {P : Program} {w : World} {K : PySem.W.Frag} {mg : Str → Option Value} {base : Heap}
/-- for a tuple: has it so many items -/
def sp_is_tuple_of (K : PySem.W.Frag) : Sp := fun vs H Q _ => ∃ (a : Addr) (m : Int) (xs : List V), vs = [.ref a, .int m] ∧ SqT K H a xs ∧ Q (.bl (decide ((xs.length : Int) = m))) H
theorem ok_is_tuple_of (T : Txt K mg) : FnOk P w K mg base CX0 1 T.is_tuple_of.f T.is_tuple_of.fd P_is_tuple_of (sp_is_tuple_of K) := by
  refine T.is_tuple_of.F.ok sc_is_tuple_of (fun vs H Q E h => ?_) (fun cdv A outer s H vs Q E hr h => ?_)
  · obtain ⟨a, m, xs, rfl, _⟩ := h; rfl
  · obtain ⟨a, m, xs, rfl, hT, k⟩ := h
    refine ⟨_, (pss_one (ps_ret (pe_and (pe_callB (r := rIsi K) call_isi rfl T.n_isinstance bo_isinstance (pa_cons (pv 0) (pa_cons (pe_bltn (v := .ty "tuple") rfl T.n_tuple bo_tuple rfl) pa_nil))) (pe_one (pe_cmpR op_eq (pe_callB (r := rLenS K) call_len_seq rfl T.n_len bo_len (pa_cons (pv 0) pa_nil)) (pv 1) (nomark _)))))), ?_⟩
    walk_at "rd"
    refine ⟨_, _, _, _, _, rfl, .ty _, ty_tup hT, kit_tuple_tuple, ?_⟩
    walk_at "rd"
    refine ⟨_, _, rfl, .inr hT, ?_⟩
    walk_at "rd"
    rw [vdec]
    exact k
def rowB (m lo hi : Int) (ns : List Int) : Bool := decide ((ns.length : Int) = m) && ns.all fun i => decide (lo ≤ i) && decide (i ≤ hi)
def sp_is_row_of_integers (t : TabsAt) (K : PySem.W.Frag) : Sp := fun vs H Q _ => ∃ (a : Addr) (m lo hi : Int) (ns : List Int), vs = [.ref a, .int m, .int lo, .int hi] ∧ SqT K H a (ns.map V.int) ∧ TS t H ∧ ∀ H', Ex t H H' → Q (.bl (rowB m lo hi ns)) H'
theorem ok_is_row_of_integers (T : Txt K mg) {t : TabsAt} (B : TBs T base t) : FnOk P w K mg base CX0 10 T.is_row_of_integers.f T.is_row_of_integers.fd P_is_row_of_integers (sp_is_row_of_integers t K) := by
  refine okC T.is_row_of_integers.F B.h_is_row_of_integers sc_is_row_of_integers (fun vs H Q E h => ?_) (fun A outer s H vs Q E hr h => ?_)
  · obtain ⟨a, m, lo, hi, ns, rfl, _⟩ := h; rfl
  · obtain ⟨a, m, lo, hi, ns, rfl, hT, ts, k⟩ := h
    refine ⟨_, (pss_one (ps_ret (pe_and (pe_call (ok_is_tuple_of T) (hr.mono (by decide)) rfl T.is_tuple_of.g T.is_tuple_of.F.kp (b_is_tuple_of T) .nil pass0 (pa_cons (pv 0) (pa_cons (pv 1) pa_nil))) (pe_one (pe_allR (ys := (["number"] : List Str)) (own := []) (vs := [4]) sc_is_row_of_integers.nd (by decide) hr rfl T.n_all bo_all B.b_is_row_of_integers rfl (gxOk_by (N := N_is_row_of_integers) (sc := defScope s_is_row_of_integers) (own := []) (by decide +kernel)) (pi_tup (pv 0)) (fun _ _ _ _ _ _ _ _ hr => (pg_name (i := 4) (show List.Nodup (N_is_row_of_integers ++ (["number"] : List Str)) by decide +kernel) rfl (Or.inl rfl))) (fun _ _ _ _ _ _ _ _ hr => (pe_call (ok_is_integer_in T) (hr.mono (by decide)) rfl T.is_integer_in.g T.is_integer_in.F.kp (b_is_integer_in T) .nil pass0 (pa_cons (pv 4) (pa_cons (pv 2) (pa_cons (pv 3) pa_nil))))) (fun _ => rfl)))))), ?_⟩
    walk_at "rd"
    refine ⟨_, _, _, rfl, hT, ?_⟩
    by_cases hl : (ns.length : Int) = m
    · rw [List.length_map, decide_eq_true hl]
      walk_at "rd"
      refine ⟨⟨_, hT⟩, ts.g _ gx_row, fun H2 e2 => ?_⟩
      have x2 : Ex t H H2 := Ex.tab ts gx_row lx_row e2
      refine gx_tup (Pv := fun i H' => Ex t H H' ∧ (ns.take i).all (fun i => decide (lo ≤ i) && decide (i ≤ hi)) = true) ⟨x2, rfl⟩ (fun i H' _ x => (tp_ext x.1.keep).sqt hT) (fun i v H' hv x => ?_) (fun H3 x3 => ?_)
      · rw [List.getElem?_map] at hv
        obtain ⟨n, hn, rfl⟩ := Option.map_eq_some_iff.mp hv
        walk_at "rd"
        refine ⟨_, _, _, rfl, ?_⟩
        refine ⟨_, rfl, fun z => ?_, fun z => ⟨x.1, ?_⟩⟩
        · have e : rowB m lo hi ns = false := by
            unfold rowB
            rw [decide_eq_true hl, Bool.true_and, List.all_eq_false]
            exact ⟨n, List.mem_of_getElem? hn, by rw [z]; exact Bool.false_ne_true⟩
          rw [← e]
          exact k _ x.1
        · rw [List.take_add_one, hn]
          simp only [Option.toList_some, List.all_append, x.2, List.all_cons, List.all_nil, Bool.and_true, Bool.true_and]
          exact z
      · have e : rowB m lo hi ns = true := by
          unfold rowB
          have := x3.2
          rw [List.length_map, List.take_length] at this
          rw [decide_eq_true hl, this]; rfl
        rw [← e]
        exact k _ x3.1
    · rw [List.length_map, decide_eq_false hl]
      have e : rowB m lo hi ns = false := by unfold rowB; rw [decide_eq_false hl]; rfl
      walk_at "rd"
      rw [← e]
      exact k _ (Ex.of ts (Same.refl _))
theorem row_true {m lo hi : Int} {ns : List Int} (h1 : (ns.length : Int) = m) (h2 : ∀ i ∈ ns, lo ≤ i ∧ i ≤ hi) : rowB m lo hi ns = true := by
  unfold rowB
  rw [decide_eq_true h1, Bool.true_and, List.all_eq_true]
  intro i hi'
  simp only [Bool.and_eq_true, decide_eq_true_eq]
  exact h2 i hi'
end

section
variable {P : Program} {w : World} {K : PySem.W.Frag} {mg : Str → Option Value} {base : Heap}
def FieldOk (f : Int) : Prop := f = 0 ∨ f = 2 ∨ f = 3 ∨ f = 5 ∨ f = 7 ∨ f = 31
def sp_is_field : Sp := fun vs H Q _ => ∃ f : Int, vs = [.int f] ∧ FieldOk f ∧ Q (.bl true) H
theorem ok_is_field (T : Txt K mg) : FnOk P w K mg base CX0 2 T.is_field.f T.is_field.fd P_is_field sp_is_field := by
  refine T.is_field.F.ok sc_is_field (fun vs H Q E h => ?_) (fun cdv A outer s H vs Q E hr h => ?_)
  · obtain ⟨f, rfl, _⟩ := h; rfl
  · obtain ⟨f, rfl, hf, k⟩ := h
    refine ⟨_, (pss_one (ps_ret (pe_and (pe_call (ok_is_integer T) (hr.mono (by decide)) rfl T.is_integer.g T.is_integer.F.kp (b_is_integer T) .nil pass0 (pa_cons (pv 0) pa_nil)) (pe_one (pe_or (pe_cmpR op_eq (pv 0) pe_int (nomark _)) (pe_one (pe_cmpR (r := rIn K false) op_in_seq (pv 0) (pe_glob rfl T.g_PRIMES (v := .ref T.aPRIMES) rfl) (by rfl)))))))), ?_⟩
    walk_at "rd"
    rw [vdec]
    refine iteD (fun h0 => ?_) (fun h0 => ?_)
    · exact k
    · walk_at "rd"
      refine ⟨_, _, rfl, .inr (T.t_PRIMES _), rfl, rfl, ?_⟩
      have e : inV (.int f) ([2, 3, 5, 7, 11, 13, 17, 19, 23, 29, 31].map V.int) = true := by
        unfold FieldOk at hf
        rcases hf with h | h | h | h | h | h
        · exact absurd h h0
        all_goals subst h; decide
      show Q (.bl (inV (.int f) ([2, 3, 5, 7, 11, 13, 17, 19, 23, 29, 31].map V.int))) H
      rw [e]
      exact k
theorem kit_str_str : PySem.W.kitOne K (.type "str") (.type "str") = some true := kit_ty (by decide +kernel)
def sp_is_order (t : TabsAt) (K : PySem.W.Frag) : Sp := fun vs H Q _ => ∃ (n : Nat) (o : Ord) (v : V), vs = [.int n, v] ∧ 1 ≤ n ∧ n ≤ 4 ∧ OrdOk n o ∧ Dp K H v (oD o) ∧ TS t H ∧ ∀ H', Ex t H H' → Q (.bl true) H'
theorem ok_is_order (T : Txt K mg) {t : TabsAt} (B : TBs T base t) : FnOk P w K mg base CX0 13 T.is_order.f T.is_order.fd P_is_order (sp_is_order t K) := by
  refine T.is_order.F.ok sc_is_order (fun vs H Q E h => ?_) (fun cdv A outer s H vs Q E hr h => ?_)
  · obtain ⟨n, o, v, rfl, _⟩ := h; rfl
  · obtain ⟨n, o, v, rfl, hn, hn4, ho, hv, ts, k⟩ := h
    refine ⟨_, (pss_cons (ps_if (pt_val (pe_callB (r := rIsi K) call_isi rfl T.n_isinstance bo_isinstance (pa_cons (pv 1) (pa_cons (pe_bltn (v := .ty "str") rfl T.n_str bo_str rfl) pa_nil)))) (pss_one (ps_ret (pe_cmpR (r := rIn K false) op_in_seq (pv 1) (pe_tup (pa_cons pe_str (pa_cons pe_str (pa_cons pe_str pa_nil)))) (by rfl)))) pss_nil)
  (pss_cons (ps_if (pt_not (pt_val (pe_call (ok_is_tuple_of T) (hr.mono (by decide)) rfl T.is_tuple_of.g T.is_tuple_of.F.kp (b_is_tuple_of T) .nil pass0 (pa_cons (pv 1) (pa_cons pe_int pa_nil))))) (pss_one (ps_ret pe_bl)) pss_nil)
  (pss_cons (ps_if (pt_cmpR (op_eqD hr.units) (pe_ix (r := rIxT K) ix_tup (pv 1) pe_int (fun _ _ => rfl)) pe_str (nomark _)) (pss_one (ps_ret (pe_call (ok_is_integer_in T) (hr.mono (by decide)) rfl T.is_integer_in.g T.is_integer_in.F.kp (b_is_integer_in T) .nil pass0 (pa_cons (pe_ix (r := rIxT K) ix_tup (pv 1) pe_int (fun _ _ => rfl)) (pa_cons pe_int (pa_cons (pe_op op_sub (pv 0) pe_int) pa_nil)))))) pss_nil)
  (pss_one (ps_ret (pe_and (pe_cmpR (op_eqD hr.units) (pe_ix (r := rIxT K) ix_tup (pv 1) pe_int (fun _ _ => rfl)) pe_str (nomark _)) (pe_one (pe_call (ok_is_row_of_integers T B) (hr.mono (by decide)) rfl T.is_row_of_integers.g T.is_row_of_integers.F.kp (b_is_row_of_integers T) .nil pass0 (pa_cons (pe_ix (r := rIxT K) ix_tup (pv 1) pe_int (fun _ _ => rfl)) (pa_cons (pv 0) (pa_cons pe_int (pa_cons (pe_glob rfl T.g_MOST_WEIGHT (v := .int 20) ⟨_, rfl⟩) pa_nil)))))))))))), ?_⟩
    have str : ∀ x : Str, inV (.str x) [.str "lex", .str "deglex", .str "degrevlex"] = true → ∀ p, H p = Option.none → Q (.bl (inV (.str x) [.str "lex", .str "deglex", .str "degrevlex"])) (upd H p (.tup [.str "lex", .str "deglex", .str "degrevlex"])) :=
      fun x e p hp => by rw [e]; exact k _ (Ex.of ts (same_upd hp))
    cases o with
    | lex =>
      cases hv
      walk_at "rd"
      refine ⟨_, _, _, _, _, rfl, .ty _, .base (.str _), kit_str_str, ?_⟩
      walk_at "rd"
      refine ⟨(show 3 ≤ sizeLine by decide), fun p hp => ?_⟩
      exact ⟨_, _, rfl, .inr (.inl (.inl upd_same)), rfl, rfl, str sLex (by decide +kernel) p hp⟩
    | deglex =>
      cases hv
      walk_at "rd"
      refine ⟨_, _, _, _, _, rfl, .ty _, .base (.str _), kit_str_str, ?_⟩
      walk_at "rd"
      refine ⟨(show 3 ≤ sizeLine by decide), fun p hp => ?_⟩
      exact ⟨_, _, rfl, .inr (.inl (.inl upd_same)), rfl, rfl, str sDeg (by decide +kernel) p hp⟩
    | drl =>
      cases hv
      walk_at "rd"
      refine ⟨_, _, _, _, _, rfl, .ty _, .base (.str _), kit_str_str, ?_⟩
      walk_at "rd"
      refine ⟨(show 3 ≤ sizeLine by decide), fun p hp => ?_⟩
      exact ⟨_, _, rfl, .inr (.inl (.inl upd_same)), rfl, rfl, str sDrl (by decide +kernel) p hp⟩
    | block c =>
      obtain ⟨hc1, hc2⟩ := ho
      cases hv with
      | @tup a xs0 _ hT hA =>
      cases hA with
      | cons hx0 hA =>
      cases hx0
      cases hA with
      | cons hx1 hA =>
      cases hx1
      cases hA
      walk_at "rd"
      refine ⟨_, _, _, _, _, rfl, .ty _, ty_tup hT, kit_tuple_str, ?_⟩
      walk_at "rd"
      refine ⟨_, _, _, rfl, hT, ?_⟩
      walk_at "rd"
      refine ⟨_, _, .str _, .str _, shBlk, shBlk, ?_⟩
      walk_at "rd"
      refine ⟨_, _, _, rfl, ?_⟩
      rw [decide_eq_true (show (1 : Int) ≤ (c : Int) by omega), decide_eq_true (show (c : Int) ≤ (n : Int) - 1 by omega)]
      exact k _ (Ex.of ts (Same.refl _))
    | wts ws =>
      obtain ⟨hw1, hw2⟩ := ho
      cases hv with
      | @tup a xs0 _ hT hA =>
      cases hA with
      | cons hx0 hA =>
      cases hx0
      cases hA with
      | @cons wv _ _ _ hx1 hA =>
      cases hA
      cases hx1 with
      | @tup b ys _ hb hbs =>
      have ey := dpAll_ints_eq hbs
      subst ey
      walk_at "rd"
      refine ⟨_, _, _, _, _, rfl, .ty _, ty_tup hT, kit_tuple_str, ?_⟩
      walk_at "rd"
      refine ⟨_, _, _, rfl, hT, ?_⟩
      walk_at "rd"
      refine ⟨_, _, .str _, .str _, shWts, shBlk, ?_⟩
      walk_at "rd"
      refine ⟨_, _, .str _, .str _, shWts, shWts, ?_⟩
      walk_at "rd"
      refine ⟨b, n, 1, 20, ws, rfl, hb, ts, fun H2 x2 => ?_⟩
      rw [row_true (by rw [hw1]) fun i hi => by have := hw2 i hi; omega]
      exact k _ x2
def rgD (f : Int) (n : Nat) (o : Ord) : PyData := .tuple [.int f, .int n, oD o]
def sp_is_ring (t : TabsAt) (K : PySem.W.Frag) : Sp := fun vs H Q _ => ∃ (f : Int) (n : Nat) (o : Ord) (v : V), vs = [v] ∧ FieldOk f ∧ 1 ≤ n ∧ n ≤ 4 ∧ OrdOk n o ∧ Dp K H v (rgD f n o) ∧ TS t H ∧ ∀ H', Ex t H H' → Q (.bl true) H'
/-- a ring's three parts -/
theorem ring_parts {H : Hp} {v : V} {f : Int} {n : Nat} {o : Ord} (h : Dp K H v (rgD f n o)) : ∃ a ov, v = .ref a ∧ SqT K H a [.int f, .int n, ov] ∧ Dp K H ov (oD o) := by
  cases h with
  | @tup a xs0 _ hT hA =>
  cases hA with
  | cons hx0 hA =>
  cases hx0
  cases hA with
  | cons hx1 hA =>
  cases hx1
  cases hA with
  | @cons ov _ _ _ hx2 hA =>
  cases hA
  exact ⟨a, ov, rfl, hT, hx2⟩
theorem ok_is_ring (T : Txt K mg) {t : TabsAt} (B : TBs T base t) : FnOk P w K mg base CX0 14 T.is_ring.f T.is_ring.fd P_is_ring (sp_is_ring t K) := by
  refine T.is_ring.F.ok sc_is_ring (fun vs H Q E h => ?_) (fun cdv A outer s H vs Q E hr h => ?_)
  · obtain ⟨f, n, o, v, rfl, _⟩ := h; rfl
  · obtain ⟨f, n, o, v, rfl, hf, hn, hn4, ho, hv, ts, k⟩ := h
    obtain ⟨a, ov, rfl, hT, hov⟩ := ring_parts hv
    refine ⟨_, (pss_cons (ps_if (pt_not (pt_val (pe_call (ok_is_tuple_of T) (hr.mono (by decide)) rfl T.is_tuple_of.g T.is_tuple_of.F.kp (b_is_tuple_of T) .nil pass0 (pa_cons (pv 0) (pa_cons pe_int pa_nil))))) (pss_one (ps_ret pe_bl)) pss_nil)
  (pss_cons (ps_asg (pv 0) (pg_tup rfl (pgs_cons (pg_name (i := 1) sc_is_ring.nd rfl (Or.inl rfl)) (pgs_cons (pg_name (i := 2) sc_is_ring.nd rfl (Or.inl rfl)) (pgs_cons (pg_name (i := 3) sc_is_ring.nd rfl (Or.inl rfl)) pgs_nil)))))
  (pss_one (ps_ret (pe_and (pe_call (ok_is_field T) (hr.mono (by decide)) rfl T.is_field.g T.is_field.F.kp (b_is_field T) .nil pass0 (pa_cons (pv 1) pa_nil)) (pe_and (pe_call (ok_is_integer_in T) (hr.mono (by decide)) rfl T.is_integer_in.g T.is_integer_in.F.kp (b_is_integer_in T) .nil pass0 (pa_cons (pv 2) (pa_cons pe_int (pa_cons (pe_glob rfl T.g_MOST_VARIABLES (v := .int 4) ⟨_, rfl⟩) pa_nil)))) (pe_one (pe_call (ok_is_order T B) (hr.mono (by decide)) rfl T.is_order.g T.is_order.F.kp (b_is_order T) .nil pass0 (pa_cons (pv 2) (pa_cons (pv 3) pa_nil)))))))))), ?_⟩
    walk_at "rd"
    refine ⟨_, _, _, rfl, hT, ?_⟩
    walk_at "rd"
    refine ⟨a, _, rfl, hT, rfl, ?_⟩
    walk_at "rd"
    refine ⟨hf, ?_⟩
    walk_at "rd"
    refine ⟨_, _, _, rfl, ?_⟩
    rw [decide_eq_true (show (1 : Int) ≤ (n : Int) by omega), decide_eq_true (show (n : Int) ≤ 4 by omega)]
    walk_at "rd"
    exact ⟨n, o, ov, rfl, hn, hn4, ho, hov, ts, fun H' e => k H' e⟩
/-- the coding of a ring -/
theorem rows_ok {n : Nat} {o : Ord} (hn : 1 ≤ n) (hn4 : n ≤ 4) (ho : OrdOk n o) : RowsOk n (rowsL n o) := by
  have hs : ∀ r ∈ singles n, r.length = n ∧ ∀ e ∈ r, 0 ≤ e ∧ e ≤ 20 := fun r hr => by
    obtain ⟨p, _, rfl⟩ := List.mem_map.mp hr
    refine ⟨by simp, fun e he => ?_⟩
    obtain ⟨k, _, rfl⟩ := List.mem_map.mp he
    split <;> omega
  have hf : ∀ a b, ∀ r ∈ falling n a b, r.length = n ∧ ∀ e ∈ r, 0 ≤ e ∧ e ≤ 20 := fun a b r hr => by
    obtain ⟨p, _, rfl⟩ := List.mem_map.mp hr
    refine ⟨by simp, fun e he => ?_⟩
    obtain ⟨k, _, rfl⟩ := List.mem_map.mp he
    split <;> omega
  have hl : ∀ a b, (falling n a b).length = b - a := fun a b => by simp [falling]
  have hl2 : (singles n).length = n := by simp [singles]
  cases o with
  | lex => exact ⟨by show (singles n).length ≤ 5; omega, hs⟩
  | deglex =>
    refine ⟨by show (List.replicate n (1 : Int) :: singles n).length ≤ 5; rw [List.length_cons]; omega, fun r hr => ?_⟩
    rcases List.mem_cons.mp hr with rfl | hr
    · exact ⟨by simp, fun e he => by rw [(List.mem_replicate.mp he).2]; omega⟩
    · exact hs r hr
  | drl => exact ⟨by show (falling n 0 n).length ≤ 5; rw [hl]; omega, hf 0 n⟩
  | block c =>
    obtain ⟨h1, h2⟩ := ho
    refine ⟨by show (falling n 0 c ++ falling n c n).length ≤ 5; rw [List.length_append, hl, hl]; omega, fun r hr => ?_⟩
    rcases List.mem_append.mp hr with hr | hr
    · exact hf 0 c r hr
    · exact hf c n r hr
  | wts ws =>
    obtain ⟨h1, h2⟩ := ho
    refine ⟨by show (ws :: falling n 0 n).length ≤ 5; rw [List.length_cons, hl]; omega, fun r hr => ?_⟩
    rcases List.mem_cons.mp hr with rfl | hr
    · exact ⟨h1, fun e he => by have := h2 e he; omega⟩
    · exact hf 0 n r hr
def sp_check_ring (C : Addr) (t : TabsAt) (K : PySem.W.Frag) : Sp := fun vs H Q _ => ∃ (f : Int) (n : Nat) (o : Ord) (v : V), vs = [v] ∧ FieldOk f ∧ 1 ≤ n ∧ n ≤ 4 ∧ OrdOk n o ∧ Dp K H v (rgD f n o) ∧ TS t H ∧ ∀ a H', Ex t H H' → CodO C K H' a n (rowsL n o) ∧ CodF C H' a f → Q (.ref a) H'
theorem ok_check_ring (T : Txt K mg) {t : TabsAt} (B : TBs T base t) : FnOk P w K mg base CX0 15 T.check_ring.f T.check_ring.fd P_check_ring (sp_check_ring T.Coding.C t K) := by
  refine T.check_ring.F.ok sc_check_ring (fun vs H Q E h => ?_) (fun cdv A outer s H vs Q E hr h => ?_)
  · obtain ⟨f, n, o, v, rfl, _⟩ := h; rfl
  · obtain ⟨f, n, o, v, rfl, hf, hn, hn4, ho, hv, ts, k⟩ := h
    obtain ⟨ds, hdC, hbC⟩ := b_Coding___init__ T
    refine ⟨_, (pss_cons (ps_if (pt_not (pt_val (pe_call (ok_is_ring T B) (hr.mono (by decide)) rfl T.is_ring.g T.is_ring.F.kp (b_is_ring T) .nil pass0 (pa_cons (pv 0) pa_nil)))) (pss_one ps_never) pss_nil)
  (pss_cons (ps_asg (pv 0) (pg_tup rfl (pgs_cons (pg_name (i := 1) sc_check_ring.nd rfl (Or.inl rfl)) (pgs_cons (pg_name (i := 2) sc_check_ring.nd rfl (Or.inl rfl)) (pgs_cons (pg_name (i := 3) sc_check_ring.nd rfl (Or.inl rfl)) pgs_nil)))))
  (pss_one (ps_ret (pe_make T.Coding.mkr (ok_Coding___init__ T) (hr.mono (by decide)) rfl T.Coding.g hbC hdC pass0 (pa_cons (pv 1) (pa_cons (pv 2) (pa_cons (pe_call (ok_rows_of T) (hr.mono (by decide)) rfl T.rows_of.g T.rows_of.F.kp (b_rows_of T) .nil pass0 (pa_cons (pv 2) (pa_cons (pv 3) pa_nil))) pa_nil)))))))), ?_⟩
    walk_at "rd"
    refine ⟨f, n, o, v, rfl, hf, hn, hn4, ho, hv, ts, fun H1 x1 => ?_⟩
    have hv1 : Dp K H1 v (rgD f n o) := Dp.tp (tp_ext x1.keep) _ _ (by simp [rgD, tOnly, tOnlyAll, tOnly_ord]) hv
    obtain ⟨a, ov, rfl, hT, hov⟩ := ring_parts hv1
    walk_at "rd"
    refine ⟨a, _, rfl, hT, rfl, ?_⟩
    walk_at "rd"
    refine ⟨n, o, ov, rfl, hn, hn4, ho, hov, fun p H2 xs s2 e2 d2 => ?_⟩
    walk_at "rd"
    intro y dy hy hdy hne
    have s3 : Same H2 (upd (upd H2 dy (.own y)) y (.ins T.Coding.C dy [])) := Same.trans (same_upd hdy) (same_upd (by rw [upd_ne hne.symm]; exact hy))
    refine ⟨y, dy, f, n, rowsL n o, .ref p, rfl, hn, hn4, rows_ok hn hn4 ho, .tup (.inl (.inl (s3 _ _ e2))) (DpAll.same s3 _ _ d2), upd_same, fun H4 c4 cf4 k4 => ⟨rfl, ?_⟩⟩
    have nn : ∀ b o, H2 b = some o → b ≠ y := fun b o e z => by rw [z, hy] at e; cases e
    have s4 : Same H2 H4 := fun b o e => k4 b o (nn b o e) (s3 _ _ e)
    exact k y H4 (x1.same (Same.trans s2 s4)) ⟨c4, cf4⟩
end

section
variable {P : Program} {w : World} {K : PySem.W.Frag} {mg : Str → Option Value} {base : Heap}
/-- a monomial of n places that the program takes -/
def Mon (n : Nat) (ms : List Int) : Prop := MonoOk n ms ∧ ms.sum ≤ 60
def sp_is_monomial (t : TabsAt) (K : PySem.W.Frag) : Sp := fun vs H Q _ => ∃ (n : Nat) (M : Addr) (ms : List Int), vs = [.int n, .ref M] ∧ Mon n ms ∧ SqT K H M (ms.map V.int) ∧ TS t H ∧ ∀ H', Ex t H H' → Q (.bl true) H'
theorem ok_is_monomial (T : Txt K mg) {t : TabsAt} (B : TBs T base t) : FnOk P w K mg base CX0 13 T.is_monomial.f T.is_monomial.fd P_is_monomial (sp_is_monomial t K) := by
  refine T.is_monomial.F.ok sc_is_monomial (fun vs H Q E h => ?_) (fun cdv A outer s H vs Q E hr h => ?_)
  · obtain ⟨n, M, ms, rfl, _⟩ := h; rfl
  · obtain ⟨n, M, ms, rfl, ⟨⟨hl, hb⟩, hs⟩, hM, ts, k⟩ := h
    refine ⟨_, (pss_one (ps_ret (pe_and (pe_call (ok_is_row_of_integers T B) (hr.mono (by decide)) rfl T.is_row_of_integers.g T.is_row_of_integers.F.kp (b_is_row_of_integers T) .nil pass0 (pa_cons (pv 1) (pa_cons (pv 0) (pa_cons pe_int (pa_cons (pe_glob rfl T.g_MOST_DEGREE (v := .int 60) ⟨_, rfl⟩) pa_nil))))) (pe_one (pe_cmpR op_le (pe_callB (r := rSumS K) (cr_sumS rfl) rfl T.n_sum bo_sum (pa_cons (pv 1) pa_nil)) (pe_glob rfl T.g_MOST_DEGREE (v := .int 60) ⟨_, rfl⟩) (nomark _)))))), ?_⟩
    walk_at "rd"
    refine ⟨M, n, 0, 60, ms, rfl, hM, ts, fun H2 x2 => ?_⟩
    rw [row_true (by rw [hl]) fun i hi => by have := hb i hi; omega]
    walk_at "rd"
    refine ⟨M, ms, rfl, .inr ((tp_ext x2.keep).sqt hM), ?_⟩
    walk_at "rd"
    show Q (V.bl (decide (ms.sum ≤ 60))) _
    rw [decide_eq_true hs]
    exact k _ x2
theorem CodO.ex {C : Addr} {t : TabsAt} {H H' : Hp} {a : Addr} {n : Nat} {rs : List (List Int)} (x : Ex t H H') (h : CodO C K H a n rs) : CodO C K H' a n rs := by
  obtain ⟨dx, L, fs, rv, c1, c2, c3, c4, c5, c6, c7⟩ := h
  exact ⟨dx, L, fs, rv, x.keep _ _ c1 (fun _ z => nomatch z), c2, c3, Dp.tp (tp_ext x.keep) _ _ (tOnly_rows rs) c4, c5, x.keep _ _ c6 (fun _ z => nomatch z), c7⟩
/-- the number of a monomial under an order -/
def codeN (n : Nat) (o : Ord) (ms : List Int) : Int := dotZ ms (unitsL n (rowsL n o))
def sgn (i : Int) : Int := if i = 0 then 0 else if 0 < i then 1 else -1
end

/-! ### numbers: what the program reckons -/
def FieldsP : List Int := [2, 3, 5, 7, 11, 13, 17, 19, 23, 29, 31]
def IsF (f : Int) : Prop := f = 0 ∨ f ∈ FieldsP
theorem IsF.lt {f : Int} (h : IsF f) : 0 ≤ f ∧ f ≤ 31 := by
  rcases h with h | h
  · omega
  · simp only [FieldsP, List.mem_cons, List.not_mem_nil, or_false] at h
    omega
theorem IsF.pos {f : Int} (h : IsF f) (h0 : f ≠ 0) : 2 ≤ f := by
  rcases h with h | h
  · exact absurd h h0
  · simp only [FieldsP, List.mem_cons, List.not_mem_nil, or_false] at h
    omega
/-- x times n modulo p, k times -/
def powM (n p : Int) : Nat → Int
  | 0 => 1
  | k + 1 => powM n p k * n % p
theorem powM_lt {n p : Int} (hp : 2 ≤ p) : ∀ k, 0 ≤ powM n p k ∧ powM n p k < p
  | 0 => by show (0 : Int) ≤ 1 ∧ (1 : Int) < p; omega
  | k + 1 => ⟨Int.emod_nonneg _ (by omega), Int.emod_lt_of_pos _ (by omega)⟩
def invP (n p : Int) : Int := powM n p (p - 2).toNat
def sgnG (n d : Int) : Int := if d < 0 then -((Nat.gcd n.natAbs d.natAbs : Nat) : Int) else ((Nat.gcd n.natAbs d.natAbs : Nat) : Int)
def lowQ (n d : Int) : Int × Int := (n.fdiv (sgnG n d), d.fdiv (sgnG n d))
def mkN (f n d : Int) : Int × Int := if f = 0 then lowQ n d else (n * invP (d % f) f % f, 1)
theorem sgnG_abs (n d : Int) : (sgnG n d).natAbs = Nat.gcd n.natAbs d.natAbs := by
  unfold sgnG; split <;> omega
theorem sgnG_ne {n d : Int} (h : d ≠ 0) : sgnG n d ≠ 0 := by
  intro z
  have e := sgnG_abs n d
  rw [z] at e
  have : 0 < Nat.gcd n.natAbs d.natAbs := Nat.gcd_pos_of_pos_right _ (by omega)
  simp at e; omega
theorem sgnG_le {n d : Int} (h : d ≠ 0) : (sgnG n d).natAbs ≤ d.natAbs := by
  rw [sgnG_abs]; exact Nat.le_of_dvd (by omega) (Nat.gcd_dvd_right _ _)
/-- v is the number a / b of the field f (b is 1 modulo a prime) -/
def NumV (H : Hp) (f : Int) (v : V) (x : Int × Int) : Prop :=
  (f = 0 ∧ ∃ p, v = .ref p ∧ H p = some (.tup [.int x.1, .int x.2])) ∨ (f ≠ 0 ∧ v = .int x.1 ∧ x.2 = 1)
theorem NumV.same {H H' : Hp} {f : Int} {v : V} {x : Int × Int} (n : NumV H f v x) (s : Same H H') : NumV H' f v x := by
  rcases n with ⟨h, p, e, q⟩ | h
  · exact .inl ⟨h, p, e, s _ _ q⟩
  · exact .inr h
def BB : Nat := 2 ^ 4000
theorem two_line : 2 ≤ sizeLine := by decide
section
variable {P : Program} {w : World} {K : PySem.W.Frag} {mg : Str → Option Value} {base : Heap}
def sp_zero_of : Sp := fun vs H Q _ => ∃ f, vs = [.int f] ∧ ∀ v H', NumV H' f v (0, 1) → Same H H' → Q v H'
theorem ok_zero_of (T : Txt K mg) : FnOk P w K mg base CX0 1 T.zero_of.f T.zero_of.fd P_zero_of sp_zero_of := by
  refine T.zero_of.F.ok sc_zero_of (fun vs H Q E h => ?_) (fun cdv A outer s H vs Q E hr h => ?_)
  · obtain ⟨f, rfl, _⟩ := h; rfl
  · obtain ⟨f, rfl, k⟩ := h
    refine ⟨_, (pss_one (ps_ret (pe_ifExp (pt_cmpR op_eq (pv 0) pe_int (nomark _)) (pe_tup (pa_cons pe_int (pa_cons pe_int pa_nil))) pe_int))), ?_⟩
    walk_at "rd"
    refine iteV (fun hf => ?_) (fun hf => ?_)
    · refine ⟨two_line, fun p hp => ?_⟩
      exact k _ _ (.inl ⟨hf, p, rfl, upd_same⟩) (same_upd hp)
    · exact k _ _ (.inr ⟨hf, rfl, rfl⟩) (Same.refl _)
def sp_inverse_modulo : Sp := fun vs H Q _ => ∃ n p, vs = [.int n, .int p] ∧ 2 ≤ p ∧ p ≤ 31 ∧ n.natAbs < 2 ^ 64 ∧ Q (.int (invP n p)) H
theorem ok_inverse_modulo (T : Txt K mg) : FnOk P w K mg base CX0 1 T.inverse_modulo.f T.inverse_modulo.fd P_inverse_modulo sp_inverse_modulo := by
  refine T.inverse_modulo.F.ok sc_inverse_modulo (fun vs H Q E h => ?_) (fun cdv A outer s H vs Q E hr h => ?_)
  · obtain ⟨n, p, rfl, _⟩ := h; rfl
  · obtain ⟨n, p, rfl, hp, hp2, hn, k⟩ := h
    refine ⟨_, (pss_cons (ps_set (i := 2) sc_inverse_modulo.nd rfl (Or.inl rfl) pe_int)
  (pss_cons (ps_for PassesOwn.never rfl (pi_range1 rfl T.n_range (pa_cons (pe_op op_sub (pv 1) pe_int) pa_nil)) (pg_name (i := 3) sc_inverse_modulo.nd rfl (Or.inl rfl)) (pss_one (ps_set (i := 2) sc_inverse_modulo.nd rfl (Or.inl rfl) (pe_op op_mod (pe_op op_mulW (pv 2) (pv 0)) (pv 1)))))
  (pss_one (ps_ret (pv 2))))), ?_⟩
    walk_at "rd"
    refine ⟨by omega, by omega, for_range (lo := 0) (n := (p - 2).toNat) (fun i σ H' => H' = H ∧ ∃ v, σ = [some (.int n), some (.int p), some (.int (powM n p i)), v]) ⟨rfl, none, rfl⟩ ?_ ?_⟩
    · rintro i σ H' hi ⟨rfl, v, rfl⟩
      have hb := powM_lt (n := n) hp i
      walk_at "rd"
      exact ⟨_, rfl⟩
    · rintro σ H' ⟨rfl, v, rfl⟩
      walk_at "rd"
      exact k
def sp_make_number : Sp := fun vs H Q _ => ∃ f n d, vs = [.int f, .int n, .int d] ∧ IsF f ∧ n.natAbs < BB ∧ d.natAbs < BB ∧ (f = 0 → d ≠ 0) ∧ ∀ v H', NumV H' f v (mkN f n d) → Same H H' → Q v H'
theorem ok_make_number (T : Txt K mg) : FnOk P w K mg base CX0 2 T.make_number.f T.make_number.fd P_make_number sp_make_number := by
  refine T.make_number.F.ok sc_make_number (fun vs H Q E h => ?_) (fun cdv A outer s H vs Q E hr h => ?_)
  · obtain ⟨f, n, d, rfl, _⟩ := h; rfl
  · obtain ⟨f, n, d, rfl, hF, hn, hd, h0, k⟩ := h
    refine ⟨_, (pss_cons (ps_if (pt_truth (pv 0) (by intro _; rfl)) (pss_one (ps_ret (pe_op op_mod (pe_op op_mulW (pv 1) (pe_call (ok_inverse_modulo T) (hr.mono (by decide)) rfl T.inverse_modulo.g T.inverse_modulo.F.kp (b_inverse_modulo T) .nil pass0 (pa_cons (pe_op op_mod (pv 2) (pv 0)) (pa_cons (pv 0) pa_nil)))) (pv 0)))) pss_nil)
  (pss_cons (ps_set (i := 3) sc_make_number.nd rfl (Or.inl rfl) (pe_callBfun cr_gcd rfl T.g_gcd (pa_cons (pv 1) (pa_cons (pv 2) pa_nil))))
  (pss_cons (ps_if (pt_cmpR op_lt (pv 2) pe_int (nomark _)) (pss_one (ps_set (i := 3) sc_make_number.nd rfl (Or.inl rfl) (pe_un un_neg (pv 3)))) pss_nil)
  (pss_one (ps_ret (pe_tup (pa_cons (pe_op op_fdivZ (pv 1) (pv 3)) (pa_cons (pe_op op_fdivZ (pv 2) (pv 3)) pa_nil)))))))), ?_⟩
    walk_at "rd"
    unfold mkN at k
    refine iteN0 (fun hf => ?_) (fun hf => ?_)
    · rw [if_neg hf] at k
      have h2 := hF.pos hf
      have h31 := hF.lt
      walk_at "rd"
      have e1 := Int.emod_nonneg d (show f ≠ 0 by omega)
      have e2 := Int.emod_lt_of_pos d (show 0 < f by omega)
      refine ⟨h2, h31.2, by omega, ?_⟩
      walk_at "rd"
      have e3 := powM_lt (n := d % f) h2 (f - 2).toNat
      have e4 : invP (d % f) f = powM (d % f) f (f - 2).toNat := rfl
      refine ⟨wide_mul (a := 4000) (b := 64) hn (by omega) (by decide) (by decide) (by decide), ?_⟩
      walk_at "rd"
      exact k _ _ (.inr ⟨hf, rfl, rfl⟩) (Same.refl _)
    · rw [if_pos hf] at k
      have d0 := h0 hf
      walk_at "rd"
      have hg := sgnG_ne (n := n) d0
      have hl := sgnG_le (n := n) d0
      have hgb : (sgnG n d).natAbs < BB := Nat.lt_of_le_of_lt hl hd
      refine iteD (fun hd0 => ?_) (fun hd0 => ?_)
      · have e : -((Nat.gcd n.natAbs d.natAbs : Nat) : Int) = sgnG n d := by unfold sgnG; rw [if_pos hd0]
        unfold lowQ at k
        rw [← e] at k hg hgb
        walk_at "rd"
        refine ⟨cdivZ (b := 4000) hg hgb (by decide) (by decide), ?_⟩
        walk_at "rd"
        refine ⟨cdivZ (b := 4000) hg hgb (by decide) (by decide), ?_⟩
        refine ⟨two_line, fun p hp => ?_⟩
        exact k _ _ (.inl ⟨hf, p, rfl, upd_same⟩) (same_upd hp)
      · have e : ((Nat.gcd n.natAbs d.natAbs : Nat) : Int) = sgnG n d := by unfold sgnG; rw [if_neg hd0]
        unfold lowQ at k
        rw [← e] at k hg hgb
        walk_at "rd"
        refine ⟨cdivZ (b := 4000) hg hgb (by decide) (by decide), ?_⟩
        walk_at "rd"
        refine ⟨cdivZ (b := 4000) hg hgb (by decide) (by decide), ?_⟩
        refine ⟨two_line, fun p hp => ?_⟩
        exact k _ _ (.inl ⟨hf, p, rfl, upd_same⟩) (same_upd hp)
end

/-! ### the program's other defs over numbers -/
def SS : Nat := 2 ^ 1500
def S3 : Nat := 2 ^ 3000
def addN (f : Int) (a b : Int × Int) : Int × Int := if f = 0 then lowQ (a.1 * b.2 + b.1 * a.2) (a.2 * b.2) else ((a.1 + b.1) % f, 1)
theorem ss_mul {i j : Int} (hi : i.natAbs < SS) (hj : j.natAbs < SS) : CMulW i j := wide_mul (a := 1500) (b := 1500) hi hj (by decide) (by decide) (by decide)
theorem ss_lt {i j : Int} (hi : i.natAbs < SS) (hj : j.natAbs < SS) : (i * j).natAbs < S3 := wide_lt (a := 1500) (b := 1500) hi hj
theorem s3_bb : S3 + S3 ≤ BB := by decide +kernel
theorem s3_add {i j : Int} (hi : i.natAbs < S3) (hj : j.natAbs < S3) : (i + j).natAbs < BB := by
  have := s3_bb; omega
theorem ss_s3 : SS ≤ S3 := by decide +kernel
/-- a number that may be passed -/
def NumOk (f : Int) (a : Int × Int) : Prop := if f = 0 then a.1.natAbs < NBn ∧ 0 < a.2 ∧ a.2.natAbs < NBn ∧ Nat.gcd a.1.natAbs a.2.natAbs = 1 else 0 ≤ a.1 ∧ a.1 < f ∧ a.2 = 1
theorem nb_ss : NBn ≤ SS := by decide +kernel
theorem NumOk.small {f : Int} {a : Int × Int} (hF : IsF f) (h : NumOk f a) : a.1.natAbs < SS ∧ a.2.natAbs < SS ∧ a.2 ≠ 0 := by
  have := nb_ss
  have h32 : 32 ≤ SS := by decide +kernel
  unfold NumOk at h
  split at h
  · omega
  · have := hF.lt
    omega
section
variable {P : Program} {w : World} {K : PySem.W.Frag} {mg : Str → Option Value} {base : Heap}
theorem NumV.q {H : Hp} {v : V} {x : Int × Int} (h : NumV H 0 v x) : ∃ p, v = .ref p ∧ H p = some (.tup [.int x.1, .int x.2]) := by
  rcases h with ⟨_, h⟩ | ⟨h, _⟩
  · exact h
  · exact absurd rfl h
theorem NumV.m {H : Hp} {f : Int} {v : V} {x : Int × Int} (h : NumV H f v x) (hf : f ≠ 0) : v = .int x.1 ∧ x.2 = 1 := by
  rcases h with ⟨h, _⟩ | ⟨_, h⟩
  · exact absurd h hf
  · exact h
def sp_add_numbers : Sp := fun vs H Q _ => ∃ f va vb a b, vs = [.int f, va, vb] ∧ IsF f ∧ NumV H f va a ∧ NumV H f vb b ∧ NumOk f a ∧ NumOk f b ∧ ∀ v H', NumV H' f v (addN f a b) → Same H H' → Q v H'
theorem ok_add_numbers (T : Txt K mg) : FnOk P w K mg base CX0 3 T.add_numbers.f T.add_numbers.fd P_add_numbers sp_add_numbers := by
  refine T.add_numbers.F.ok sc_add_numbers (fun vs H Q E h => ?_) (fun cdv A outer s H vs Q E hr h => ?_)
  · obtain ⟨f, va, vb, a, b, rfl, _⟩ := h; rfl
  · obtain ⟨f, va, vb, a, b, rfl, hF, na, nb, oa, ob, k⟩ := h
    refine ⟨_, (pss_cons (ps_if (pt_truth (pv 0) (by intro _; rfl)) (pss_one (ps_ret (pe_op op_mod (pe_op op_add (pv 1) (pv 2)) (pv 0)))) pss_nil)
  (pss_one (ps_ret (pe_call (ok_make_number T) (hr.mono (by decide)) rfl T.make_number.g T.make_number.F.kp (b_make_number T) .nil pass0 (pa_cons pe_int (pa_cons (pe_op op_add (pe_op op_mulW (pe_ix (r := rIxT K) ix_tup (pv 1) pe_int (fun _ _ => rfl)) (pe_ix (r := rIxT K) ix_tup (pv 2) pe_int (fun _ _ => rfl))) (pe_op op_mulW (pe_ix (r := rIxT K) ix_tup (pv 2) pe_int (fun _ _ => rfl)) (pe_ix (r := rIxT K) ix_tup (pv 1) pe_int (fun _ _ => rfl)))) (pa_cons (pe_op op_mulW (pe_ix (r := rIxT K) ix_tup (pv 1) pe_int (fun _ _ => rfl)) (pe_ix (r := rIxT K) ix_tup (pv 2) pe_int (fun _ _ => rfl))) pa_nil))))))), ?_⟩
    obtain ⟨a1, a2, a3⟩ := oa.small hF
    obtain ⟨b1, b2, b3⟩ := ob.small hF
    unfold addN at k
    walk_at "rd"
    refine iteN0 (fun hf => ?_) (fun hf => ?_)
    · rw [if_neg hf] at k
      obtain ⟨rfl, _⟩ := na.m hf
      obtain ⟨rfl, _⟩ := nb.m hf
      have h2 := hF.pos hf
      walk_at "rd"
      exact k _ _ (.inr ⟨hf, rfl, rfl⟩) (Same.refl _)
    · subst hf
      rw [if_pos rfl] at k
      obtain ⟨p, rfl, hp⟩ := na.q
      obtain ⟨q, rfl, hq⟩ := nb.q
      walk_at "rd"
      refine ⟨ss_mul a1 b2, ?_⟩
      walk_at "rd"
      refine ⟨ss_mul b1 a2, ?_⟩
      walk_at "rd"
      refine ⟨ss_mul a2 b2, ?_⟩
      walk_at "rd"
      exact ⟨0, _, _, rfl, .inl rfl, s3_add (ss_lt a1 b2) (ss_lt b1 a2), Nat.lt_of_lt_of_le (ss_lt a2 b2) (by have := s3_bb; omega), fun _ => Int.mul_ne_zero a3 b3, fun v H' n s => k v H' n s⟩
def sp_is_fraction : Sp := fun vs H Q _ => ∃ (p : Addr) (a : Int × Int), vs = [.ref p] ∧ H p = some (.tup [.int a.1, .int a.2]) ∧ NumOk 0 a ∧ Q (.bl true) H
theorem ok_is_fraction (T : Txt K mg) : FnOk P w K mg base CX0 2 T.is_fraction.f T.is_fraction.fd P_is_fraction sp_is_fraction := by
  refine T.is_fraction.F.ok sc_is_fraction (fun vs H Q E h => ?_) (fun cdv A outer s H vs Q E hr h => ?_)
  · obtain ⟨p, a, rfl, _⟩ := h; rfl
  · obtain ⟨p, a, rfl, hp, oa, k⟩ := h
    refine ⟨_, (pss_cons (ps_if (PW.pt (pw_or (pt_not (pt_val (pe_call (ok_is_tuple_of T) (hr.mono (by decide)) rfl T.is_tuple_of.g T.is_tuple_of.F.kp (b_is_tuple_of T) .nil pass0 (pa_cons (pv 0) (pa_cons pe_int pa_nil))))) (pw_or (pt_not (pt_val (pe_call (ok_is_integer T) (hr.mono (by decide)) rfl T.is_integer.g T.is_integer.F.kp (b_is_integer T) .nil pass0 (pa_cons (pe_ix (r := rIxT K) ix_tup (pv 0) pe_int (fun _ _ => rfl)) pa_nil)))) (pw_or1 (pt_not (pt_val (pe_call (ok_is_integer T) (hr.mono (by decide)) rfl T.is_integer.g T.is_integer.F.kp (b_is_integer T) .nil pass0 (pa_cons (pe_ix (r := rIxT K) ix_tup (pv 0) pe_int (fun _ _ => rfl)) pa_nil)))))))) (pss_one (ps_ret pe_bl)) pss_nil)
  (pss_one (ps_ret (pe_and (pe_cmpR op_lt (pe_callB call_abs rfl T.n_abs bo_abs (pa_cons (pe_ix (r := rIxT K) ix_tup (pv 0) pe_int (fun _ _ => rfl)) pa_nil)) (pe_glob rfl T.g_NUMBER_BOUND (v := .int NBi) ⟨_, rfl⟩) (nomark _)) (pe_and (pe_chain op_lt op_lt pe_int (pe_ix (r := rIxT K) ix_tup (pv 0) pe_int (fun _ _ => rfl)) (pe_glob rfl T.g_NUMBER_BOUND (v := .int NBi) ⟨_, rfl⟩)) (pe_one (pe_cmpR op_eq (pe_callBfun cr_gcd rfl T.g_gcd (pa_cons (pe_ix (r := rIxT K) ix_tup (pv 0) pe_int (fun _ _ => rfl)) (pa_cons (pe_ix (r := rIxT K) ix_tup (pv 0) pe_int (fun _ _ => rfl)) pa_nil))) pe_int (nomark _)))))))), ?_⟩
    unfold NumOk at oa
    rw [if_pos rfl] at oa
    walk_at "rd"
    refine ⟨_, _, _, rfl, .inl (.inl hp), ?_⟩
    walk_at "rd"
    have hN := nb_eq
    refine iteD (fun h1 => ?_) (fun h1 => ?_)
    · walk_at "rd"
      refine iteD (fun h2 => ?_) (fun h2 => ?_)
      · walk_at "rd"
        refine iteD (fun h3 => ?_) (fun h3 => ?_)
        · walk_at "rd"
          rw [oa.2.2.2]
          exact k
        · exact absurd (show a.2 < NBi by omega) h3
      · exact absurd oa.2.1 h2
    · refine absurd ?_ h1
      split <;> omega
def sp_is_number : Sp := fun vs H Q _ => ∃ f v a, vs = [.int f, v] ∧ NumV H f v a ∧ NumOk f a ∧ Q (.bl true) H
theorem ok_is_number (T : Txt K mg) : FnOk P w K mg base CX0 3 T.is_number.f T.is_number.fd P_is_number sp_is_number := by
  refine T.is_number.F.ok sc_is_number (fun vs H Q E h => ?_) (fun cdv A outer s H vs Q E hr h => ?_)
  · obtain ⟨f, v, a, rfl, _⟩ := h; rfl
  · obtain ⟨f, v, a, rfl, na, oa, k⟩ := h
    refine ⟨_, (pss_cons (ps_if (pt_cmpR op_eq (pv 0) pe_int (nomark _)) (pss_one (ps_ret (pe_call (ok_is_fraction T) (hr.mono (by decide)) rfl T.is_fraction.g T.is_fraction.F.kp (b_is_fraction T) .nil pass0 (pa_cons (pv 1) pa_nil)))) pss_nil)
  (pss_one (ps_ret (pe_call (ok_is_integer_in T) (hr.mono (by decide)) rfl T.is_integer_in.g T.is_integer_in.F.kp (b_is_integer_in T) .nil pass0 (pa_cons (pv 1) (pa_cons pe_int (pa_cons (pe_op op_sub (pv 0) pe_int) pa_nil))))))), ?_⟩
    walk_at "rd"
    refine iteV (fun hf => ?_) (fun hf => ?_)
    · subst hf
      obtain ⟨p, rfl, hp⟩ := na.q
      walk_at "rd"
      exact ⟨_, a, rfl, hp, oa, k⟩
    · obtain ⟨rfl, h1⟩ := na.m hf
      unfold NumOk at oa
      rw [if_neg hf] at oa
      walk_at "rd"
      refine ⟨_, _, _, rfl, ?_⟩
      rw [decide_eq_true (show 0 ≤ a.1 by omega), decide_eq_true (show a.1 ≤ f - 1 by omega)]
      exact k
/-- a number as data -/
def numD (f : Int) (a : Int × Int) : PyData := if f = 0 then .tuple [.int a.1, .int a.2] else .int a.1
theorem NumV.dp {H : Hp} {f : Int} {v : V} {a : Int × Int} (n : NumV H f v a) : Dp K H v (numD f a) := by
  unfold numD
  rcases n with ⟨h, p, rfl, hp⟩ | ⟨h, rfl, _⟩
  · rw [if_pos h]
    exact .tup (.inl (.inl hp)) (.cons (.int _) (.cons (.int _) .nil))
  · rw [if_neg h]
    exact .int _
theorem numD_shaped (f : Int) (a : Int × Int) : SeqAt.shaped (numD f a) = true := by
  unfold numD
  split <;> rfl
theorem numD_eqv (f : Int) (a b : Int × Int) : (numD f a).eqv (numD f b) = if f = 0 then (a.1 == b.1 && a.2 == b.2) else a.1 == b.1 := by
  unfold numD
  split
  · show (a.1 == b.1 && (a.2 == b.2 && true)) = _
    rw [Bool.and_true]
  · rfl
theorem numD_zero {f : Int} {a : Int × Int} (oa : NumOk f a) : (numD f a).eqv (numD f (0, 1)) = decide (a.1 = 0) := by
  rw [numD_eqv]
  unfold NumOk at oa
  split
  · rename_i h
    rw [if_pos h] at oa
    by_cases ha : a.1 = 0
    · have e := oa.2.2.2
      rw [ha] at e
      simp at e
      have e2 : a.2 = 1 := by omega
      simp [ha, e2]
    · simp [ha]
  · by_cases ha : a.1 = 0 <;> simp [ha]
end

/-! ### terms and polynomials -/
/-- v is a term: a number and a monomial -/
def TermV (K : PySem.W.Frag) (H : Hp) (f : Int) (v : V) (t : (Int × Int) × List Int) : Prop := ∃ (tp M : Addr) (nv : V), v = .ref tp ∧ SqT K H tp [nv, .ref M] ∧ NumV H f nv t.1 ∧ H M = some (.tup (t.2.map V.int))
def TermOk (f : Int) (n : Nat) (t : (Int × Int) × List Int) : Prop := NumOk f t.1 ∧ Mon n t.2
theorem NumV.ex {H H' : Hp} {f : Int} {v : V} {x : Int × Int} (h : NumV H f v x) (e : LamX.ExtN H H') : NumV H' f v x := by
  rcases h with ⟨h, p, e1, q⟩ | h
  · exact .inl ⟨h, p, e1, e _ _ q fun ps z => by cases z⟩
  · exact .inr h
theorem TermV.ex {K : PySem.W.Frag} {H H' : Hp} {f : Int} {v : V} {t : (Int × Int) × List Int} (h : TermV K H f v t) (e : LamX.ExtN H H') : TermV K H' f v t := by
  obtain ⟨tp, M, nv, rfl, h1, h2, h3⟩ := h
  exact ⟨tp, M, nv, rfl, (tp_ext e).sqt h1, h2.ex e, e _ _ h3 fun ps z => by cases z⟩
theorem CodF.ex {C : Addr} {H H' : Hp} {a : Addr} {f : Int} (h : CodF C H a f) (e : LamX.ExtN H H') : CodF C H' a f := by
  obtain ⟨dx, fs, h1, h2, S, n, h3, h4, h5, h6⟩ := h
  exact ⟨dx, fs, e _ _ h1 (fun ps z => by cases z), h2, S, n, h3, h4, e _ _ h5 (fun ps z => by cases z), h6⟩
/-- the tuple pv holds the terms ts -/
def PolyV (K : PySem.W.Frag) (H : Hp) (f : Int) (pv : V) (ts : List ((Int × Int) × List Int)) : Prop := ∃ (pa : Addr) (vs : List V), pv = .ref pa ∧ SqT K H pa vs ∧ vs.length = ts.length ∧ ∀ (i : Nat) (v : V) (t : (Int × Int) × List Int), vs[i]? = some v → ts[i]? = some t → TermV K H f v t
theorem PolyV.ex {K : PySem.W.Frag} {H H' : Hp} {f : Int} {v : V} {ts : List ((Int × Int) × List Int)} (h : PolyV K H f v ts) (e : LamX.ExtN H H') : PolyV K H' f v ts := by
  obtain ⟨pa, vs, rfl, h1, h2, h3⟩ := h
  exact ⟨pa, vs, rfl, (tp_ext e).sqt h1, h2, fun i v t a b => (h3 i v t a b).ex e⟩
def codeR (n : Nat) (rs : List (List Int)) (ms : List Int) : Int := dotZ ms (unitsL n rs)
/-- a polynomial: no zeros, greater monomials ahead -/
def PolyOk (f : Int) (n : Nat) (rs : List (List Int)) (ts : List ((Int × Int) × List Int)) : Prop :=
  ts.length ≤ 500 ∧ (∀ t ∈ ts, TermOk f n t ∧ t.1.1 ≠ 0) ∧ ∀ (i : Nat) (t u : (Int × Int) × List Int), ts[i]? = some t → ts[i + 1]? = some u → codeR n rs u.2 < codeR n rs t.2
theorem FieldOk.isF {f : Int} (h : FieldOk f) : IsF f := by
  unfold FieldOk at h
  unfold IsF FieldsP
  simp only [List.mem_cons, List.not_mem_nil, or_false]
  omega
section
variable {P : Program} {w : World} {K : PySem.W.Frag} {mg : Str → Option Value} {base : Heap}
def sp_is_tuple_up_to (K : PySem.W.Frag) : Sp := fun vs H Q _ => ∃ (a : Addr) (m : Int) (xs : List V), vs = [.ref a, .int m] ∧ SqT K H a xs ∧ Q (.bl (decide ((xs.length : Int) ≤ m))) H
theorem ok_is_tuple_up_to (T : Txt K mg) : FnOk P w K mg base CX0 1 T.is_tuple_up_to.f T.is_tuple_up_to.fd P_is_tuple_up_to (sp_is_tuple_up_to K) := by
  refine T.is_tuple_up_to.F.ok sc_is_tuple_up_to (fun vs H Q E h => ?_) (fun cdv A outer s H vs Q E hr h => ?_)
  · obtain ⟨a, m, xs, rfl, _⟩ := h; rfl
  · obtain ⟨a, m, xs, rfl, hT, k⟩ := h
    refine ⟨_, (pss_one (ps_ret (pe_and (pe_callB (r := rIsi K) call_isi rfl T.n_isinstance bo_isinstance (pa_cons (pv 0) (pa_cons (pe_bltn (v := .ty "tuple") rfl T.n_tuple bo_tuple rfl) pa_nil))) (pe_one (pe_cmpR op_le (pe_callB (r := rLenS K) call_len_seq rfl T.n_len bo_len (pa_cons (pv 0) pa_nil)) (pv 1) (nomark _)))))), ?_⟩
    walk_at "rd"
    refine ⟨_, _, _, _, _, rfl, .ty _, ty_tup hT, kit_tuple_tuple, ?_⟩
    walk_at "rd"
    refine ⟨_, _, rfl, .inr hT, ?_⟩
    walk_at "rd"
    exact k
def sp_is_loose_term (C : Addr) (t : TabsAt) (K : PySem.W.Frag) : Sp := fun vs H Q _ => ∃ (a : Addr) (f : Int) (n : Nat) (rs : List (List Int)) (v : V) (tm : (Int × Int) × List Int), vs = [.ref a, v] ∧ CodO C K H a n rs ∧ CodF C H a f ∧ TermV K H f v tm ∧ TermOk f n tm ∧ TS t H ∧ ∀ H', Ex t H H' → Q (.bl true) H'
theorem ok_is_loose_term (T : Txt K mg) {t : TabsAt} (B : TBs T base t) : FnOk P w K mg base CX0 14 T.is_loose_term.f T.is_loose_term.fd P_is_loose_term (sp_is_loose_term T.Coding.C t K) := by
  refine T.is_loose_term.F.ok sc_is_loose_term (fun vs H Q E h => ?_) (fun cdv A outer s H vs Q E hr h => ?_)
  · obtain ⟨a, f, n, rs, v, tm, rfl, _⟩ := h; rfl
  · obtain ⟨a, f, n, rs, v, tm, rfl, ⟨dx, L, fs, rv, c1, c2, _⟩, ⟨dx', fs', c1', cf, _⟩, ⟨tp, M, nv, rfl, h1, h2, h3⟩, ⟨o1, o2⟩, ts, k⟩ := h
    obtain ⟨rfl, rfl⟩ : dx' = dx ∧ fs' = fs := by rw [c1] at c1'; cases c1'; exact ⟨rfl, rfl⟩
    refine ⟨_, (pss_cons (ps_if (pt_not (pt_val (pe_call (ok_is_tuple_of T) (hr.mono (by decide)) rfl T.is_tuple_of.g T.is_tuple_of.F.kp (b_is_tuple_of T) .nil pass0 (pa_cons (pv 1) (pa_cons pe_int pa_nil))))) (pss_one (ps_ret pe_bl)) pss_nil)
  (pss_one (ps_ret (pe_and (pe_call (ok_is_number T) (hr.mono (by decide)) rfl T.is_number.g T.is_number.F.kp (b_is_number T) .nil pass0 (pa_cons (pe_fld (pv 0) rfl) (pa_cons (pe_ix (r := rIxT K) ix_tup (pv 1) pe_int (fun _ _ => rfl)) pa_nil))) (pe_one (pe_call (ok_is_monomial T B) (hr.mono (by decide)) rfl T.is_monomial.g T.is_monomial.F.kp (b_is_monomial T) .nil pass0 (pa_cons (pe_fld (pv 0) rfl) (pa_cons (pe_ix (r := rIxT K) ix_tup (pv 1) pe_int (fun _ _ => rfl)) pa_nil)))))))), ?_⟩
    walk_at "rd"
    refine ⟨_, _, _, rfl, h1, ?_⟩
    walk_at "rd"
    refine ⟨_, _, _, _, _, rfl, c1, T.Coding.cls, T.Coding.n_field, cf, ?_⟩
    walk_at "rd"
    refine ⟨f, nv, tm.1, rfl, h2, o1, ?_⟩
    walk_at "rd"
    refine ⟨_, _, _, _, _, rfl, c1, T.Coding.cls, T.Coding.n_many, c2, ?_⟩
    walk_at "rd"
    exact ⟨n, M, tm.2, rfl, o2, .inl (.inl h3), ts, k⟩
end

theorem gx_pol : ("is_polynomial" : Str) ∈ gensL := by decide
theorem lx_pol : ("is_polynomial" : Str) ∉ lamsL := by decide
section
variable {P : Program} {w : World} {K : PySem.W.Frag} {mg : Str → Option Value} {base : Heap}
def sp_is_polynomial (C : Addr) (t : TabsAt) (K : PySem.W.Frag) : Sp := fun vs H Q _ => ∃ (a : Addr) (f : Int) (n : Nat) (rs : List (List Int)) (v : V) (ts : List ((Int × Int) × List Int)), vs = [.ref a, v] ∧ n ≤ 4 ∧ RowsOk n rs ∧ CodO C K H a n rs ∧ CodF C H a f ∧ PolyV K H f v ts ∧ PolyOk f n rs ts ∧ TS t H ∧ ∀ H', Ex t H H' → Q (.bl true) H'
theorem ok_is_polynomial (T : Txt K mg) {t : TabsAt} (B : TBs T base t) : FnOk P w K mg base CX0 18 T.is_polynomial.f T.is_polynomial.fd P_is_polynomial (sp_is_polynomial T.Coding.C t K) := by
  refine okC T.is_polynomial.F B.h_is_polynomial sc_is_polynomial (fun vs H Q E h => ?_) (fun A outer s H vs Q E hr h => ?_)
  · obtain ⟨a, f, n, rs, v, ts, rfl, _⟩ := h; rfl
  · obtain ⟨a, f, n, rs, v, ts, rfl, hn4, hrs, hc, hcf, hp, ⟨hlen, hok, hdec⟩, tsH, k⟩ := h
    obtain ⟨pa, vs, rfl, hP, hvl, hT⟩ := id hp
    obtain ⟨dx, fs, c1, cf, _⟩ := id hcf
    refine ⟨_, (pss_cons (ps_if (pt_not (pt_val (pe_call (ok_is_tuple_up_to T) (hr.mono (by decide)) rfl T.is_tuple_up_to.g T.is_tuple_up_to.F.kp (b_is_tuple_up_to T) .nil pass0 (pa_cons (pv 1) (pa_cons (pe_glob rfl T.g_MOST_TERMS (v := .int 500) ⟨_, rfl⟩) pa_nil))))) (pss_one (ps_ret pe_bl)) pss_nil)
  (pss_cons (ps_set (i := 2) sc_is_polynomial.nd rfl (Or.inr rfl) (pe_call (ok_zero_of T) (hr.mono (by decide)) rfl T.zero_of.g T.zero_of.F.kp (b_zero_of T) .nil pass0 (pa_cons (pe_fld (pv 0) rfl) pa_nil)))
  (pss_cons (ps_if (pt_not (pt_val (pe_allR (ys := ([] : List Str)) (own := [("term", 4)]) (vs := [4]) sc_is_polynomial.nd (by decide) hr rfl T.n_all bo_all B.b_is_polynomial rfl (gxOk_by (N := N_is_polynomial) (sc := defScope s_is_polynomial) (own := [("term", 4)]) (by decide +kernel)) (pi_tup (pv 1)) (fun _ _ _ _ _ _ _ _ hr => (pg_name (i := 4) (show List.Nodup (N_is_polynomial ++ ([] : List Str)) by decide +kernel) rfl (Or.inl rfl))) (fun _ _ _ _ _ _ _ _ hr => (pe_and (pe_call (ok_is_loose_term T B) (hr.mono (by decide)) rfl T.is_loose_term.g T.is_loose_term.F.kp (b_is_loose_term T) .nil pass0 (pa_cons (pv 0) (pa_cons (pv 4) pa_nil))) (pe_one (pe_cmpR (r := rNeD K) (op_neD hr.units) (pe_ix (r := rIxT K) ix_tup (pv 4) pe_int (fun _ _ => rfl)) (pv 2) (nomark _))))) (fun _ => rfl)))) (pss_one (ps_ret pe_bl)) pss_nil)
  (pss_cons (ps_set (i := 3) sc_is_polynomial.nd rfl (Or.inr rfl) (pe_lc (own := [("term", 4)]) rfl sc_is_polynomial.nd (pi_tup (pv 1)) (blkOk_by (own := [("term", 4)]) (N := N_is_polynomial) (sc := defScope s_is_polynomial) (by decide +kernel)) (fun _ _ _ _ _ => (pg_name (i := 4) sc_is_polynomial.nd rfl (Or.inl rfl))) (fun _ _ _ _ _ => pts_nil) (fun _ _ _ _ _ => (pe_meth (pv 0) T.Coding.cls T.Coding.m_code (ok_Coding_code T) (hr.mono (by decide)) (b_Coding_code T) .nil pass0 (pa_cons (pe_ix (r := rIxT K) ix_tup (pv 4) pe_int (fun _ _ => rfl)) pa_nil)))))
  (pss_one (ps_ret (pe_allR (ys := (["k"] : List Str)) (own := []) (vs := [5]) sc_is_polynomial.nd (by decide) hr rfl T.n_all bo_all B.b_is_polynomial rfl (gxOk_by (N := N_is_polynomial) (sc := defScope s_is_polynomial) (own := []) (by decide +kernel)) (pi_range1 rfl T.n_range (pa_cons (pe_op op_sub (pe_callB (r := rLenS K) call_len_seq rfl T.n_len bo_len (pa_cons (pv 3) pa_nil)) pe_int) pa_nil)) (fun _ _ _ _ _ _ _ _ hr => (pg_name (i := 5) (show List.Nodup (N_is_polynomial ++ (["k"] : List Str)) by decide +kernel) rfl (Or.inl rfl))) (fun _ _ _ _ _ _ _ _ hr => (pe_cmpR op_gt (pe_ix (r := rIxL K) ix_list (pv 3) (pv 5) (fun _ _ => rfl)) (pe_ix (r := rIxL K) ix_list (pv 3) (pe_op op_add (pv 5) pe_int) (fun _ _ => rfl)) (nomark _))) (fun _ => rfl)))))))), ?_⟩
    walk_at "rd"
    refine ⟨_, _, _, rfl, hP, ?_⟩
    rw [decide_eq_true (show ((vs.length : Nat) : Int) ≤ 500 by omega)]
    walk_at "rd"
    refine ⟨_, _, _, _, _, rfl, c1, T.Coding.cls, T.Coding.n_field, cf, ?_⟩
    walk_at "rd"
    intro zv H1 nz s1
    have x1 : Ex t H H1 := Ex.of tsH s1
    walk_at "rd"
    refine ⟨⟨vs, (tp_ext x1.keep).sqt hP⟩, x1.ts.g _ gx_pol, fun H2 e2 => ?_⟩
    have x2 : Ex t H1 H2 := Ex.tab x1.ts gx_pol lx_pol e2
    refine gx_tup (Pv := fun _ H' => Ex t H1 H') x2 (fun i H' _ x => (tp_ext (x1.trans x).keep).sqt hP) (fun i v H' hv x => ?_) (fun H3 x3 => ?_)
    · have hi : i < ts.length := by rw [← hvl]; exact (List.getElem?_eq_some_iff.mp hv).1
      have xx : Ex t H H' := x1.trans x
      obtain ⟨o1, o2⟩ := hok _ (List.getElem_mem hi)
      walk_at "rd"
      have hv' : TermV K H f v ts[i] := hT i v ts[i] hv (List.getElem?_eq_getElem hi)
      refine ⟨a, f, n, rs, v, ts[i], rfl, CodO.ex xx hc, hcf.ex xx.keep, hv'.ex xx.keep, o1, xx.ts, fun H4 x4 => ?_⟩
      obtain ⟨tp, M, nv, rfl, h1, h2, h3⟩ := hv'.ex (xx.trans x4).keep
      walk_at "rd"
      refine ⟨_, _, h2.dp, (nz.ex (x.trans x4).keep).dp, numD_shaped _ _, numD_shaped _ _, ?_⟩
      rw [numD_zero o1.1, decide_eq_false o2]
      exact ⟨true, rfl, (fun z => by cases z), fun _ => x.trans x4⟩
    · walk_at "rd"
      have xx : Ex t H H3 := x1.trans x3
      refine ⟨⟨vs, (tp_ext xx.keep).sqt hP⟩, fun D hD => ?_⟩
      refine lc_tup (xs := vs) (MapAt H3 D fun j y _ => ∃ tm, ts[j]? = some tm ∧ y = .int (codeR n rs tm.2)) (mapAt_0 hD) (fun j H4 _ hM => ?_) (fun j v H4 hv hM => ?_) (fun H4 hM => ?_)
      · obtain ⟨ys, s4, _⟩ := hM
        exact Same.tup s4 ((tp_ext xx.keep).sqt hP)
      · have hi : j < ts.length := by rw [← hvl]; exact (List.getElem?_eq_some_iff.mp hv).1
        have s4 : Same H3 H4 := let ⟨_, s4, _⟩ := hM; s4
        have x4 : Ex t H H4 := xx.same s4
        obtain ⟨tp, M, nv, rfl, h1, h2, h3⟩ := (hT j v ts[j] hv (List.getElem?_eq_getElem hi)).ex x4.keep
        obtain ⟨o1, o2⟩ := hok _ (List.getElem_mem hi)
        walk_at "rd"
        obtain ⟨dx4, L4, fs4, rv4, k1, k2, k3, k4, k5, k6, k7⟩ := id (CodO.ex x4 hc)
        refine ⟨a, dx4, fs4, rfl, k1, k7, ?_⟩
        walk_at "rd"
        have hsz : 500 ≤ sizeLine := by decide
        exact ⟨a, M, n, rs, ts[j].2, rfl, hn4, hrs, o1.2.1, CodO.ex x4 hc, .inl (.inl h3), mapAt_step hM hD (by omega) (Same.refl _) (fun _ _ _ _ q _ => q) ⟨ts[j], List.getElem?_eq_getElem hi, rfl⟩⟩
      · walk_at "rd"
        obtain ⟨ys, s4, hDy, hly, hy⟩ := hM
        have x4 : Ex t H H4 := xx.same s4
        have hsz : ys.length ≤ 500 := by omega
        refine ⟨D, ys, rfl, .inl (.inl (.inl hDy)), ?_⟩
        walk_at "rd"
        refine ⟨by omega, by omega, x4.ts.g _ gx_pol, fun H5 e5 => ?_⟩
        have x5 : Ex t H4 H5 := Ex.tab x4.ts gx_pol lx_pol e5
        refine gx_range (Pv := fun _ H' => Ex t H4 H') x5 (fun i H6 hi x6 => ?_) (fun H6 x6 => k H6 (x4.trans x6))
        have hD6 : H6 D = some (.lst ys) := x6.keep _ _ hDy fun ps z => by cases z
        have h1 : i < ys.length := by omega
        have h2 : i + 1 < ys.length := by omega
        obtain ⟨t1, a1, b1⟩ := hy i ys[i] (List.getElem?_eq_getElem h1)
        obtain ⟨t2, a2, b2⟩ := hy (i + 1) ys[i + 1] (List.getElem?_eq_getElem h2)
        have e1 : atI ys ((0 : Int) + (i : Nat)) = some (V.int (codeR n rs t1.2)) := by
          rw [Int.zero_add, atI_nat (List.getElem?_eq_getElem h1), b1]
        have e2' : atI ys ((0 : Int) + (i : Nat) + 1) = some (V.int (codeR n rs t2.2)) := by
          have e : (0 : Int) + (i : Nat) + 1 = ((i + 1 : Nat) : Int) := by omega
          rw [e, atI_nat (List.getElem?_eq_getElem h2), b2]
        have hd := hdec i t1 t2 a1 a2
        walk_at "rd"
        refine ⟨_, _, _, _, rfl, rfl, .inl (.inl hD6), e1, ?_⟩
        walk_at "rd"
        refine ⟨_, _, _, _, rfl, rfl, .inl (.inl hD6), e2', ?_⟩
        walk_at "rd"
        exact ⟨fun z => absurd hd (of_decide_eq_false z), fun _ => x6⟩
end

section
variable {P : Program} {w : World} {K : PySem.W.Frag} {mg : Str → Option Value} {base : Heap}
def sp_check_polynomial (C : Addr) (t : TabsAt) (K : PySem.W.Frag) : Sp := fun vs H Q _ => ∃ (a : Addr) (f : Int) (n : Nat) (rs : List (List Int)) (v : V) (ts : List ((Int × Int) × List Int)), vs = [.ref a, v] ∧ n ≤ 4 ∧ RowsOk n rs ∧ CodO C K H a n rs ∧ CodF C H a f ∧ PolyV K H f v ts ∧ PolyOk f n rs ts ∧ TS t H ∧ ∀ H', Ex t H H' → Q .non H'
theorem ok_check_polynomial (T : Txt K mg) {t : TabsAt} (B : TBs T base t) : FnOk P w K mg base CX0 19 T.check_polynomial.f T.check_polynomial.fd P_check_polynomial (sp_check_polynomial T.Coding.C t K) := by
  refine T.check_polynomial.F.ok sc_check_polynomial (fun vs H Q E h => ?_) (fun cdv A outer s H vs Q E hr h => ?_)
  · obtain ⟨a, f, n, rs, v, ts, rfl, _⟩ := h; rfl
  · obtain ⟨a, f, n, rs, v, ts, rfl, hn4, hrs, hc, hcf, hp, hok, tsH, k⟩ := h
    refine ⟨_, (pss_one (ps_if (pt_not (pt_val (pe_call (ok_is_polynomial T B) (hr.mono (by decide)) rfl T.is_polynomial.g T.is_polynomial.F.kp (b_is_polynomial T) .nil pass0 (pa_cons (pv 0) (pa_cons (pv 1) pa_nil))))) (pss_one ps_never) pss_nil)), ?_⟩
    walk_at "rd"
    refine ⟨a, f, n, rs, v, ts, rfl, hn4, hrs, hc, hcf, hp, hok, tsH, fun H' x => ?_⟩
    walk_at "rd"
    exact k H' x
/-- v stands for the ring of f, n, o -/
structure RgV (K : PySem.W.Frag) (H : Hp) (v : V) (f : Int) (n : Nat) (o : Ord) : Prop where
  hf : FieldOk f
  h1 : 1 ≤ n
  h4 : n ≤ 4
  ho : OrdOk n o
  hd : Dp K H v (rgD f n o)
theorem RgV.ex {H H' : Hp} {v : V} {f : Int} {n : Nat} {o : Ord} (h : RgV K H v f n o) (e : LamX.ExtN H H') : RgV K H' v f n o :=
  ⟨h.hf, h.h1, h.h4, h.ho, Dp.tp (tp_ext e) _ _ (by simp [rgD, tOnly, tOnlyAll, tOnly_ord]) h.hd⟩
end

/-! ### the law's own draws -/
/-- the law's row at r: the script, how many cells are taken, a mixed number, a cell's rest -/
def SqN (K : PySem.W.Frag) (H : Hp) (r sa : Addr) (xs : List V) : Prop := (Rd H sa (.lst xs) ∧ sa ≠ r) ∨
  ∃ (o : Obj) (its : Array Value) (n : Nat), K.lookup sa = some o ∧ o.cls = .type "list" ∧ o.dict = none ∧ o.data = .seq its n ∧ its.size ≤ sizeLine ∧ Vals xs its.toList
theorem SqN.sq {K : PySem.W.Frag} {H : Hp} {r sa : Addr} {xs : List V} (h : SqN K H r sa xs) : SqL K H sa xs := by
  rcases h with ⟨h, _⟩ | h
  · exact .inl h
  · exact .inr h
theorem sqn_ne {K : PySem.W.Frag} {H : Hp} {r sa : Addr} {o : HO} {xs : List V} (h : SqN K H r sa xs) : SqN K (upd H r o) r sa xs := by
  rcases h with ⟨h | ⟨u, h⟩, n⟩ | h
  · exact .inl ⟨.inl ((upd_ne n).trans h), n⟩
  · exact .inl ⟨.inr ⟨u, (upd_ne n).trans h⟩, n⟩
  · exact .inr h
def RowAt (K : PySem.W.Frag) (H : Hp) (r sa : Addr) (ns : List Int) : Prop := ∃ (p s e : Int),
  H r = some (.lst [.ref sa, .int p, .int s, .int e]) ∧ SqN K H r sa (ns.map V.int) ∧ 0 ≤ p ∧ 0 ≤ s ∧ s < 2147483647 ∧ 0 ≤ e
/-- nothing but the row has changed -/
def ButRow (r : Addr) (H H' : Hp) : Prop := ∀ b, b ≠ r → H' b = H b
theorem RowAt.of {K : PySem.W.Frag} {H : Hp} {r sa : Addr} {ns : List Int} {p s e : Int} {xs : List V} (hx : xs = [.ref sa, .int p, .int s, .int e]) (hS : SqN K H r sa (ns.map V.int))
    (h1 : 0 ≤ p) (h2 : 0 ≤ s) (h3 : s < 2147483647) (h4 : 0 ≤ e) : RowAt K (upd H r (.lst xs)) r sa ns := by
  subst hx
  exact ⟨p, s, e, upd_same, sqn_ne hS, h1, h2, h3, h4⟩
theorem ButRow.of {H : Hp} {r : Addr} {o : HO} : ButRow r H (upd H r o) := fun b n => upd_ne n
section
variable {P : Program} {w : World} {K : PySem.W.Frag} {mg : Str → Option Value} {base : Heap}
def sp_law_taken (K : PySem.W.Frag) : Sp := fun vs H Q _ => ∃ (r sa : Addr) (ns : List Int) (m : Int), vs = [.ref r, .int m] ∧ RowAt K H r sa ns ∧ 1 ≤ m ∧ m ≤ 1000000000 ∧
  ∀ (v : Int) H', 0 ≤ v → v < m → RowAt K H' r sa ns → ButRow r H H' → Q (.int v) H'
theorem ok_law_taken (T : Txt K mg) : FnOk P w K mg base CX0 1 T.law_taken.f T.law_taken.fd P_law_taken (sp_law_taken K) := by
  refine T.law_taken.F.ok sc_law_taken (fun vs H Q E h => ?_) (fun cdv A outer s H vs Q E hr h => ?_)
  · obtain ⟨r, sa, ns, m, rfl, _⟩ := h; rfl
  · obtain ⟨r, sa, ns, m, rfl, ⟨p, sd, e, hrow, hS, hp, hs, hs2, he⟩, hm, hm2, k⟩ := h
    refine ⟨_, (pss_cons (ps_if (pt_cmpR op_gt (pe_ix (r := rIxL K) ix_list (pv 0) pe_int (fun _ _ => rfl)) pe_int (nomark _)) (pss_cons (ps_set (i := 2) sc_law_taken.nd rfl (Or.inl rfl) (pe_op op_mod (pe_callTy call_int1 rfl T.n_int bo_int (pa_cons (pe_ix (r := rIxL K) ix_list (pv 0) pe_int (fun _ _ => rfl)) pa_nil)) (pv 1)))
  (pss_cons (ps_asg (pe_op op_fdivZ (pe_ix (r := rIxL K) ix_list (pv 0) pe_int (fun _ _ => rfl)) (pv 1)) (pg_sub (pv 0) pe_int set_list))
  (pss_one (ps_ret (pv 2))))) pss_nil)
  (pss_cons (ps_asg (pe_op op_add (pe_ix (r := rIxL K) ix_list (pv 0) pe_int (fun _ _ => rfl)) pe_int) (pg_sub (pv 0) pe_int set_list))
  (pss_cons (ps_if (pt_cmpR op_gt (pe_ix (r := rIxL K) ix_list (pv 0) pe_int (fun _ _ => rfl)) (pe_callB (r := rLenS K) call_len_seq rfl T.n_len bo_len (pa_cons (pe_ix (r := rIxL K) ix_list (pv 0) pe_int (fun _ _ => rfl)) pa_nil)) (nomark _)) (pss_cons (ps_asg (pe_op op_mod (pe_callTy call_int1 rfl T.n_int bo_int (pa_cons (pe_op op_add (pe_op op_mulW (pe_ix (r := rIxL K) ix_list (pv 0) pe_int (fun _ _ => rfl)) pe_int) pe_int) pa_nil)) pe_int) (pg_sub (pv 0) pe_int set_list))
  (pss_one (ps_ret (pe_op op_mod (pe_callTy call_int1 rfl T.n_int bo_int (pa_cons (pe_op op_fdivZ (pe_ix (r := rIxL K) ix_list (pv 0) pe_int (fun _ _ => rfl)) pe_int) pa_nil)) (pv 1))))) pss_nil)
  (pss_cons (ps_set (i := 3) sc_law_taken.nd rfl (Or.inl rfl) (pe_ix (r := rIxL K) ix_list (pe_ix (r := rIxL K) ix_list (pv 0) pe_int (fun _ _ => rfl)) (pe_op op_sub (pe_ix (r := rIxL K) ix_list (pv 0) pe_int (fun _ _ => rfl)) pe_int) (fun _ _ => rfl)))
  (pss_cons (ps_asg (pe_op op_mod (pe_callTy call_int1 rfl T.n_int bo_int (pa_cons (pe_op op_add (pe_op op_add (pe_op op_mulW (pe_ix (r := rIxL K) ix_list (pv 0) pe_int (fun _ _ => rfl)) pe_int) (pv 3)) pe_int) pa_nil)) pe_int) (pg_sub (pv 0) pe_int set_list))
  (pss_cons (ps_if (pt_cmpR op_ge (pv 3) (pe_op op_powW pe_int pe_int) (nomark _)) (pss_one (ps_asg (pe_op op_fdivZ (pv 3) (pv 1)) (pg_sub (pv 0) pe_int set_list))) pss_nil)
  (pss_one (ps_ret (pe_op op_mod (pe_callTy call_int1 rfl T.n_int bo_int (pa_cons (pv 3) pa_nil)) (pv 1)))))))))), ?_⟩
    walk_at "rd"
    refine iteD (fun h1 => ?_) (fun h1 => ?_)
    · walk_at "rd"
      refine k _ _ (Int.emod_nonneg _ (by omega)) (Int.emod_lt_of_pos _ (by omega)) (.of rfl hS hp hs hs2 ?_) .of
      rw [Int.fdiv_eq_ediv_of_nonneg _ (by omega)]
      exact Int.ediv_nonneg he (by omega)
    · walk_at "rd"
      refine ⟨_, _, rfl, .inl (sqn_ne hS).sq, ?_⟩
      walk_at "rd"
      refine iteD (fun h2 => ?_) (fun h2 => ?_)
      · walk_at "rd"
        refine k _ _ (Int.emod_nonneg _ (by omega)) (Int.emod_lt_of_pos _ (by omega)) (.of rfl (sqn_ne hS) (show 0 ≤ p + 1 by omega) (Int.emod_nonneg _ (by omega)) (Int.emod_lt_of_pos _ (by omega)) he) fun b n => ?_
        rw [upd_ne n, upd_ne n]
      · rw [List.length_map] at h2
        obtain ⟨c, hc⟩ : ∃ c, ns[p.toNat]? = some c := ⟨_, List.getElem?_eq_getElem (by omega)⟩
        have hat : atI (ns.map V.int) (p + 1 - 1) = some (V.int c) := by
          rw [show p + 1 - 1 = (p.toNat : Int) by omega]
          refine atI_nat ?_
          rw [List.getElem?_map, hc]; rfl
        walk_at "rd"
        refine ⟨_, _, _, _, rfl, rfl, (sqn_ne hS).sq, hat, ?_⟩
        walk_at "rd"
        refine iteD (fun h3 => ?_) (fun h3 => ?_)
        · walk_at "rd"
          have h3' : (0 : Int) ≤ c := by
            have : ((10 : Int) ^ (18 : Int).toNat) = 1000000000000000000 := by decide
            omega
          refine k _ _ (Int.emod_nonneg _ (by omega)) (Int.emod_lt_of_pos _ (by omega)) (.of rfl (sqn_ne (sqn_ne hS)) (show 0 ≤ p + 1 by omega) (Int.emod_nonneg _ (by omega)) (Int.emod_lt_of_pos _ (by omega)) ?_) fun b n => ?_
          · rw [Int.fdiv_eq_ediv_of_nonneg _ (by omega)]
            exact Int.ediv_nonneg h3' (by omega)
          · rw [upd_ne n, upd_ne n, upd_ne n]
        · walk_at "rd"
          refine k _ _ (Int.emod_nonneg _ (by omega)) (Int.emod_lt_of_pos _ (by omega)) (.of rfl (sqn_ne hS) (show 0 ≤ p + 1 by omega) (Int.emod_nonneg _ (by omega)) (Int.emod_lt_of_pos _ (by omega)) he) fun b n => ?_
          rw [upd_ne n, upd_ne n]
/-- things is a list at p: the draw gives one of its items -/
def sp_law_pick (K : PySem.W.Frag) : Sp := fun vs H Q _ => ∃ (r sa l : Addr) (ns : List Int) (xs : List V), vs = [.ref r, .ref l] ∧ RowAt K H r sa ns ∧ SqL K H l xs ∧ l ≠ r ∧ 1 ≤ xs.length ∧ xs.length ≤ 1000000000 ∧
  ∀ (v : V) H', v ∈ xs → RowAt K H' r sa ns → ButRow r H H' → Q v H'
theorem sql_but {K : PySem.W.Frag} {H H' : Hp} {r a : Addr} {xs : List V} (h : SqL K H a xs) (n : a ≠ r) (b : ButRow r H H') : SqL K H' a xs := by
  rcases h with (h | ⟨u, h⟩) | h
  · exact .inl (.inl ((b a n).trans h))
  · exact .inl (.inr ⟨u, (b a n).trans h⟩)
  · exact .inr h
theorem ok_law_pick (T : Txt K mg) : FnOk P w K mg base CX0 2 T.law_pick.f T.law_pick.fd P_law_pick (sp_law_pick K) := by
  refine T.law_pick.F.ok sc_law_pick (fun vs H Q E h => ?_) (fun cdv A outer s H vs Q E hr h => ?_)
  · obtain ⟨r, sa, l, ns, xs, rfl, _⟩ := h; rfl
  · obtain ⟨r, sa, l, ns, xs, rfl, hrow, hl, hne, h1, h2, k⟩ := h
    refine ⟨_, (pss_one (ps_ret (pe_ix (r := rIxL K) ix_list (pv 1) (pe_call (ok_law_taken T) (hr.mono (by decide)) rfl T.law_taken.g T.law_taken.F.kp (b_law_taken T) .nil pass0 (pa_cons (pv 0) (pa_cons (pe_callB (r := rLenS K) call_len_seq rfl T.n_len bo_len (pa_cons (pv 1) pa_nil)) pa_nil))) (fun _ _ => rfl)))), ?_⟩
    walk_at "rd"
    refine ⟨_, _, rfl, .inl hl, ?_⟩
    walk_at "rd"
    refine ⟨r, sa, ns, _, rfl, hrow, by omega, by omega, fun v H' v0 v1 hrow' hb => ?_⟩
    have hlt : v.toNat < xs.length := by omega
    refine ⟨_, _, _, xs[v.toNat], rfl, rfl, sql_but hl hne hb, ?_, ?_⟩
    · exact at_of (show v = (v.toNat : Int) by omega) (List.getElem?_eq_getElem hlt)
    · exact k _ _ (List.getElem_mem hlt) hrow' hb
end

section
variable {P : Program} {w : World} {K : PySem.W.Frag} {mg : Str → Option Value} {base : Heap}
/-- all but the row stays, and the row is a row -/
structure RK (K : PySem.W.Frag) (r sa : Addr) (ns : List Int) (H H' : Hp) : Prop where
  keep : KeepBut r H H'
  row : RowAt K H' r sa ns
theorem row_lst {H : Hp} {r sa : Addr} {ns : List Int} (h : RowAt K H r sa ns) : ∃ xs, H r = some (.lst xs) := by
  obtain ⟨p, s, e, h, _⟩ := h
  exact ⟨_, h⟩
theorem RowAt.sm {H H' : Hp} {r sa : Addr} {ns : List Int} (h : RowAt K H r sa ns) (s : Same H H') : RowAt K H' r sa ns := by
  obtain ⟨p, sd, e, hrow, hS, hb⟩ := h
  refine ⟨p, sd, e, s _ _ hrow, ?_, hb⟩
  rcases hS with ⟨q | ⟨u, q⟩, n⟩ | q
  · exact .inl ⟨.inl (s _ _ q), n⟩
  · exact .inl ⟨.inr ⟨u, s _ _ q⟩, n⟩
  · exact .inr q
theorem RK.of {H H' : Hp} {r sa : Addr} {ns : List Int} (h : RowAt K H r sa ns) (s : Same H H') : RK K r sa ns H H' := ⟨.of s, h.sm s⟩
theorem RK.draw {H H' : Hp} {r sa : Addr} {ns : List Int} (h : RowAt K H' r sa ns) (b : ButRow r H H') : RK K r sa ns H H' := ⟨fun c o n e => (b c n).trans e, h⟩
theorem RK.trans {H H1 H2 : Hp} {r sa : Addr} {ns : List Int} (a : RK K r sa ns H H1) (b : RK K r sa ns H1 H2) : RK K r sa ns H H2 := ⟨a.keep.trans b.keep, b.row⟩
theorem RK.tp {H H' : Hp} {r sa : Addr} {ns : List Int} (h : RowAt K H r sa ns) (a : RK K r sa ns H H') : Tp H H' := fun b xs q => by
  obtain ⟨ys, hr⟩ := row_lst h
  have n : b ≠ r := fun e => by
    subst e
    rcases q with q | ⟨o, q⟩
    · rw [hr] at q; cases q
    · rw [hr] at q; cases q
  rcases q with q | ⟨o, q⟩
  · exact .inl (a.keep _ _ n q)
  · exact .inr ⟨o, a.keep _ _ n q⟩
/-- i items are made at D while the row is drawn from -/
def MapRow (K : PySem.W.Frag) (r sa : Addr) (ns : List Int) (H1 : Hp) (D : Addr) (R : Nat → V → Prop) (i : Nat) (H : Hp) : Prop := ∃ ys, RK K r sa ns H1 H ∧ H D = some (.lst ys) ∧ ys.length = i ∧ ∀ (j : Nat) (y : V), ys[j]? = some y → R j y
theorem mapRow_0 {r sa : Addr} {ns : List Int} {H1 : Hp} {D : Addr} {R : Nat → V → Prop} (hr : RowAt K H1 r sa ns) (hD : H1 D = Option.none) : MapRow K r sa ns H1 D R 0 (upd H1 D (.lst [])) := ⟨[], .of hr (same_upd hD), upd_same, rfl, fun j y h => by simp at h⟩
theorem mapRow_step {r sa : Addr} {ns : List Int} {H1 H H4 : Hp} {D : Addr} {R : Nat → V → Prop} {i : Nat} {y : V} (h : MapRow K r sa ns H1 D R i H) (hr : RowAt K H1 r sa ns) (hD : H1 D = Option.none) (hz : i < sizeLine) (s : RK K r sa ns H H4) (q : R i y) :
    ∃ acc, H4 D = some (.lst acc) ∧ acc.length < sizeLine ∧ MapRow K r sa ns H1 D R (i + 1) (upd H4 D (.lst (acc ++ [y]))) := by
  obtain ⟨ys, h1, h2, h3, h4⟩ := h
  obtain ⟨zs, hrz⟩ := row_lst hr
  have nD : D ≠ r := fun e => by rw [e, hrz] at hD; cases hD
  have e4 := s.keep _ _ nD h2
  refine ⟨ys, e4, by rw [h3]; exact hz, ys ++ [y], ⟨fun b o nb e => ?_, ?_⟩, upd_same, by simp [h3], fun j z hz => ?_⟩
  · rw [upd_ne (ne_of_none e hD)]
    exact s.keep _ _ nb (h1.keep _ _ nb e)
  · obtain ⟨p, sd, e, hrow, hS, hb⟩ := s.row
    refine ⟨p, sd, e, (upd_ne (fun z => nD z.symm)).trans hrow, ?_, hb⟩
    obtain ⟨_, _, _, _, hS1, _⟩ := hr
    have ns' : (∃ o, H1 sa = some o) → sa ≠ D := fun ⟨o, z⟩ => ne_of_none z hD
    rcases hS with ⟨q | ⟨u, q⟩, n⟩ | q
    · rcases hS1 with ⟨w | ⟨u, w⟩, _⟩ | ⟨o, its, m, w, _⟩
      · exact .inl ⟨.inl ((upd_ne (ns' ⟨_, w⟩)).trans q), n⟩
      · exact .inl ⟨.inl ((upd_ne (ns' ⟨_, w⟩)).trans q), n⟩
      · exact .inr ⟨o, its, m, w, by assumption⟩
    · rcases hS1 with ⟨w | ⟨u', w⟩, _⟩ | ⟨o, its, m, w, _⟩
      · exact .inl ⟨.inr ⟨u, (upd_ne (ns' ⟨_, w⟩)).trans q⟩, n⟩
      · exact .inl ⟨.inr ⟨u, (upd_ne (ns' ⟨_, w⟩)).trans q⟩, n⟩
      · exact .inr ⟨o, its, m, w, by assumption⟩
    · exact .inr q
  · by_cases hj : j < ys.length
    · rw [List.getElem?_append_left hj] at hz
      exact h4 j z hz
    · rw [List.getElem?_append_right (by omega)] at hz
      have ej : j - ys.length = 0 := by
        by_cases q : j - ys.length = 0
        · exact q
        · rw [List.getElem?_eq_none (by simp; omega)] at hz; cases hz
      rw [ej] at hz
      simp at hz
      subst hz
      have : j = i := by omega
      subst this
      exact q
end

section
variable {P : Program} {w : World} {K : PySem.W.Frag} {mg : Str → Option Value} {base : Heap}
def sp_law_order (K : PySem.W.Frag) : Sp := fun vs H Q _ => ∃ (r sa : Addr) (ns : List Int) (n : Nat), vs = [.ref r, .int n] ∧ 1 ≤ n ∧ n ≤ 4 ∧ RowAt K H r sa ns ∧ ∀ o v H', OrdOk n o → Dp K H' v (oD o) → RK K r sa ns H H' → Q v H'
theorem ok_law_order (T : Txt K mg) : FnOk P w K mg base CX0 3 T.law_order.f T.law_order.fd P_law_order (sp_law_order K) := by
  refine T.law_order.F.ok sc_law_order (fun vs H Q E h => ?_) (fun cdv A outer s H vs Q E hr h => ?_)
  · obtain ⟨r, sa, ns, n, rfl, _⟩ := h; rfl
  · obtain ⟨r, sa, ns, n, rfl, hn, hn4, hrow, k⟩ := h
    refine ⟨_, (pss_cons (ps_set (i := 2) sc_law_order.nd rfl (Or.inl rfl) (pe_lst (pa_cons pe_str (pa_cons pe_str (pa_cons pe_str (pa_cons (pe_tup (pa_cons pe_str (pa_cons (pe_callTy (r := rTupOf K) call_tuple_of rfl T.n_tuple bo_tuple (pa_cons (pe_lc (own := [("at", 3)]) rfl sc_law_order.nd (pi_range1 rfl T.n_range (pa_cons (pv 1) pa_nil)) (blkOk_by (own := [("at", 3)]) (N := N_law_order) (sc := defScope s_law_order) (by decide +kernel)) (fun _ _ _ _ _ => (pg_name (i := 3) sc_law_order.nd rfl (Or.inl rfl))) (fun _ _ _ _ _ => pts_nil) (fun _ _ _ _ _ => (pe_op op_add pe_int (pe_call (ok_law_taken T) (hr.mono (by decide)) rfl T.law_taken.g T.law_taken.F.kp (b_law_taken T) .nil pass0 (pa_cons (pv 0) (pa_cons pe_int pa_nil)))))) pa_nil)) pa_nil))) pa_nil))))))
  (pss_cons (ps_set (i := 2) sc_law_order.nd rfl (Or.inl rfl) (pe_ifExp (pt_cmpR op_gt (pv 1) pe_int (nomark _)) (pe_op op_cat (pv 2) (pe_lst (pa_cons (pe_tup (pa_cons pe_str (pa_cons (pe_op op_add pe_int (pe_call (ok_law_taken T) (hr.mono (by decide)) rfl T.law_taken.g T.law_taken.F.kp (b_law_taken T) .nil pass0 (pa_cons (pv 0) (pa_cons (pe_op op_sub (pv 1) pe_int) pa_nil)))) pa_nil))) pa_nil))) (pv 2)))
  (pss_one (ps_ret (pe_call (ok_law_pick T) (hr.mono (by decide)) rfl T.law_pick.g T.law_pick.F.kp (b_law_pick T) .nil pass0 (pa_cons (pv 0) (pa_cons (pv 2) pa_nil))))))), ?_⟩
    walk_at "rd"
    refine ⟨(by omega), (by omega), fun D hD => ?_⟩
    rw [Int.toNat_natCast]
    refine lc_range (lo := 0) (n := n) (MapRow K r sa ns H D fun _ y => ∃ w : Int, y = .int w ∧ 1 ≤ w ∧ w ≤ 20) (mapRow_0 hrow hD) (fun i H1 hi hP => ?_) (fun H1 hP => ?_)
    · have hr1 : RowAt K H1 r sa ns := by obtain ⟨_, q, _⟩ := hP; exact q.row
      walk_at "rd"
      refine ⟨r, sa, ns, _, rfl, hr1, by omega, by omega, fun v H2 v0 v1 row2 b2 => ?_⟩
      walk_at "rd"
      exact mapRow_step hP hrow hD (by rw [sizeLine_eq]; omega) (.draw row2 b2) ⟨1 + v, rfl, by omega, by omega⟩
    obtain ⟨ys, q1, e1, n1, r1⟩ := hP
    obtain ⟨ws, ew, lw, hw⟩ : ∃ ws : List Int, ys = ws.map V.int ∧ ws.length = n ∧ ∀ w ∈ ws, 1 ≤ w ∧ w ≤ 20 := by
      clear e1
      have go : ∀ (ys : List V), (∀ y ∈ ys, ∃ w : Int, y = .int w ∧ 1 ≤ w ∧ w ≤ 20) → ∃ ws : List Int, ys = ws.map V.int ∧ ∀ w ∈ ws, 1 ≤ w ∧ w ≤ 20 := by
        intro ys
        induction ys with
        | nil => intro _; exact ⟨[], rfl, fun w hw => by simp at hw⟩
        | cons y ys ih =>
          intro h
          obtain ⟨ws, e, hw⟩ := ih fun y hy => h y (List.mem_cons_of_mem _ hy)
          obtain ⟨w, rfl, h1, h2⟩ := h y List.mem_cons_self
          refine ⟨w :: ws, by rw [e]; rfl, fun x hx => ?_⟩
          rcases List.mem_cons.mp hx with rfl | hx
          · exact ⟨h1, h2⟩
          · exact hw x hx
      obtain ⟨ws, e, hw⟩ := go ys fun y hy => by
        obtain ⟨j, hj, e⟩ := List.getElem_of_mem hy
        exact r1 j y (by rw [List.getElem?_eq_getElem hj, e])
      exact ⟨ws, e, by rw [← n1, e, List.length_map], hw⟩
    subst ew
    walk_at "rd"
    refine ⟨_, _, rfl, .inl ⟨.inl (.inl e1), fun p2 hp2 => ?_⟩⟩
    refine ⟨(show 2 ≤ sizeLine by decide), fun p3 hp3 => ⟨(show 4 ≤ sizeLine by decide), fun l hl => ?_⟩⟩
    have s3 : Same H1 (upd (upd (upd H1 p2 (.tup (ws.map V.int))) p3 (.tup [.str "weights", .ref p2])) l (.lst [.str "lex", .str "deglex", .str "degrevlex", .ref p3])) := Same.trans (same_upd hp2) (Same.trans (same_upd hp3) (same_upd hl))
    have rk3 := q1.trans (RK.of q1.row s3)
    have h2 : p2 ≠ p3 := ne_of_none upd_same hp3
    have h2l : p2 ≠ l := by
      have : (upd (upd H1 p2 (.tup (ws.map V.int))) p3 (.tup [.str "weights", .ref p2])) p2 = some (.tup (ws.map V.int)) := by rw [upd_ne h2, upd_same]
      exact ne_of_none this hl
    have h3l : p3 ≠ l := ne_of_none upd_same hl
    obtain ⟨H3, eH3⟩ : ∃ H3, H3 = upd (upd (upd H1 p2 (.tup (ws.map V.int))) p3 (.tup [.str "weights", .ref p2])) l (.lst [.str "lex", .str "deglex", .str "degrevlex", .ref p3]) := ⟨_, rfl⟩
    have a2 : H3 p2 = some (.tup (ws.map V.int)) := by rw [eH3, upd_ne h2l, upd_ne h2, upd_same]
    have a3 : H3 p3 = some (.tup [.str "weights", .ref p2]) := by rw [eH3, upd_ne h3l, upd_same]
    have al : H3 l = some (.lst [.str "lex", .str "deglex", .str "degrevlex", .ref p3]) := by rw [eH3]; exact upd_same
    rw [← eH3] at rk3 ⊢
    have four : ∀ v ∈ [V.str "lex", V.str "deglex", V.str "degrevlex", V.ref p3], ∃ o, OrdOk n o ∧ Dp K H3 v (oD o) := by
      intro v hv
      simp only [List.mem_cons, List.not_mem_nil, or_false] at hv
      rcases hv with rfl | rfl | rfl | rfl
      · exact ⟨.lex, trivial, .str _⟩
      · exact ⟨.deglex, trivial, .str _⟩
      · exact ⟨.drl, trivial, .str _⟩
      · exact ⟨.wts ws, ⟨lw, hw⟩, .tup (.inl (.inl a3)) (.cons (.str _) (.cons (.tup (.inl (.inl a2)) (dpAll_ints ws)) .nil))⟩
    walk_at "rd"
    obtain ⟨zs, hrz⟩ := row_lst rk3.row
    have pick : ∀ (l' : Addr) (xs : List V) (H4 : Hp) (σ : L2.St), σ[0]? = some (some (.ref r)) → σ[2]? = some (some (.ref l')) → RK K r sa ns H H4 → H4 l' = some (.lst xs) → l' ≠ r → 1 ≤ xs.length → xs.length ≤ 1000000000 → (∀ v ∈ xs, ∃ o, OrdOk n o ∧ Dp K H4 v (oD o)) →
        tCall (sp_law_pick K) [] E0 (tCons (tVar 0) (tCons (tVar 2) tNil)) σ H4 Q := by
      intro l' xs H4 σ g0 g2 rk4 e4 n4 h1 h9 hall
      refine ⟨_, g0, _, g2, ?_⟩
      refine ⟨r, sa, l', ns, xs, rfl, rk4.row, .inl (.inl e4), n4, h1, h9, fun v H5 hv row5 b5 => ?_⟩
      obtain ⟨o, ho, hd⟩ := hall v hv
      have rk5 : RK K r sa ns H4 H5 := .draw row5 b5
      exact k o v H5 ho (Dp.tp (rk5.tp rk4.row) _ _ (tOnly_ord o) hd) (rk4.trans rk5)
    have nlr : l ≠ r := fun z => by
      have q := rk3.keep
      subst z
      obtain ⟨p, sd, e, w, _⟩ := rk3.row
      rw [al] at w
      cases w
    refine iteD (fun h1 => ?_) (fun h1 => ?_)
    · walk_at "rd"
      refine ⟨r, sa, ns, _, rfl, rk3.row, by omega, by omega, fun v H4 v0 v1 row4 b4 => ?_⟩
      have rk4 : RK K r sa ns H3 H4 := .draw row4 b4
      walk_at "rd"
      refine ⟨(show 2 ≤ sizeLine by decide), fun q hq => ⟨(show 1 ≤ sizeLine by decide), fun l2 hl2 => ?_⟩⟩
      have s5 : Same H4 (upd (upd H4 q (.tup [.str "block", .int (1 + v)])) l2 (.lst [.ref q])) := Same.trans (same_upd hq) (same_upd hl2)
      refine ⟨_, _, _, _, rfl, rfl, s5 _ _ (rk4.keep _ _ nlr al), upd_same, (show 5 ≤ sizeLine by decide), fun l3 hl3 => ?_⟩
      have s6 : Same H4 (upd (upd (upd H4 q (.tup [.str "block", .int (1 + v)])) l2 (.lst [.ref q])) l3 (.lst ([.str "lex", .str "deglex", .str "degrevlex", .ref p3] ++ [.ref q]))) := Same.trans s5 (same_upd hl3)
      have rk6 := rk3.trans (rk4.trans (RK.of row4 s6))
      have n3r : l3 ≠ r := fun z => by
        obtain ⟨xs9, w⟩ := row_lst row4
        rw [z, s5 _ _ w] at hl3
        cases hl3
      have hq6 := s6 q
      refine pick l3 _ _ _ rfl rfl rk6 upd_same n3r (by simp) (by simp) fun x hx => ?_
      rcases List.mem_append.mp hx with hx | hx
      · obtain ⟨o, ho, hd⟩ := four x hx
        exact ⟨o, ho, Dp.tp (tp_same s6) _ _ (tOnly_ord o) (Dp.tp (rk4.tp rk3.row) _ _ (tOnly_ord o) hd)⟩
      · have ex : x = .ref q := by simpa using hx
        subst ex
        have q2 : q ≠ l2 := ne_of_none upd_same hl2
        have q3 : (upd (upd H4 q (.tup [.str "block", .int (1 + v)])) l2 (.lst [.ref q])) q = some (.tup [.str "block", .int (1 + v)]) := by rw [upd_ne q2, upd_same]
        refine ⟨.block (1 + v).toNat, ⟨by omega, by omega⟩, .tup (.inl (.inl ?_)) (.cons (.str _) (.cons (.int _) .nil))⟩
        rw [upd_ne (ne_of_none q3 hl3), q3]
        congr 4
        show V.int (1 + v) = V.int (((1 + v).toNat : Nat) : Int)
        congr 1
        omega
    · exact ⟨_, rfl, pick l _ H3 (List.set (List.set (L2.start N_law_order [V.ref r, V.int n]) 2 (some (V.ref l))) 2 (some (.ref l))) rfl rfl rk3 al nlr (by simp) (by simp) four⟩
end

section
variable {P : Program} {w : World} {K : PySem.W.Frag} {mg : Str → Option Value} {base : Heap}
theorem new_ne {H : Hp} {r sa l : Addr} {ns : List Int} (h : RowAt K H r sa ns) (hl : H l = Option.none) : l ≠ r := fun z => by
  obtain ⟨xs, w⟩ := row_lst h
  rw [z, w] at hl
  cases hl
def sp_law_ring (K : PySem.W.Frag) : Sp := fun vs H Q _ => ∃ (r sa : Addr) (ns : List Int) (n : Nat), vs = [.ref r, .int n] ∧ 1 ≤ n ∧ n ≤ 4 ∧ RowAt K H r sa ns ∧ ∀ f o v H', FieldOk f → OrdOk n o → Dp K H' v (rgD f n o) → RK K r sa ns H H' → Q v H'
theorem ok_law_ring (T : Txt K mg) : FnOk P w K mg base CX0 4 T.law_ring.f T.law_ring.fd P_law_ring (sp_law_ring K) := by
  refine T.law_ring.F.ok sc_law_ring (fun vs H Q E h => ?_) (fun cdv A outer s H vs Q E hr h => ?_)
  · obtain ⟨r, sa, ns, n, rfl, _⟩ := h; rfl
  · obtain ⟨r, sa, ns, n, rfl, hn, hn4, hrow, k⟩ := h
    refine ⟨_, (pss_one (ps_ret (pe_tup (pa_cons (pe_call (ok_law_pick T) (hr.mono (by decide)) rfl T.law_pick.g T.law_pick.F.kp (b_law_pick T) .nil pass0 (pa_cons (pv 0) (pa_cons (pe_lst (pa_cons pe_int (pa_cons pe_int (pa_cons pe_int (pa_cons pe_int (pa_cons pe_int (pa_cons pe_int (pa_cons pe_int (pa_cons pe_int (pa_cons pe_int (pa_cons pe_int pa_nil))))))))))) pa_nil))) (pa_cons (pv 1) (pa_cons (pe_call (ok_law_order T) (hr.mono (by decide)) rfl T.law_order.g T.law_order.F.kp (b_law_order T) .nil pass0 (pa_cons (pv 0) (pa_cons (pv 1) pa_nil))) pa_nil)))))), ?_⟩
    walk_at "rd"
    refine ⟨(show 10 ≤ sizeLine by decide), fun l hl => ?_⟩
    have s1 := same_upd (o := .lst ([0, 0, 2, 2, 3, 3, 5, 5, 7, 31].map V.int)) hl
    refine ⟨r, sa, l, ns, [0, 0, 2, 2, 3, 3, 5, 5, 7, 31].map V.int, rfl, hrow.sm s1, .inl (.inl upd_same), new_ne hrow hl, by decide, by decide, fun v H2 hv row2 b2 => ?_⟩
    obtain ⟨f, hf, rfl⟩ := List.mem_map.mp hv
    have hF : FieldOk f := by
      simp only [List.mem_cons, List.not_mem_nil, or_false] at hf
      unfold FieldOk
      omega
    have rk2 : RK K r sa ns H H2 := (RK.of hrow s1).trans (.draw row2 b2)
    walk_at "rd"
    refine ⟨r, sa, ns, n, rfl, hn, hn4, row2, fun o ov H3 ho hov rk3 => ?_⟩
    walk_at "rd"
    refine ⟨(show 3 ≤ sizeLine by decide), fun p hp => ?_⟩
    have s4 := same_upd (o := .tup [.int f, .int n, ov]) hp
    exact k f o _ _ hF ho (.tup (.inl (.inl upd_same)) (.cons (.int _) (.cons (.int _) (.cons (Dp.same s4 _ _ hov) .nil)))) (rk2.trans (rk3.trans (.of rk3.row s4)))
/-- the total, then the places from behind, each negated -/
def rvD (ms : List Int) : PyData := .tuple [.int ms.sum, rD (ms.reverse.map fun e => 0 - e)]
def sp_law_revlex (K : PySem.W.Frag) : Sp := fun vs H Q _ => ∃ (M : Addr) (ms : List Int), vs = [.ref M] ∧ SqT K H M (ms.map V.int) ∧ ms.length ≤ 4 ∧ ∀ v H', Same H H' → Dp K H' v (rvD ms) → Q v H'
theorem ok_law_revlex (T : Txt K mg) : FnOk P w K mg base CX0 1 T.law_revlex.f T.law_revlex.fd P_law_revlex (sp_law_revlex K) := by
  refine T.law_revlex.F.ok sc_law_revlex (fun vs H Q E h => ?_) (fun cdv A outer s H vs Q E hr h => ?_)
  · obtain ⟨M, ms, rfl, _⟩ := h; rfl
  · obtain ⟨M, ms, rfl, hM, hl, k⟩ := h
    refine ⟨_, (pss_one (ps_ret (pe_tup (pa_cons (pe_callB (r := rSumS K) (cr_sumS rfl) rfl T.n_sum bo_sum (pa_cons (pv 0) pa_nil)) (pa_cons (pe_callTy (r := rTupOf K) call_tuple_of rfl T.n_tuple bo_tuple (pa_cons (pe_lc (own := [("exponent", 1)]) rfl sc_law_revlex.nd (pi_tup (pe_revT (pv 0))) (blkOk_by (own := [("exponent", 1)]) (N := N_law_revlex) (sc := defScope s_law_revlex) (by decide +kernel)) (fun _ _ _ _ _ => (pg_name (i := 1) sc_law_revlex.nd rfl (Or.inl rfl))) (fun _ _ _ _ _ => pts_nil) (fun _ _ _ _ _ => (pe_op op_sub pe_int (pv 1)))) pa_nil)) pa_nil))))), ?_⟩
    walk_at "rd"
    refine ⟨M, ms, rfl, .inr hM, ?_⟩
    walk_at "rd"
    refine ⟨M, ms.map V.int, rfl, hM, fun q hq => ?_⟩
    have s1 := same_upd (o := .tup (ms.map V.int).reverse) hq
    walk_at "rd"
    refine ⟨⟨_, .inl (.inl upd_same)⟩, fun D hD => ?_⟩
    obtain ⟨H1, eH1⟩ : ∃ H1, H1 = upd H q (.tup (ms.map V.int).reverse) := ⟨_, rfl⟩
    have hq1 : H1 q = some (.tup (ms.map V.int).reverse) := by rw [eH1]; exact upd_same
    rw [← eH1] at s1 hD ⊢
    refine lc_tup (K := K) (a := q) (xs := (ms.map V.int).reverse) (MapAt H1 D fun j y _ => y = .int (0 - ms.reverse.getD j 0)) (mapAt_0 hD) (fun i H2 _ z => by obtain ⟨_, z, _⟩ := z; exact .inl (.inl (z _ _ hq1))) (fun i x H2 hx hP => ?_) (fun H2 hP => ?_)
    · have hi : i < ms.length := by have := (List.getElem?_eq_some_iff.mp hx).1; simpa using this
      rw [← List.map_reverse, List.getElem?_map, List.getElem?_eq_getElem (by simpa using hi)] at hx
      obtain rfl := Option.some.inj hx
      walk_at "rd"
      refine mapAt_step hP hD (by rw [sizeLine_eq]; omega) (Same.refl _) (fun _ _ _ _ h _ => h) ?_
      rw [List.getD_eq_getElem?_getD, List.getElem?_eq_getElem (by simpa using hi)]
      rfl
    obtain ⟨ys, s2, e2, n2, r2⟩ := hP
    have ey : ys = (ms.reverse.map fun e => 0 - e).map V.int := by
      have n2' : ys.length = ms.length := by simpa using n2
      rw [items_eq (f := fun j => V.int (0 - ms.reverse.getD j 0)) n2' r2]
      refine List.ext_getElem? fun i => ?_
      by_cases hi : i < ms.length
      · rw [List.getElem?_map, List.getElem?_range hi, List.getElem?_map, List.getElem?_map, List.getElem?_eq_getElem (by simpa using hi)]
        simp only [Option.map_some, List.getD_eq_getElem?_getD]
        rw [List.getElem?_eq_getElem (by simpa using hi)]
        rfl
      · rw [List.getElem?_eq_none (by simp; omega), List.getElem?_eq_none (by simp; omega)]
    subst ey
    walk_at "rd"
    refine ⟨_, _, rfl, .inl ⟨.inl (.inl e2), fun l hl' => ?_⟩⟩
    refine ⟨(show 2 ≤ sizeLine by decide), fun p hp => ?_⟩
    have s4 := same_upd (o := .tup [.int ms.sum, .ref l]) hp
    exact k _ _ (Same.trans s1 (Same.trans s2 (Same.trans (same_upd hl') s4))) (.tup (.inl (.inl upd_same)) (.cons (.int _) (.cons (dp_ints (.inl (.inl (s4 _ _ upd_same)))) .nil)))
end

section
variable {P : Program} {w : World} {K : PySem.W.Frag} {mg : Str → Option Value} {base : Heap}
theorem RowAt.upd_new {H H1 : Hp} {r sa l : Addr} {ns : List Int} {o : HO} (hr : RowAt K H r sa ns) (hl : H l = Option.none) (h : RowAt K H1 r sa ns) : RowAt K (upd H1 l o) r sa ns := by
  obtain ⟨zs, hrz⟩ := row_lst hr
  have nD : l ≠ r := fun e => by rw [e, hrz] at hl; cases hl
  obtain ⟨p, sd, e, hrow, hS, hb⟩ := h
  refine ⟨p, sd, e, (upd_ne (fun z => nD z.symm)).trans hrow, ?_, hb⟩
  obtain ⟨_, _, _, _, hS1, _⟩ := hr
  have ns' : (∃ o, H sa = some o) → sa ≠ l := fun ⟨o, z⟩ => ne_of_none z hl
  rcases hS with ⟨q | ⟨u, q⟩, n⟩ | q
  · rcases hS1 with ⟨w | ⟨u, w⟩, _⟩ | ⟨o, its, m, w, _⟩
    · exact .inl ⟨.inl ((upd_ne (ns' ⟨_, w⟩)).trans q), n⟩
    · exact .inl ⟨.inl ((upd_ne (ns' ⟨_, w⟩)).trans q), n⟩
    · exact .inr ⟨o, its, m, w, by assumption⟩
  · rcases hS1 with ⟨w | ⟨u', w⟩, _⟩ | ⟨o, its, m, w, _⟩
    · exact .inl ⟨.inr ⟨u, (upd_ne (ns' ⟨_, w⟩)).trans q⟩, n⟩
    · exact .inl ⟨.inr ⟨u, (upd_ne (ns' ⟨_, w⟩)).trans q⟩, n⟩
    · exact .inr ⟨o, its, m, w, by assumption⟩
  · exact .inr q
theorem RK.upd_new {H H1 : Hp} {r sa l : Addr} {ns : List Int} {o : HO} (hr : RowAt K H r sa ns) (hl : H l = Option.none) (h : RK K r sa ns H H1) : RK K r sa ns H (upd H1 l o) :=
  ⟨fun b u n e => (upd_ne (ne_of_none e hl)).trans (h.keep b u n e), hr.upd_new hl h.row⟩
theorem at_last {es : List V} {x : V} : atI (es ++ [x]) (-1) = some x := by
  unfold atI ixN
  rw [if_neg (by decide)]
  simp only [List.length_append, List.length_cons, List.length_nil]
  rw [if_pos (by omega)]
  show (es ++ [x])[_]? = some x
  rw [show ((-1 : Int) + ((es.length + (0 + 1) : Nat) : Int)).toNat = es.length by omega, List.getElem?_append_right (by omega), Nat.sub_self]
  rfl
theorem cut_from (xs : List V) (k : Nat) (h : k ≤ xs.length) : cutV xs (some (k : Int)) none = xs.drop k := by
  unfold cutV
  rw [HT.sIx_nat, HT.sIx_none, Nat.min_eq_left h]
  exact List.take_of_length_le (by simp)
theorem cut_to (xs : List V) (k : Nat) (h : k ≤ xs.length) : cutV xs none (some (k : Int)) = xs.take k := by
  unfold cutV
  rw [HT.sIx_nat, HT.sIx_none, Nat.min_eq_left h]
  simp
/-- a monomial of at most a degree -/
def MonD (n : Nat) (m : Int) (es : List Int) : Prop := es.length = n ∧ (∀ e ∈ es, 0 ≤ e) ∧ es.sum ≤ m
def sp_law_mono (K : PySem.W.Frag) : Sp := fun vs H Q _ => ∃ (r sa : Addr) (ns : List Int) (n : Nat) (m : Int), vs = [.ref r, .int n, .int m] ∧ 1 ≤ n ∧ n ≤ 4 ∧ 0 ≤ m ∧ m ≤ 60 ∧ RowAt K H r sa ns ∧
  ∀ es p H', MonD n m es → RK K r sa ns H H' → H' p = some (.tup (es.map V.int)) → Q (.ref p) H'
theorem ok_law_mono (T : Txt K mg) : FnOk P w K mg base CX0 2 T.law_mono.f T.law_mono.fd P_law_mono (sp_law_mono K) := by
  refine T.law_mono.F.ok sc_law_mono (fun vs H Q E h => ?_) (fun cdv A outer s H vs Q E hr h => ?_)
  · obtain ⟨r, sa, ns, n, m, rfl, _⟩ := h; rfl
  · obtain ⟨r, sa, ns, n, m, rfl, hn, hn4, hm, hm60, hrow, k⟩ := h
    refine ⟨_, (pss_cons (ps_par rfl sc_law_mono.nd (i := 3) (j := 4) rfl rfl (by decide) rfl rfl (pa_cons (pe_lst pa_nil) (pa_cons (pe_call (ok_law_taken T) (hr.mono (by decide)) rfl T.law_taken.g T.law_taken.F.kp (b_law_taken T) .nil pass0 (pa_cons (pv 0) (pa_cons (pe_op op_add (pv 2) pe_int) pa_nil))) pa_nil)) rfl)
  (pss_cons (ps_for PassesOwn.never rfl (pi_range1 rfl T.n_range (pa_cons (pe_op op_sub (pv 1) pe_int) pa_nil)) (pg_name (i := 5) sc_law_mono.nd rfl (Or.inl rfl)) (pss_cons (ps_expr (pe_bm PySem.F.plainAttrs_list PySem.F.slot_list_append PySem.F.type_list_append mt_append (pv 3) (pa_cons (pe_call (ok_law_taken T) (hr.mono (by decide)) rfl T.law_taken.g T.law_taken.F.kp (b_law_taken T) .nil pass0 (pa_cons (pv 0) (pa_cons (pe_op op_add (pv 4) pe_int) pa_nil))) pa_nil)))
  (pss_one (ps_set (i := 4) sc_law_mono.nd rfl (Or.inl rfl) (pe_op op_sub (pv 4) (pe_ix (r := rIxL K) ix_list (pv 3) (pe_un un_neg pe_int) (fun _ _ => rfl)))))))
  (pss_cons (ps_set (i := 5) sc_law_mono.nd rfl (Or.inl rfl) (pe_call (ok_law_taken T) (hr.mono (by decide)) rfl T.law_taken.g T.law_taken.F.kp (b_law_taken T) .nil pass0 (pa_cons (pv 0) (pa_cons (pv 1) pa_nil))))
  (pss_cons (ps_set (i := 3) sc_law_mono.nd rfl (Or.inl rfl) (pe_op op_cat (pv 3) (pe_lst (pa_cons (pv 4) pa_nil))))
  (pss_one (ps_ret (pe_callTy (r := rTupOf K) call_tuple_of rfl T.n_tuple bo_tuple (pa_cons (pe_op op_cat (pe_slice (r := rSlL K) sl_list (pv 3) (po_some (pv 5)) po_none) (pe_slice (r := rSlL K) sl_list (pv 3) po_none (po_some (pv 5)))) pa_nil)))))))), ?_⟩
    walk_at "rd"
    refine ⟨by decide, fun l hl => ?_⟩
    have s1 := same_upd (o := .lst []) hl
    have hnr := new_ne hrow hl
    walk_at "rd"
    refine ⟨r, sa, ns, _, rfl, hrow.sm s1, by omega, by omega, fun v H2 v0 v1 row2 b2 => ?_⟩
    have rk2 : RK K r sa ns H H2 := (RK.of hrow s1).trans (.draw row2 b2)
    have el2 : H2 l = some (.lst []) := (b2 l hnr).trans upd_same
    walk_at "rd"
    refine ⟨(by omega), (by omega), ?_⟩
    rw [show ((n : Int) - 1).toNat = n - 1 by omega]
    refine for_range (lo := 0) (n := n - 1) (fun i σ H1 => ∃ (es : List Int) (left : Int) (y : Option V), σ = [some (.ref r), some (.int n), some (.int m), some (.ref l), some (.int left), y] ∧ RK K r sa ns H H1 ∧ H1 l = some (.lst (es.map V.int)) ∧ es.length = i ∧ (∀ e ∈ es, 0 ≤ e) ∧ 0 ≤ left ∧ es.sum + left ≤ m)
      ⟨[], v, _, rfl, rk2, el2, rfl, fun e he => by simp at he, v0, by simp; omega⟩ (fun i σ H1 hi q => ?_) (fun σ H1 q => ?_)
    · obtain ⟨es, left, y, rfl, rk1, e1, l1, p1, q1, t1⟩ := q
      have bl : es.sum ≥ 0 := by
        clear e1 l1 t1
        induction es with
        | nil => exact Int.le_refl _
        | cons x l ih =>
          have := ih fun e he => p1 e (List.mem_cons_of_mem _ he)
          have := p1 x List.mem_cons_self
          rw [List.sum_cons]; omega
      walk_at "rd"
      refine ⟨.inl ⟨rfl, _, .inl (.inl e1)⟩, ?_⟩
      walk_at "rd"
      refine ⟨r, sa, ns, _, rfl, rk1.row, by omega, by omega, fun u H3 u0 u1 row3 b3 => ?_⟩
      have rk3 := rk1.trans (.draw row3 b3)
      have e3 : H3 l = some (.lst (es.map V.int)) := (b3 l hnr).trans e1
      refine ⟨_, _, _, rfl, rfl, e3, by rw [List.length_map, sizeLine_eq]; omega, ?_⟩
      walk_at "rd"
      refine ⟨_, _, _, _, rfl, rfl, .inl (.inl upd_same), at_last, ?_⟩
      walk_at "rd"
      refine ⟨es ++ [u], left - u, _, rfl, rk3.upd_new hrow hl, ?_, by simp [l1], fun e he => ?_, by omega, by simp; omega⟩
      · rw [upd_same]; simp
      · rcases List.mem_append.mp he with he | he
        · exact p1 e he
        · have : e = u := by simpa using he
          omega
    · obtain ⟨es, left, y, rfl, rk1, e1, l1, p1, q1, t1⟩ := q
      walk_at "rd"
      refine ⟨r, sa, ns, _, rfl, rk1.row, by omega, by omega, fun u H3 u0 u1 row3 b3 => ?_⟩
      have rk3 := rk1.trans (.draw row3 b3)
      have e3 : H3 l = some (.lst (es.map V.int)) := (b3 l hnr).trans e1
      obtain ⟨c, rfl⟩ := Int.eq_ofNat_of_zero_le u0
      walk_at "rd"
      refine ⟨(show 1 ≤ sizeLine by decide), fun q hq => ?_⟩
      have s4 := same_upd (o := .lst [V.int left]) hq
      refine ⟨_, _, _, _, rfl, rfl, s4 _ _ e3, upd_same, by simp [sizeLine_eq, l1]; omega, fun g hg => ?_⟩
      have s5 := Same.trans s4 (same_upd (o := .lst (es.map V.int ++ [V.int left])) hg)
      have hes : (es.map V.int ++ [V.int left]) = (es ++ [left]).map V.int := by simp
      have hlen : (es ++ [left]).length = n := by simp [l1]; omega
      have hpm : ∀ e ∈ es ++ [left], 0 ≤ e := fun e he => by
        rcases List.mem_append.mp he with he | he
        · exact p1 e he
        · have : e = left := by simpa using he
          omega
      have hsm : (es ++ [left]).sum ≤ m := by simp; omega
      have hc : c ≤ (es ++ [left]).length := by omega
      obtain ⟨H5, eH5⟩ : ∃ H5, H5 = upd (upd H3 q (.lst [V.int left])) g (.lst (es.map V.int ++ [V.int left])) := ⟨_, rfl⟩
      have eg5 : H5 g = some (.lst ((es ++ [left]).map V.int)) := by rw [eH5, upd_same, hes]
      rw [← eH5] at s5 ⊢
      clear eH5
      walk_at "rd"
      refine ⟨g, _, rfl, .inl (.inl eg5), fun x hx => ?_⟩
      rw [cut_from _ c (by rw [List.length_map]; exact hc)]
      have s6 := same_upd (o := .lst (((es ++ [left]).map V.int).drop c)) hx
      walk_at "rd"
      refine ⟨g, _, rfl, .inl (.inl (s6 _ _ eg5)), fun z hz => ?_⟩
      rw [cut_to _ c (by rw [List.length_map]; exact hc)]
      have s7 := same_upd (o := .lst (((es ++ [left]).map V.int).take c)) hz
      refine ⟨_, _, _, _, rfl, rfl, s7 _ _ upd_same, upd_same, by simp [sizeLine_eq, l1]; omega, fun u hu => ?_⟩
      walk_at "rd"
      refine ⟨_, _, rfl, .inl ⟨.inl (.inl upd_same), fun t ht => ?_⟩⟩
      have rot : ((es ++ [left]).map V.int).drop c ++ ((es ++ [left]).map V.int).take c = ((es ++ [left]).drop c ++ (es ++ [left]).take c).map V.int := by
        generalize es ++ [left] = w
        rw [List.map_append, List.map_drop, List.map_take]
      refine k ((es ++ [left]).drop c ++ (es ++ [left]).take c) t _ ⟨?_, fun e he => ?_, ?_⟩ (rk3.trans (.of rk3.row (Same.trans (Same.trans s5 s6) (Same.trans s7 (Same.trans (same_upd hu) (same_upd ht)))))) ?_
      · rw [List.length_append, List.length_drop, List.length_take, hlen]; omega
      · rcases List.mem_append.mp he with he | he
        · exact hpm e (List.mem_of_mem_drop he)
        · exact hpm e (List.mem_of_mem_take he)
      · have e1 : (es ++ [left]).sum = ((es ++ [left]).take c).sum + ((es ++ [left]).drop c).sum := by
          conv => lhs; rw [← List.take_append_drop c (es ++ [left])]
          rw [List.sum_append]
        rw [List.sum_append]
        omega
      · rw [upd_same, rot]
end

/-! ### monomials' numbers, digit by digit -/
def lexS : List Int → List Int → Int
  | x :: xs, y :: ys => if x = y then lexS xs ys else if y < x then 1 else -1
  | _, _ => 0
def dig (rs : List (List Int)) (ms : List Int) : List Int := rs.map fun r => dotZ ms r
def foldP (t : Int) (l : List Int) : Int := l.foldl (fun t d => t * PLi + d) t
def dotF : Nat → List Int → (Nat → Int) → Int
  | _, [], _ => 0
  | p, m :: ms, f => m * f p + dotF (p + 1) ms f
theorem dotF_range (f : Nat → Int) : ∀ (ms : List Int) (p : Nat), dotZ ms ((List.range' p ms.length).map f) = dotF p ms f
  | [], _ => rfl
  | m :: ms, p => by
    rw [List.length_cons, List.range'_succ, List.map_cons]
    show m * f p + dotZ ms _ = m * f p + _
    rw [dotF_range f ms (p + 1)]
theorem dotF_lin (f g : Nat → Int) (c : Int) : ∀ (ms : List Int) (p : Nat), dotF p ms (fun q => f q * c + g q) = dotF p ms f * c + dotF p ms g
  | [], _ => by simp [dotF]
  | m :: ms, p => by
    show m * (f p * c + g p) + dotF (p + 1) ms _ = (m * f p + dotF (p + 1) ms f) * c + (m * g p + dotF (p + 1) ms g)
    rw [dotF_lin f g c ms (p + 1)]
    grind
theorem dotF_zero : ∀ (ms : List Int) (p : Nat), dotF p ms (fun _ => 0) = 0
  | [], _ => rfl
  | m :: ms, p => by
    show m * 0 + dotF (p + 1) ms _ = 0
    rw [dotF_zero ms (p + 1), Int.mul_zero]; rfl
theorem dotF_fold (ms : List Int) (p : Nat) : ∀ (rs : List (List Int)) (a : Nat → Int), dotF p ms (fun q => rs.foldl (fun t row => t * PLi + row.getD q 0) (a q)) = rs.foldl (fun t row => t * PLi + dotF p ms (fun q => row.getD q 0)) (dotF p ms a)
  | [], _ => rfl
  | r :: rs, a => by
    show dotF p ms (fun q => rs.foldl _ (a q * PLi + r.getD q 0)) = rs.foldl _ (dotF p ms a * PLi + dotF p ms fun q => r.getD q 0)
    rw [dotF_fold ms p rs fun q => a q * PLi + r.getD q 0, dotF_lin]
theorem dotF_row (row : List Int) : ∀ (ms : List Int) (p : Nat), row.length = p + ms.length → dotF p ms (fun q => row.getD q 0) = dotZ ms (row.drop p)
  | [], p, h => by
    rw [List.drop_eq_nil_of_le (by simp at h; omega)]; rfl
  | m :: ms, p, h => by
    have hp : p < row.length := by rw [h, List.length_cons]; omega
    rw [List.drop_eq_getElem_cons hp]
    show m * row.getD p 0 + _ = m * row[p] + dotZ ms (row.drop (p + 1))
    rw [dotF_row row ms (p + 1) (by rw [h, List.length_cons]; omega), List.getD_eq_getElem?_getD, List.getElem?_eq_getElem hp]
    rfl
theorem dotF_pow (n : Nat) : ∀ (ms : List Int) (p : Nat) (t : Int), n = p + ms.length → t * 2 ^ (48 * ms.length) + dotF p ms (fun q => 2 ^ (48 * (n - 1 - q))) = foldP t ms
  | [], _, t, _ => by simp [dotF, foldP]
  | m :: ms, p, t, h => by
    have ih := dotF_pow n ms (p + 1) (t * PLi + m) (by rw [h, List.length_cons]; omega)
    show _ + (m * 2 ^ (48 * (n - 1 - p)) + dotF (p + 1) ms _) = foldP (t * PLi + m) ms
    rw [← ih, show n - 1 - p = ms.length by rw [h, List.length_cons]; omega, List.length_cons, show 48 * (ms.length + 1) = 48 * ms.length + 48 by omega, Int.pow_add]
    have e : PLi = 2 ^ 48 := rfl
    rw [e]
    grind
theorem foldP_app (t : Int) (a b : List Int) : foldP t (a ++ b) = foldP (foldP t a) b := List.foldl_append
theorem code_fold {n : Nat} {rs : List (List Int)} {ms : List Int} (hm : ms.length = n) (hr : ∀ r ∈ rs, r.length = n) : dotZ ms (unitsL n rs) = foldP 0 (dig rs ms ++ ms) := by
  subst hm
  unfold unitsL
  rw [List.range_eq_range', dotF_range]
  have e : unitN ms.length rs = fun q => (rs.foldl (fun t row => t * PLi + row.getD q 0) 0) * 2 ^ (48 * ms.length) + 2 ^ (48 * (ms.length - 1 - q)) := rfl
  rw [e, dotF_lin, dotF_fold ms 0 rs fun _ => 0, dotF_pow ms.length ms 0 _ (by omega), foldP_app]
  congr 1
  rw [dotF_zero]
  unfold foldP dig
  rw [List.foldl_map]
  have go : ∀ (rs : List (List Int)) (t : Int), (∀ r ∈ rs, r.length = ms.length) → rs.foldl (fun t row => t * PLi + dotF 0 ms (fun q => row.getD q 0)) t = rs.foldl (fun t row => t * PLi + dotZ ms row) t := by
    intro rs
    induction rs with
    | nil => intro _ _; rfl
    | cons r rs ih =>
      intro t h
      simp only [List.foldl_cons]
      rw [dotF_row r ms 0 (by rw [h r List.mem_cons_self]; omega), List.drop_zero]
      exact ih _ fun q hq => h q (List.mem_cons_of_mem _ hq)
  exact go rs 0 hr
def Dg (l : List Int) : Prop := ∀ x ∈ l, 0 ≤ x ∧ x < PLi
theorem fold_lt : ∀ (xs ys : List Int) (t s : Int), t < s → xs.length = ys.length → Dg xs → Dg ys → foldP t xs < foldP s ys
  | [], [], t, s, h, _, _, _ => h
  | [], _ :: _, _, _, _, h, _, _ => by simp at h
  | _ :: _, [], _, _, _, h, _, _ => by simp at h
  | x :: xs, y :: ys, t, s, h, hl, hx, hy => by
    have h1 : 0 ≤ x ∧ x < 281474976710656 := by rw [← pli_eq]; exact hx x List.mem_cons_self
    have h2 : 0 ≤ y ∧ y < 281474976710656 := by rw [← pli_eq]; exact hy y List.mem_cons_self
    refine fold_lt xs ys (t * PLi + x) (s * PLi + y) ?_ (by simpa using hl) (fun z hz => hx z (List.mem_cons_of_mem _ hz)) (fun z hz => hy z (List.mem_cons_of_mem _ hz))
    rw [pli_eq]
    omega
theorem fold_sgn : ∀ (xs ys : List Int) (t : Int), xs.length = ys.length → Dg xs → Dg ys → sgn (foldP t xs - foldP t ys) = lexS xs ys
  | [], [], t, _, _, _ => by simp [foldP, sgn, lexS]
  | [], _ :: _, _, h, _, _ => by simp at h
  | _ :: _, [], _, h, _, _ => by simp at h
  | x :: xs, y :: ys, t, hl, hx, hy => by
    have hl' : xs.length = ys.length := by simpa using hl
    have hx' : Dg xs := fun z hz => hx z (List.mem_cons_of_mem _ hz)
    have hy' : Dg ys := fun z hz => hy z (List.mem_cons_of_mem _ hz)
    show sgn (foldP (t * PLi + x) xs - foldP (t * PLi + y) ys) = if x = y then lexS xs ys else if y < x then 1 else -1
    by_cases e : x = y
    · subst e
      rw [if_pos rfl]
      exact fold_sgn xs ys _ hl' hx' hy'
    · rw [if_neg e]
      by_cases g : y < x
      · have := fold_lt ys xs (t * PLi + y) (t * PLi + x) (by omega) hl'.symm hy' hx'
        rw [if_pos g]
        unfold sgn
        rw [if_neg (by omega), if_pos (by omega)]
      · have := fold_lt xs ys (t * PLi + x) (t * PLi + y) (by omega) hl' hx' hy'
        rw [if_neg g]
        unfold sgn
        rw [if_neg (by omega), if_neg (by omega)]
theorem lexS_app : ∀ (a b c d : List Int), a.length = b.length → lexS (a ++ c) (b ++ d) = if lexS a b = 0 then lexS c d else lexS a b
  | [], [], c, d, _ => by simp [lexS]
  | [], _ :: _, _, _, h => by simp at h
  | _ :: _, [], _, _, h => by simp at h
  | x :: a, y :: b, c, d, h => by
    have ih := lexS_app a b c d (by simpa using h)
    show (if x = y then lexS (a ++ c) (b ++ d) else _) = if (if x = y then lexS a b else _) = 0 then _ else (if x = y then lexS a b else _)
    by_cases e : x = y
    · rw [if_pos e, if_pos e]; exact ih
    · rw [if_neg e, if_neg e]
      split <;> simp
theorem lexS_zero : ∀ {a b : List Int}, a.length = b.length → lexS a b = 0 → a = b
  | [], [], _, _ => rfl
  | [], _ :: _, h, _ => by simp at h
  | _ :: _, [], h, _ => by simp at h
  | x :: a, y :: b, h, z => by
    have z : (if x = y then lexS a b else if y < x then 1 else -1) = 0 := z
    by_cases e : x = y
    · rw [if_pos e] at z
      rw [e, lexS_zero (by simpa using h) z]
    · rw [if_neg e] at z
      split at z <;> simp at z
theorem lexS_self : ∀ a : List Int, lexS a a = 0
  | [] => rfl
  | x :: a => by
    show (if x = x then lexS a a else _) = 0
    rw [if_pos rfl]; exact lexS_self a
theorem lexS_neg : ∀ a b : List Int, lexS b a = - lexS a b
  | [], [] => rfl
  | [], _ :: _ => rfl
  | _ :: _, [] => rfl
  | x :: a, y :: b => by
    show (if y = x then lexS b a else if x < y then 1 else -1) = -(if x = y then lexS a b else if y < x then 1 else -1)
    by_cases e : x = y
    · rw [if_pos e, if_pos e.symm]; exact lexS_neg a b
    · rw [if_neg e, if_neg (Ne.symm e)]
      by_cases g : y < x
      · rw [if_pos g, if_neg (by omega)]
      · rw [if_neg g, if_pos (by omega)]; rfl
theorem lexS_three : ∀ a b : List Int, lexS a b = 0 ∨ lexS a b = 1 ∨ lexS a b = -1
  | [], [] => .inl rfl
  | [], _ :: _ => .inl rfl
  | _ :: _, [] => .inl rfl
  | x :: a, y :: b => by
    have ih := lexS_three a b
    show (if x = y then lexS a b else if y < x then 1 else -1) = 0 ∨ (if x = y then lexS a b else if y < x then 1 else -1) = 1 ∨ (if x = y then lexS a b else if y < x then 1 else -1) = -1
    split
    · exact ih
    · split
      · exact .inr (.inl rfl)
      · exact .inr (.inr rfl)
theorem dot_comm : ∀ a b : List Int, dotZ a b = dotZ b a
  | [], [] => rfl
  | [], _ :: _ => rfl
  | _ :: _, [] => rfl
  | x :: a, y :: b => by
    show x * y + dotZ a b = y * x + dotZ b a
    rw [dot_comm a b, Int.mul_comm]
theorem dot_bound : ∀ (ms r : List Int), (∀ e ∈ ms, 0 ≤ e) → (∀ e ∈ r, 0 ≤ e ∧ e ≤ 20) → 0 ≤ dotZ ms r ∧ dotZ ms r ≤ 20 * ms.sum
  | [], [], _, _ => by simp [dotZ]
  | [], _ :: _, _, _ => by simp [dotZ]
  | m :: ms, [], h, _ => by
    have : ∀ l : List Int, (∀ e ∈ l, 0 ≤ e) → 0 ≤ l.sum := by
      intro l
      induction l with
      | nil => intro _; exact Int.le_refl _
      | cons x l ih =>
        intro h
        have := ih fun e he => h e (List.mem_cons_of_mem _ he)
        have := h x List.mem_cons_self
        rw [List.sum_cons]; omega
    have := this _ h
    simp [dotZ] at *
    omega
  | m :: ms, x :: r, h, g => by
    have ih := dot_bound ms r (fun e he => h e (List.mem_cons_of_mem _ he)) fun e he => g e (List.mem_cons_of_mem _ he)
    have h0 := h m List.mem_cons_self
    have g0 := g x List.mem_cons_self
    have p1 : 0 ≤ m * x := Int.mul_nonneg h0 g0.1
    have p2 : m * x ≤ m * 20 := Int.mul_le_mul_of_nonneg_left g0.2 h0
    show 0 ≤ m * x + dotZ ms r ∧ m * x + dotZ ms r ≤ 20 * (m :: ms).sum
    rw [List.sum_cons]
    omega
theorem dot_add : ∀ (a m r : List Int), a.length = m.length → dotZ (List.zipWith (· + ·) a m) r = dotZ a r + dotZ m r
  | [], [], r, _ => by cases r <;> rfl
  | [], _ :: _, _, h => by simp at h
  | _ :: _, [], _, h => by simp at h
  | x :: a, y :: m, [], _ => rfl
  | x :: a, y :: m, z :: r, h => by
    show (x + y) * z + dotZ (List.zipWith (· + ·) a m) r = x * z + dotZ a r + (y * z + dotZ m r)
    rw [dot_add a m r (by simpa using h)]
    grind
theorem lexS_step {x y x' y' : Int} {xs ys xs' ys' : List Int} (h : x - y = x' - y') (t : x = y → lexS xs ys = lexS xs' ys') : lexS (x :: xs) (y :: ys) = lexS (x' :: xs') (y' :: ys') := by
  show (if x = y then lexS xs ys else if y < x then 1 else -1) = (if x' = y' then lexS xs' ys' else if y' < x' then 1 else -1)
  by_cases e : x = y
  · rw [if_pos e, if_pos (show x' = y' by omega)]; exact t e
  · rw [if_neg e, if_neg (show ¬ x' = y' by omega)]
    by_cases g : y < x
    · rw [if_pos g, if_pos (show y' < x' by omega)]
    · rw [if_neg g, if_neg (show ¬ y' < x' by omega)]
theorem lexS_dig_add {a b m : List Int} (ha : a.length = m.length) (hb : b.length = m.length) : ∀ rs : List (List Int), lexS (dig rs (List.zipWith (· + ·) a m)) (dig rs (List.zipWith (· + ·) b m)) = lexS (dig rs a) (dig rs b)
  | [] => rfl
  | r :: rs => by
    refine lexS_step ?_ fun _ => lexS_dig_add ha hb rs
    show dotZ (List.zipWith (· + ·) a m) r - dotZ (List.zipWith (· + ·) b m) r = dotZ a r - dotZ b r
    rw [dot_add a m r ha, dot_add b m r hb]
    omega
theorem lexS_dig_up {a m : List Int} (ha : a.length = m.length) (h0 : ∀ e ∈ a, 0 ≤ e) : ∀ rs : List (List Int), (∀ r ∈ rs, ∀ e ∈ r, 0 ≤ e ∧ e ≤ 20) → lexS (dig rs (List.zipWith (· + ·) a m)) (dig rs m) = 1 ∨ (lexS (dig rs (List.zipWith (· + ·) a m)) (dig rs m) = 0)
  | [], _ => .inr rfl
  | r :: rs, h => by
    have h1 := (dot_bound a r h0 (h r List.mem_cons_self)).1
    show (if dotZ (List.zipWith (· + ·) a m) r = dotZ m r then lexS (dig rs (List.zipWith (· + ·) a m)) (dig rs m) else if dotZ m r < dotZ (List.zipWith (· + ·) a m) r then 1 else -1) = 1 ∨ (if dotZ (List.zipWith (· + ·) a m) r = dotZ m r then lexS (dig rs (List.zipWith (· + ·) a m)) (dig rs m) else if dotZ m r < dotZ (List.zipWith (· + ·) a m) r then 1 else -1) = 0
    rw [dot_add a m r ha]
    by_cases e : dotZ a r = 0
    · rw [if_pos (by omega)]
      exact lexS_dig_up ha h0 rs fun q hq => h q (List.mem_cons_of_mem _ hq)
    · rw [if_neg (by omega), if_pos (by omega)]
      exact .inl rfl

/-! ### keys of monomials, as data and as rows of ints -/
/-- two data that compare as two rows of ints do -/
structure Ky (d e : PyData) (p q : List Int) : Prop where
  lt : PySem.W.dataLt d e = decide (lexS p q = -1)
  gt : PySem.W.dataLt e d = decide (lexS p q = 1)
  eq : PyData.eqv d e = decide (lexS p q = 0)
  eq' : PyData.eqv e d = decide (lexS p q = 0)
  al : PySem.W.alike d e = true
  al' : PySem.W.alike e d = true
  len : p.length = q.length
theorem ky_int (x y : Int) : Ky (.int x) (.int y) [x] [y] := by
  have e : lexS [x] [y] = if x = y then 0 else if y < x then 1 else -1 := rfl
  refine ⟨?_, ?_, ?_, ?_, by simp [PySem.W.alike], by simp [PySem.W.alike], rfl⟩
  · rw [PySem.W.dataLt_int, e]
    by_cases h : x = y
    · subst h; simp
    · by_cases g : y < x <;> simp [h, g] <;> omega
  · rw [PySem.W.dataLt_int, e]
    by_cases h : x = y
    · subst h; simp
    · by_cases g : y < x <;> simp [h, g]
  · show (x == y) = _
    rw [e]
    by_cases h : x = y
    · subst h; simp
    · by_cases g : y < x <;> simp [h, g]
  · show (y == x) = _
    rw [e]
    by_cases h : x = y
    · subst h; simp
    · have h' : ¬ y = x := fun z => h z.symm
      by_cases g : y < x <;> simp [h, h', g]
/-- rows of data -/
structure KyAll (ds es : List PyData) (p q : List Int) : Prop where
  lt : PySem.W.rowLt ds es = decide (lexS p q = -1)
  gt : PySem.W.rowLt es ds = decide (lexS p q = 1)
  eq : PyData.eqvAll ds es = decide (lexS p q = 0)
  eq' : PyData.eqvAll es ds = decide (lexS p q = 0)
  al : PySem.W.alikeAll ds es = true
  al' : PySem.W.alikeAll es ds = true
  len : p.length = q.length
theorem kyAll_nil : KyAll [] [] [] [] := by
  have h : PySem.W.rowLt [] [] = false := PySem.W.dataLt_ints [] []
  exact ⟨by rw [h]; rfl, by rw [h]; rfl, rfl, rfl, rfl, rfl, rfl⟩
theorem kyAll_cons {d e : PyData} {ds es : List PyData} {p q p' q' : List Int} (h : Ky d e p q) (t : KyAll ds es p' q') : KyAll (d :: ds) (e :: es) (p ++ p') (q ++ q') := by
  have hz := lexS_app p q p' q' h.len
  have h3 := lexS_three p q
  refine ⟨?_, ?_, ?_, ?_, ?_, ?_, by rw [List.length_append, List.length_append, h.len, t.len]⟩
  · unfold PySem.W.rowLt
    rw [PySem.W.dataLt_cons h.al, h.eq, h.lt, hz]
    have := t.lt
    unfold PySem.W.rowLt at this
    rw [this]
    rcases h3 with z | z | z <;> rw [z] <;> simp
  · unfold PySem.W.rowLt
    rw [PySem.W.dataLt_cons h.al', h.eq', h.gt, hz]
    have := t.gt
    unfold PySem.W.rowLt at this
    rw [this]
    rcases h3 with z | z | z <;> rw [z] <;> simp
  · show (PyData.eqv d e && PyData.eqvAll ds es) = _
    rw [h.eq, t.eq, hz]
    rcases h3 with z | z | z <;> rw [z] <;> simp
  · show (PyData.eqv e d && PyData.eqvAll es ds) = _
    rw [h.eq', t.eq', hz]
    rcases h3 with z | z | z <;> rw [z] <;> simp
  · simp [PySem.W.alikeAll, h.al, t.al]
  · simp [PySem.W.alikeAll, h.al', t.al']
theorem KyAll.tup {ds es : List PyData} {p q : List Int} (h : KyAll ds es p q) : Ky (.tuple ds) (.tuple es) p q := by
  refine ⟨?_, ?_, h.eq, h.eq', by simpa [PySem.W.alike] using h.al, by simpa [PySem.W.alike] using h.al', h.len⟩
  · rw [PySem.W.dataLt_tuple]; exact h.lt
  · rw [PySem.W.dataLt_tuple]; exact h.gt
theorem kyAll_ints : ∀ {a b : List Int}, a.length = b.length → KyAll (a.map .int) (b.map .int) a b
  | [], [], _ => kyAll_nil
  | [], _ :: _, h => by simp at h
  | _ :: _, [], h => by simp at h
  | x :: a, y :: b, h => kyAll_cons (ky_int x y) (kyAll_ints (by simpa using h))
theorem ky_ints {a b : List Int} (h : a.length = b.length) : Ky (rD a) (rD b) a b := (kyAll_ints h).tup
theorem ky_two {d e d' e' : PyData} {p q p' q' : List Int} (h : Ky d e p q) (h' : Ky d' e' p' q') : Ky (.tuple [d, d']) (.tuple [e, e']) (p ++ p') (q ++ q') := by
  have t := (kyAll_cons h (kyAll_cons h' kyAll_nil)).tup
  rw [List.append_nil, List.append_nil] at t
  exact t
def rvL (ms : List Int) : List Int := ms.sum :: (ms.reverse.map fun e => 0 - e)
theorem ky_rv {a b : List Int} (h : a.length = b.length) : Ky (rvD a) (rvD b) (rvL a) (rvL b) :=
  ky_two (ky_int _ _) (ky_ints (by simp [h]))
def keyD (o : Ord) (ms : List Int) : PyData := match o with
  | .lex => rD ms
  | .deglex => .tuple [.int ms.sum, rD ms]
  | .drl => rvD ms
  | .block k => .tuple [rvD (ms.take k), rvD (ms.drop k)]
  | .wts ws => .tuple [.int (dotZ ws ms), rvD ms]
def keyL (o : Ord) (ms : List Int) : List Int := match o with
  | .lex => ms
  | .deglex => ms.sum :: ms
  | .drl => rvL ms
  | .block k => rvL (ms.take k) ++ rvL (ms.drop k)
  | .wts ws => dotZ ws ms :: rvL ms
theorem ky_key {a b : List Int} (h : a.length = b.length) : ∀ o, Ky (keyD o a) (keyD o b) (keyL o a) (keyL o b)
  | .lex => ky_ints h
  | .deglex => ky_two (ky_int _ _) (ky_ints h)
  | .drl => ky_rv h
  | .block k => ky_two (ky_rv (by simp [h])) (ky_rv (by simp [h]))
  | .wts ws => ky_two (ky_int _ _) (ky_rv h)
/-! ### the rows tell what the keys tell -/
theorem lexS_same {x y : Int} {xs ys : List Int} (h : x = y) : lexS (x :: xs) (y :: ys) = lexS xs ys := if_pos h
theorem len_cases {n : Nat} {a : List Int} (h : a.length = n) (h1 : 1 ≤ n) (h4 : n ≤ 4) : (n = 1 ∧ ∃ x, a = [x]) ∨ (n = 2 ∧ ∃ x y, a = [x, y]) ∨ (n = 3 ∧ ∃ x y z, a = [x, y, z]) ∨ (n = 4 ∧ ∃ x y z u, a = [x, y, z, u]) := by
  match a, h with
  | [], h => simp at h; omega
  | [x], h => exact .inl ⟨by simpa using h.symm, x, rfl⟩
  | [x, y], h => exact .inr (.inl ⟨by simpa using h.symm, x, y, rfl⟩)
  | [x, y, z], h => exact .inr (.inr (.inl ⟨by simpa using h.symm, x, y, z, rfl⟩))
  | [x, y, z, u], h => exact .inr (.inr (.inr ⟨by simpa using h.symm, x, y, z, u, rfl⟩))
  | _ :: _ :: _ :: _ :: _ :: l, h => simp at h; omega
theorem dig_singles {n : Nat} {a : List Int} (h : a.length = n) (h1 : 1 ≤ n) (h4 : n ≤ 4) : dig (singles n) a = a := by
  rcases len_cases h h1 h4 with ⟨rfl, x, rfl⟩ | ⟨rfl, x, y, rfl⟩ | ⟨rfl, x, y, z, rfl⟩ | ⟨rfl, x, y, z, u, rfl⟩
  · have e : singles 1 = [[1]] := by decide
    rw [e]; simp [dig, dotZ]
  · have e : singles 2 = [[1, 0], [0, 1]] := by decide
    rw [e]; simp [dig, dotZ]
  · have e : singles 3 = [[1, 0, 0], [0, 1, 0], [0, 0, 1]] := by decide
    rw [e]; simp [dig, dotZ]
  · have e : singles 4 = [[1, 0, 0, 0], [0, 1, 0, 0], [0, 0, 1, 0], [0, 0, 0, 1]] := by decide
    rw [e]; simp [dig, dotZ]
theorem dot_ones {n : Nat} {a : List Int} (h : a.length = n) (h1 : 1 ≤ n) (h4 : n ≤ 4) : dotZ a (List.replicate n 1) = a.sum := by
  rcases len_cases h h1 h4 with ⟨rfl, x, rfl⟩ | ⟨rfl, x, y, rfl⟩ | ⟨rfl, x, y, z, rfl⟩ | ⟨rfl, x, y, z, u, rfl⟩ <;> simp [dotZ, List.replicate]
theorem drl_rows {n : Nat} {a b : List Int} (ha : a.length = n) (hb : b.length = n) (h1 : 1 ≤ n) (h4 : n ≤ 4) : lexS (dig (falling n 0 n) a) (dig (falling n 0 n) b) = lexS (rvL a) (rvL b) := by
  rcases len_cases ha h1 h4 with ⟨rfl, x, rfl⟩ | ⟨rfl, x, y, rfl⟩ | ⟨rfl, x, y, z, rfl⟩ | ⟨rfl, x, y, z, u, rfl⟩
  · rcases len_cases hb h1 h4 with ⟨_, x', rfl⟩ | ⟨h, _⟩ | ⟨h, _⟩ | ⟨h, _⟩ <;> try omega
    have e : falling 1 0 1 = [[1]] := by decide
    rw [e]
    simp only [dig, dotZ, rvL, List.map, List.reverse, List.reverseAux, List.sum_cons, List.sum_nil]
    refine lexS_step (by omega) fun g1 => ?_
    rw [lexS_same (by omega)]
  · rcases len_cases hb h1 h4 with ⟨h, _⟩ | ⟨_, x', y', rfl⟩ | ⟨h, _⟩ | ⟨h, _⟩ <;> try omega
    have e : falling 2 0 2 = [[1, 1], [1, 0]] := by decide
    rw [e]
    simp only [dig, dotZ, rvL, List.map, List.reverse, List.reverseAux, List.sum_cons, List.sum_nil]
    refine lexS_step (by omega) fun g1 => ?_
    refine lexS_step (by omega) fun g2 => ?_
    rw [lexS_same (by omega)]
  · rcases len_cases hb h1 h4 with ⟨h, _⟩ | ⟨h, _⟩ | ⟨_, x', y', z', rfl⟩ | ⟨h, _⟩ <;> try omega
    have e : falling 3 0 3 = [[1, 1, 1], [1, 1, 0], [1, 0, 0]] := by decide
    rw [e]
    simp only [dig, dotZ, rvL, List.map, List.reverse, List.reverseAux, List.sum_cons, List.sum_nil]
    refine lexS_step (by omega) fun g1 => ?_
    refine lexS_step (by omega) fun g2 => ?_
    refine lexS_step (by omega) fun g3 => ?_
    rw [lexS_same (by omega)]
  · rcases len_cases hb h1 h4 with ⟨h, _⟩ | ⟨h, _⟩ | ⟨h, _⟩ | ⟨_, x', y', z', u', rfl⟩ <;> try omega
    have e : falling 4 0 4 = [[1, 1, 1, 1], [1, 1, 1, 0], [1, 1, 0, 0], [1, 0, 0, 0]] := by decide
    rw [e]
    simp only [dig, dotZ, rvL, List.map, List.reverse, List.reverseAux, List.sum_cons, List.sum_nil]
    refine lexS_step (by omega) fun g1 => ?_
    refine lexS_step (by omega) fun g2 => ?_
    refine lexS_step (by omega) fun g3 => ?_
    refine lexS_step (by omega) fun g4 => ?_
    rw [lexS_same (by omega)]

theorem lexS_skip {x y L : Int} {xs ys : List Int} (h : x = y) (t : L = lexS xs ys) : L = lexS (x :: xs) (y :: ys) := by
  rw [lexS_same h]; exact t
local macro_rules | `(tactic| walk_at "blk1") => `(tactic| refine lexS_step (by omega) fun _ => ?_)
local macro_rules | `(tactic| walk_at "blk0") => `(tactic| refine lexS_skip (by omega) ?_)
theorem block_rows {n k : Nat} {a b : List Int} (ha : a.length = n) (hb : b.length = n) (h1 : 1 ≤ n) (h4 : n ≤ 4) (hk : 1 ≤ k) (hkn : k < n) : lexS (dig (falling n 0 k ++ falling n k n) a) (dig (falling n 0 k ++ falling n k n) b) = lexS (rvL (a.take k) ++ rvL (a.drop k)) (rvL (b.take k) ++ rvL (b.drop k)) := by
  rcases len_cases ha h1 h4 with ⟨rfl, x, rfl⟩ | ⟨rfl, x, y, rfl⟩ | ⟨rfl, x, y, z, rfl⟩ | ⟨rfl, x, y, z, u, rfl⟩
  · omega
  · rcases len_cases hb h1 h4 with ⟨h, _⟩ | ⟨_, x', y', rfl⟩ | ⟨h, _⟩ | ⟨h, _⟩ <;> try omega
    have ek : k = 1 := by omega
    subst ek
    have e : falling 2 0 1 ++ falling 2 1 2 = [[1, 0], [0, 1]] := by decide
    rw [e]
    simp only [dig, dotZ, rvL, List.map, List.reverse, List.reverseAux, List.sum_cons, List.sum_nil, List.take, List.drop, List.append, List.cons_append, List.nil_append]
    walk_at "blk1"; walk_at "blk0"; walk_at "blk1"; walk_at "blk0"; rfl
  · rcases len_cases hb h1 h4 with ⟨h, _⟩ | ⟨h, _⟩ | ⟨_, x', y', z', rfl⟩ | ⟨h, _⟩ <;> try omega
    rcases (show k = 1 ∨ k = 2 by omega) with rfl | rfl
    · have e : falling 3 0 1 ++ falling 3 1 3 = [[1, 0, 0], [0, 1, 1], [0, 1, 0]] := by decide
      rw [e]
      simp only [dig, dotZ, rvL, List.map, List.reverse, List.reverseAux, List.sum_cons, List.sum_nil, List.take, List.drop, List.append, List.cons_append, List.nil_append]
      walk_at "blk1"; walk_at "blk0"; walk_at "blk1"; walk_at "blk1"; walk_at "blk0"; rfl
    · have e : falling 3 0 2 ++ falling 3 2 3 = [[1, 1, 0], [1, 0, 0], [0, 0, 1]] := by decide
      rw [e]
      simp only [dig, dotZ, rvL, List.map, List.reverse, List.reverseAux, List.sum_cons, List.sum_nil, List.take, List.drop, List.append, List.cons_append, List.nil_append]
      walk_at "blk1"; walk_at "blk1"; walk_at "blk0"; walk_at "blk1"; walk_at "blk0"; rfl
  · rcases len_cases hb h1 h4 with ⟨h, _⟩ | ⟨h, _⟩ | ⟨h, _⟩ | ⟨_, x', y', z', u', rfl⟩ <;> try omega
    rcases (show k = 1 ∨ k = 2 ∨ k = 3 by omega) with rfl | rfl | rfl
    · have e : falling 4 0 1 ++ falling 4 1 4 = [[1, 0, 0, 0], [0, 1, 1, 1], [0, 1, 1, 0], [0, 1, 0, 0]] := by decide
      rw [e]
      simp only [dig, dotZ, rvL, List.map, List.reverse, List.reverseAux, List.sum_cons, List.sum_nil, List.take, List.drop, List.append, List.cons_append, List.nil_append]
      walk_at "blk1"; walk_at "blk0"; walk_at "blk1"; walk_at "blk1"; walk_at "blk1"; walk_at "blk0"; rfl
    · have e : falling 4 0 2 ++ falling 4 2 4 = [[1, 1, 0, 0], [1, 0, 0, 0], [0, 0, 1, 1], [0, 0, 1, 0]] := by decide
      rw [e]
      simp only [dig, dotZ, rvL, List.map, List.reverse, List.reverseAux, List.sum_cons, List.sum_nil, List.take, List.drop, List.append, List.cons_append, List.nil_append]
      walk_at "blk1"; walk_at "blk1"; walk_at "blk0"; walk_at "blk1"; walk_at "blk1"; walk_at "blk0"; rfl
    · have e : falling 4 0 3 ++ falling 4 3 4 = [[1, 1, 1, 0], [1, 1, 0, 0], [1, 0, 0, 0], [0, 0, 0, 1]] := by decide
      rw [e]
      simp only [dig, dotZ, rvL, List.map, List.reverse, List.reverseAux, List.sum_cons, List.sum_nil, List.take, List.drop, List.append, List.cons_append, List.nil_append]
      walk_at "blk1"; walk_at "blk1"; walk_at "blk1"; walk_at "blk0"; walk_at "blk1"; walk_at "blk0"; rfl
/-- how two monomials stand, by the rows -/
def cmpS (n : Nat) (o : Ord) (a b : List Int) : Int := lexS (dig (rowsL n o) a) (dig (rowsL n o) b)
theorem rows_key {n : Nat} {o : Ord} {a b : List Int} (ha : a.length = n) (hb : b.length = n) (h1 : 1 ≤ n) (h4 : n ≤ 4) (ho : OrdOk n o) : cmpS n o a b = lexS (keyL o a) (keyL o b) := by
  unfold cmpS
  cases o with
  | lex => show lexS (dig (singles n) a) (dig (singles n) b) = _; rw [dig_singles ha h1 h4, dig_singles hb h1 h4]; rfl
  | deglex =>
    show lexS (dotZ a (List.replicate n 1) :: dig (singles n) a) (dotZ b (List.replicate n 1) :: dig (singles n) b) = lexS (a.sum :: a) (b.sum :: b)
    rw [dig_singles ha h1 h4, dig_singles hb h1 h4, dot_ones ha h1 h4, dot_ones hb h1 h4]
  | drl => exact drl_rows ha hb h1 h4
  | block k => exact block_rows ha hb h1 h4 ho.1 ho.2
  | wts ws =>
    show lexS (dotZ a ws :: dig (falling n 0 n) a) (dotZ b ws :: dig (falling n 0 n) b) = lexS (dotZ ws a :: rvL a) (dotZ ws b :: rvL b)
    rw [dot_comm a ws, dot_comm b ws]
    exact lexS_step rfl fun _ => drl_rows ha hb h1 h4
theorem rvL_inj {a b : List Int} (h : rvL a = rvL b) : a = b := by
  unfold rvL at h
  have h2 := (List.cons.inj h).2
  have h3 := congrArg (List.map fun e : Int => 0 - e) h2
  rw [List.map_map, List.map_map] at h3
  have e : ((fun e : Int => 0 - e) ∘ fun e => 0 - e) = id := by
    funext x
    show 0 - (0 - x) = x
    omega
  rw [e, List.map_id, List.map_id] at h3
  exact List.reverse_inj.mp h3
theorem rvL_len (a : List Int) : (rvL a).length = a.length + 1 := by simp [rvL]
theorem keyL_len {a b : List Int} (h : a.length = b.length) (o : Ord) : (keyL o a).length = (keyL o b).length := (ky_key h o).len
theorem keyL_inj {o : Ord} {a b : List Int} (hl : a.length = b.length) (h : keyL o a = keyL o b) : a = b := by
  cases o with
  | lex => exact h
  | deglex => exact (List.cons.inj h).2
  | drl => exact rvL_inj h
  | block k =>
    have h : rvL (a.take k) ++ rvL (a.drop k) = rvL (b.take k) ++ rvL (b.drop k) := h
    obtain ⟨h1, h2⟩ := List.append_inj h (by rw [rvL_len, rvL_len]; simp [hl])
    rw [← List.take_append_drop k a, ← List.take_append_drop k b, rvL_inj h1, rvL_inj h2]
  | wts ws => exact rvL_inj (List.cons.inj h).2
theorem cmp_zero {n : Nat} {o : Ord} {a b : List Int} (ha : a.length = n) (hb : b.length = n) (h1 : 1 ≤ n) (h4 : n ≤ 4) (ho : OrdOk n o) (h : cmpS n o a b = 0) : a = b := by
  rw [rows_key ha hb h1 h4 ho] at h
  exact keyL_inj (by omega) (lexS_zero (keyL_len (by omega) o) h)
theorem cmp_self (n : Nat) (o : Ord) (a : List Int) : cmpS n o a a = 0 := lexS_self _
theorem cmp_neg (n : Nat) (o : Ord) (a b : List Int) : cmpS n o b a = - cmpS n o a b := lexS_neg _ _
theorem mon_dg {n : Nat} {o : Ord} {a : List Int} (hm : Mon n a) (h1 : 1 ≤ n) (h4 : n ≤ 4) (ho : OrdOk n o) : Dg (dig (rowsL n o) a ++ a) := by
  have hr := rows_ok h1 h4 ho
  have hp := pli_eq
  intro x hx
  rcases List.mem_append.mp hx with hx | hx
  · obtain ⟨r, hr', rfl⟩ := List.mem_map.mp hx
    have := dot_bound a r (fun e he => (hm.1.2 e he).1) (hr.2 r hr').2
    have := hm.2
    omega
  · have := hm.1.2 x hx
    omega
theorem code_cmp {n : Nat} {o : Ord} {a b : List Int} (ha : Mon n a) (hb : Mon n b) (h1 : 1 ≤ n) (h4 : n ≤ 4) (ho : OrdOk n o) : sgn (codeN n o a - codeN n o b) = cmpS n o a b := by
  have hr := rows_ok h1 h4 ho
  unfold codeN
  rw [code_fold ha.1.1 fun r hr' => (hr.2 r hr').1, code_fold hb.1.1 fun r hr' => (hr.2 r hr').1]
  rw [fold_sgn _ _ 0 (by simp [dig, ha.1.1, hb.1.1]) (mon_dg ha h1 h4 ho) (mon_dg hb h1 h4 ho), lexS_app _ _ _ _ (by simp [dig])]
  show (if cmpS n o a b = 0 then lexS a b else cmpS n o a b) = cmpS n o a b
  by_cases h : cmpS n o a b = 0
  · rw [if_pos h, cmp_zero ha.1.1 hb.1.1 h1 h4 ho h, lexS_self, cmp_self]
  · rw [if_neg h]
theorem key_sign {n : Nat} {o : Ord} {a b : List Int} (ha : a.length = n) (hb : b.length = n) (h1 : 1 ≤ n) (h4 : n ≤ 4) (ho : OrdOk n o) :
    (if PySem.W.dataLt (keyD o b) (keyD o a) = true then (1 : Int) else 0) - (if PySem.W.dataLt (keyD o a) (keyD o b) = true then 1 else 0) = cmpS n o a b := by
  have K := ky_key (a := a) (b := b) (by omega) o
  rw [rows_key ha hb h1 h4 ho, K.lt, K.gt]
  rcases lexS_three (keyL o a) (keyL o b) with z | z | z <;> rw [z] <;> simp
theorem cmp_add {n : Nat} {o : Ord} {a b m : List Int} (ha : a.length = n) (hb : b.length = n) (hm : m.length = n) : cmpS n o (List.zipWith (· + ·) a m) (List.zipWith (· + ·) b m) = cmpS n o a b :=
  lexS_dig_add (by omega) (by omega) _
theorem cmp_up {n : Nat} {o : Ord} {a m : List Int} (ha : a.length = n) (hm : m.length = n) (h0 : ∀ e ∈ a, 0 ≤ e) (h1 : 1 ≤ n) (h4 : n ≤ 4) (ho : OrdOk n o) :
    cmpS n o (List.zipWith (· + ·) a m) m = if List.zipWith (· + ·) a m = m then 0 else 1 := by
  by_cases e : List.zipWith (· + ·) a m = m
  · rw [if_pos e, e, cmp_self]
  · rw [if_neg e]
    rcases lexS_dig_up (a := a) (m := m) (by omega) h0 (rowsL n o) (fun r hr => ((rows_ok h1 h4 ho).2 r hr).2) with h | h
    · exact h
    · exact absurd (cmp_zero (by simp [ha, hm]) hm h1 h4 ho h) e

section
variable {K : PySem.W.Frag}
/-- a tuple's items read as ints -/
theorem dpAll_ints_eq' {H : Hp} : ∀ {xs : List V} {ns : List Int}, DpAll K H xs (ns.map .int) → xs = ns.map V.int
  | [], [], _ => rfl
  | [], _ :: _, h => by cases h
  | _ :: _, [], h => by cases h
  | x :: xs, n :: ns, h => by
    cases h with
    | cons h1 h2 =>
      cases h1
      rw [dpAll_ints_eq' h2]
      rfl
end
section
variable {P : Program} {w : World} {K : PySem.W.Frag} {mg : Str → Option Value} {base : Heap}
theorem cut_ok1 {n k : Nat} (h : k < n) : ¬ (HT.sIx n 0 Option.none = 0 ∧ HT.sIx n n (some (k : Int)) = n) := by
  rw [HT.sIx_nat]
  intro z
  have := z.2
  omega
theorem cut_ok2 {n k : Nat} (h : 1 ≤ k) (h2 : k < n) : ¬ (HT.sIx n 0 (some (k : Int)) = 0 ∧ HT.sIx n n Option.none = n) := by
  rw [HT.sIx_nat]
  intro z
  have := z.1
  omega
def sp_law_key (K : PySem.W.Frag) : Sp := fun vs H Q _ => ∃ (n : Nat) (o : Ord) (v : V) (M : Addr) (ms : List Int), vs = [v, .ref M] ∧ 1 ≤ n ∧ n ≤ 4 ∧ OrdOk n o ∧ Dp K H v (oD o) ∧ SqT K H M (ms.map V.int) ∧ ms.length = n ∧ (∀ e ∈ ms, 0 ≤ e ∧ e ≤ 60) ∧
  ∀ v' H', Same H H' → Dp K H' v' (keyD o ms) → Q v' H'
theorem dot_list : ∀ (ws ms : List Int) (n : Nat), ws.length = n → ms.length = n → ((List.range n).map fun j => ws.getD j 0 * ms.getD j 0).sum = dotZ ws ms
  | [], [], _, h, _ => by
    subst h; rfl
  | [], _ :: _, _, h, h2 => by subst h; simp at h2
  | _ :: _, [], _, h, h2 => by subst h2; simp at h
  | w :: ws, m :: ms, n, h, h2 => by
    obtain ⟨c, rfl⟩ : ∃ c, n = c + 1 := ⟨ws.length, by rw [← h, List.length_cons]⟩
    have ih := dot_list ws ms c (by simpa using h) (by simpa using h2)
    rw [List.range_succ_eq_map, List.map_cons, List.map_map, List.sum_cons]
    show w * m + _ = w * m + dotZ ws ms
    rw [← ih]
    rfl
theorem ok_law_key (T : Txt K mg) : FnOk P w K mg base CX0 2 T.law_key.f T.law_key.fd P_law_key (sp_law_key K) := by
  refine T.law_key.F.ok sc_law_key (fun vs H Q E h => ?_) (fun cdv A outer s H vs Q E hr h => ?_)
  · obtain ⟨n, o, v, M, ms, rfl, _⟩ := h; rfl
  · obtain ⟨n, o, v, M, ms, rfl, hn, hn4, ho, hv, hM, hl, hb, k⟩ := h
    refine ⟨_, (pss_cons (ps_if (pt_cmpR (op_eqD hr.units) (pv 0) pe_str (nomark _)) (pss_one (ps_ret (pv 1))) pss_nil)
  (pss_cons (ps_if (pt_cmpR (op_eqD hr.units) (pv 0) pe_str (nomark _)) (pss_one (ps_ret (pe_tup (pa_cons (pe_callB (r := rSumS K) (cr_sumS rfl) rfl T.n_sum bo_sum (pa_cons (pv 1) pa_nil)) (pa_cons (pv 1) pa_nil))))) pss_nil)
  (pss_cons (ps_if (pt_cmpR (op_eqD hr.units) (pv 0) pe_str (nomark _)) (pss_one (ps_ret (pe_call (ok_law_revlex T) (hr.mono (by decide)) rfl T.law_revlex.g T.law_revlex.F.kp (b_law_revlex T) .nil pass0 (pa_cons (pv 1) pa_nil)))) pss_nil)
  (pss_cons (ps_if (pt_cmpR (op_eqD hr.units) (pe_ix (r := rIxT K) ix_tup (pv 0) pe_int (fun _ _ => rfl)) pe_str (nomark _)) (pss_one (ps_ret (pe_tup (pa_cons (pe_call (ok_law_revlex T) (hr.mono (by decide)) rfl T.law_revlex.g T.law_revlex.F.kp (b_law_revlex T) .nil pass0 (pa_cons (pe_slice (r := rSlT K) sl_tup (pv 1) po_none (po_some (pe_ix (r := rIxT K) ix_tup (pv 0) pe_int (fun _ _ => rfl)))) pa_nil)) (pa_cons (pe_call (ok_law_revlex T) (hr.mono (by decide)) rfl T.law_revlex.g T.law_revlex.F.kp (b_law_revlex T) .nil pass0 (pa_cons (pe_slice (r := rSlT K) sl_tup (pv 1) (po_some (pe_ix (r := rIxT K) ix_tup (pv 0) pe_int (fun _ _ => rfl))) po_none) pa_nil)) pa_nil))))) pss_nil)
  (pss_one (ps_ret (pe_tup (pa_cons (pe_callB (r := rSumS K) (cr_sumS rfl) rfl T.n_sum bo_sum (pa_cons (pe_lc (own := [("at", 2)]) rfl sc_law_key.nd (pi_range1 rfl T.n_range (pa_cons (pe_callB (r := rLenS K) call_len_seq rfl T.n_len bo_len (pa_cons (pv 1) pa_nil)) pa_nil)) (blkOk_by (own := [("at", 2)]) (N := N_law_key) (sc := defScope s_law_key) (by decide +kernel)) (fun _ _ _ _ _ => (pg_name (i := 2) sc_law_key.nd rfl (Or.inl rfl))) (fun _ _ _ _ _ => pts_nil) (fun _ _ _ _ _ => (pe_op op_mulW (pe_ix (r := rIxT K) ix_tup (pe_ix (r := rIxT K) ix_tup (pv 0) pe_int (fun _ _ => rfl)) (pv 2) (fun _ _ => rfl)) (pe_ix (r := rIxT K) ix_tup (pv 1) (pv 2) (fun _ _ => rfl))))) pa_nil)) (pa_cons (pe_call (ok_law_revlex T) (hr.mono (by decide)) rfl T.law_revlex.g T.law_revlex.F.kp (b_law_revlex T) .nil pass0 (pa_cons (pv 1) pa_nil)) pa_nil))))))))), ?_⟩
    have sh : SeqAt.shaped (oD o) = true := shaped_ord hn4 ho
    cases o with
    | lex =>
      walk_at "rd"
      refine ⟨_, _, hv, .str _, sh, shLex, ?_⟩
      walk_at "rd"
      exact k _ _ (Same.refl _) (dp_ints hM)
    | deglex =>
      walk_at "rd"
      refine ⟨_, _, hv, .str _, sh, shLex, ?_⟩
      walk_at "rd"
      refine ⟨_, _, hv, .str _, sh, shDeg, ?_⟩
      walk_at "rd"
      refine ⟨M, ms, rfl, .inr hM, ?_⟩
      walk_at "rd"
      refine ⟨two_line, fun p hp => ?_⟩
      have s1 := same_upd (o := .tup [.int ms.sum, .ref M]) hp
      exact k _ _ s1 (.tup (.inl (.inl upd_same)) (.cons (.int _) (.cons (dp_ints (Toy.Same.tup s1 hM)) .nil)))
    | drl =>
      walk_at "rd"
      refine ⟨_, _, hv, .str _, sh, shLex, ?_⟩
      walk_at "rd"
      refine ⟨_, _, hv, .str _, sh, shDeg, ?_⟩
      walk_at "rd"
      refine ⟨_, _, hv, .str _, sh, shDrl, ?_⟩
      walk_at "rd"
      exact ⟨M, ms, rfl, hM, by omega, k⟩
    | block c =>
      obtain ⟨hc1, hc2⟩ := ho
      cases hv with
      | @tup a xs0 _ hT hA =>
      cases hA with
      | cons hx0 hA =>
      cases hx0
      cases hA with
      | cons hx1 hA =>
      cases hx1
      cases hA
      have hv : Dp K H (.ref a) (oD (.block c)) := .tup hT (.cons (.str _) (.cons (.int _) .nil))
      walk_at "rd"
      refine ⟨_, _, hv, .str _, sh, shLex, ?_⟩
      walk_at "rd"
      refine ⟨_, _, hv, .str _, sh, shDeg, ?_⟩
      walk_at "rd"
      refine ⟨_, _, hv, .str _, sh, shDrl, ?_⟩
      walk_at "rd"
      refine ⟨_, _, .str _, .str _, shBlk, shBlk, ?_⟩
      walk_at "rd"
      refine ⟨M, _, rfl, hM, ?_, fun p hp => ?_⟩
      · rw [List.length_map, hl]; exact cut_ok1 hc2
      rw [cut_to _ c (by rw [List.length_map]; omega), ← List.map_take]
      have s1 := same_upd (o := .tup ((ms.take c).map V.int)) hp
      walk_at "rd"
      refine ⟨p, ms.take c, rfl, .inl (.inl upd_same), by rw [List.length_take]; omega, fun v1 H2 s2 d2 => ?_⟩
      have s12 := Same.trans s1 s2
      have hT2 := Toy.Same.tup s12 hT
      walk_at "rd"
      refine ⟨M, _, rfl, Toy.Same.tup s12 hM, ?_, fun q hq => ?_⟩
      · rw [List.length_map, hl]; exact cut_ok2 hc1 hc2
      rw [cut_from _ c (by rw [List.length_map]; omega), ← List.map_drop]
      have s3 := same_upd (o := .tup ((ms.drop c).map V.int)) hq
      walk_at "rd"
      refine ⟨q, ms.drop c, rfl, .inl (.inl upd_same), by rw [List.length_drop]; omega, fun v2 H4 s4 d4 => ?_⟩
      walk_at "rd"
      refine ⟨two_line, fun u hu => ?_⟩
      have s5 := same_upd (o := .tup [v1, v2]) hu
      exact k _ _ (Same.trans s12 (Same.trans s3 (Same.trans s4 s5))) (.tup (.inl (.inl upd_same)) (.cons (Dp.same (Same.trans s3 (Same.trans s4 s5)) _ _ d2) (.cons (Dp.same s5 _ _ d4) .nil)))
    | wts ws =>
      obtain ⟨hw1, hw2⟩ := ho
      cases hv with
      | @tup a xs0 _ hT hA =>
      cases hA with
      | cons hx0 hA =>
      cases hx0
      cases hA with
      | @cons wv _ _ _ hx1 hA =>
      cases hA
      have hv : Dp K H (.ref a) (oD (.wts ws)) := .tup hT (.cons (.str _) (.cons hx1 .nil))
      cases hx1 with
      | @tup wa ws0 _ hW hWs =>
      have ew := dpAll_ints_eq' hWs
      subst ew
      walk_at "rd"
      refine ⟨_, _, hv, .str _, sh, shLex, ?_⟩
      walk_at "rd"
      refine ⟨_, _, hv, .str _, sh, shDeg, ?_⟩
      walk_at "rd"
      refine ⟨_, _, hv, .str _, sh, shDrl, ?_⟩
      walk_at "rd"
      refine ⟨_, _, .str _, .str _, shWts, shBlk, ?_⟩
      walk_at "rd"
      refine ⟨_, _, rfl, .inr hM, ?_⟩
      walk_at "rd"
      rw [List.length_map, hl]
      refine ⟨(by omega), (by omega), fun D hD => ?_⟩
      rw [Int.toNat_natCast]
      refine lc_range (lo := 0) (n := n) (MapAt H D fun j y _ => y = .int (ws.getD j 0 * ms.getD j 0)) (mapAt_0 hD) (fun j H2 hj hP => ?_) (fun H2 hP => ?_)
      · have s2 : Same H H2 := by obtain ⟨_, q, _⟩ := hP; exact q
        have hjr : j < ws.length := by omega
        have hjm : j < ms.length := by omega
        have b1 := hw2 _ (List.getElem_mem hjr)
        have b2 := hb _ (List.getElem_mem hjm)
        have g1 : ws.getD j 0 = ws[j] := by rw [List.getD_eq_getElem?_getD, List.getElem?_eq_getElem hjr]; rfl
        have g2 : ms.getD j 0 = ms[j] := by rw [List.getD_eq_getElem?_getD, List.getElem?_eq_getElem hjm]; rfl
        have a1 : atI (ws.map V.int) (0 + (j : Int)) = some (.int ws[j]) := at_of (show (0 : Int) + (j : Int) = ((j : Nat) : Int) by omega) (by rw [List.getElem?_map, List.getElem?_eq_getElem hjr]; rfl)
        have a2 : atI (ms.map V.int) (0 + (j : Int)) = some (.int ms[j]) := at_of (show (0 : Int) + (j : Int) = ((j : Nat) : Int) by omega) (by rw [List.getElem?_map, List.getElem?_eq_getElem hjm]; rfl)
        have hT2 := Toy.Same.tup s2 hT
        walk_at "rd"
        refine ⟨_, _, _, _, rfl, rfl, Toy.Same.tup s2 hW, a1, ?_⟩
        walk_at "rd"
        refine ⟨_, _, _, _, rfl, rfl, Toy.Same.tup s2 hM, a2, ?_⟩
        walk_at "rd"
        refine mapAt_step hP hD (by rw [sizeLine_eq]; omega) (Same.refl _) (fun _ _ _ _ h _ => h) ?_
        rw [g1, g2]
      · obtain ⟨ys, s2, e2, n2, r2⟩ := hP
        have ey := items_eq n2 r2
        have ey2 : ys = ((List.range n).map fun j => ws.getD j 0 * ms.getD j 0).map V.int := by rw [ey, List.map_map]; rfl
        have hsum := dot_list ws ms n hw1 hl
        subst ey2
        walk_at "rd"
        rw [hsum]
        refine ⟨M, ms, rfl, Toy.Same.tup s2 hM, by omega, fun v2 H4 s4 d4 => ?_⟩
        walk_at "rd"
        refine ⟨two_line, fun u hu => ?_⟩
        have s5 := same_upd (o := .tup [.int (dotZ ws ms), v2]) hu
        exact k _ _ (Same.trans s2 (Same.trans s4 s5)) (.tup (.inl (.inl upd_same)) (.cons (.int _) (.cons (Dp.same s5 _ _ d4) .nil)))
end

abbrev rIxA (K : PySem.W.Frag) : V → V → Hp → VK → Prop := fun x y H Q => rIxL K x y H Q ∨ rIxT K x y H Q
theorem fn_never {P : Program} {w : World} {K : PySem.W.Frag} {mg : Str → Option Value} {base : Heap} {CX : CXT} {k : Nat} {f : Addr} {fd : FuncData} {ps : List Str} : FnOk P w K mg base CX k f fd ps (fun _ _ _ _ => False) :=
  ⟨fun _ _ _ _ h => h.elim, fun _ _ _ _ _ _ _ _ _ _ _ _ _ h => h.elim⟩
/-- equal values, up to a depth -/
inductive Al (K : PySem.W.Frag) : Nat → Hp → V → V → Prop
  | int (j : Nat) (H : Hp) (i : Int) : Al K j H (.int i) (.int i)
  | non (j : Nat) (H : Hp) : Al K j H .non .non
  | tup {j : Nat} {H : Hp} {a b : Addr} {xs ys : List V} (ha : SqT K H a xs) (hb : SqT K H b ys) (hl : xs.length = ys.length) (hz : xs.length ≤ 100000) (h : ∀ (i : Nat) (x y : V), xs[i]? = some x → ys[i]? = some y → ∀ H', Same H H' → Al K j H' x y) : Al K (j + 1) H (.ref a) (.ref b)
  | lst {j : Nat} {H : Hp} {a b : Addr} {xs ys : List V} (ha : H a = some (.lst xs)) (hb : H b = some (.lst ys)) (hl : xs.length = ys.length) (hz : xs.length ≤ 100000) (h : ∀ (i : Nat) (x y : V), xs[i]? = some x → ys[i]? = some y → ∀ H', Same H H' → Al K j H' x y) : Al K (j + 1) H (.ref a) (.ref b)
def spA (K : PySem.W.Frag) (j : Nat) : Sp := fun vs H Q _ => ∃ x y, vs = [x, y] ∧ Al K j H x y ∧ ∀ H', Same H H' → Q (.bl true) H'
def spG (K : PySem.W.Frag) : Nat → Sp
  | 0 => fun _ _ _ _ => False
  | j + 1 => spA K j
section
variable {K : PySem.W.Frag}
theorem kit_none_tuple : PySem.W.kitOne K (.type "NoneType") (.type "tuple") = some false := kit_ty (by decide +kernel)
theorem kit_none_list : PySem.W.kitOne K (.type "NoneType") (.type "list") = some false := kit_ty (by decide +kernel)
theorem kit_none_str : PySem.W.kitOne K (.type "NoneType") (.type "str") = some false := kit_ty (by decide +kernel)
theorem kit_list_list : PySem.W.kitOne K (.type "list") (.type "list") = some true := kit_ty (by decide +kernel)
theorem kit_list_tuple : PySem.W.kitOne K (.type "list") (.type "tuple") = some false := kit_ty (by decide +kernel)
theorem kitA_none : PySem.W.kitAny K (.type "NoneType") [.type "tuple", .type "list"] = some false :=
  kitAny_cons kit_none_tuple (fun _ => kitAny_cons kit_none_list (fun _ => kitAny_nil) (fun z => nomatch z)) (fun z => nomatch z)
theorem kitA_list : PySem.W.kitAny K (.type "list") [.type "tuple", .type "list"] = some true :=
  kitAny_cons kit_list_tuple (fun _ => kitAny_cons kit_list_list (fun z => nomatch z) (fun _ => rfl)) (fun z => nomatch z)
end
section
variable {P : Program} {w : World} {K : PySem.W.Frag} {mg : Str → Option Value} {base : Heap}
theorem alike_body (T : Txt K mg) (j : Nat) (G0 : FnOk P w K mg base CX0 j T.law_alike.f T.law_alike.fd P_law_alike (spG K j)) : FnOk P w K mg base CX0 (j + 1) T.law_alike.f T.law_alike.fd P_law_alike (spA K j) := by
  refine T.law_alike.F.ok sc_law_alike (fun vs H Q E h => ?_) (fun cdv A outer s H vs Q E hr h => ?_)
  · obtain ⟨x, y, rfl, _⟩ := h; rfl
  · obtain ⟨x, y, rfl, hA, k⟩ := h
    refine ⟨_, (pss_cons (ps_if (pt_val (pe_callB (r := rIsiT K) call_isiT rfl T.n_isinstance bo_isinstance (pa_cons (pv 1) (pa_cons (pe_tup (pa_cons (pe_bltn (v := .ty "tuple") rfl T.n_tuple bo_tuple rfl) (pa_cons (pe_bltn (v := .ty "list") rfl T.n_list bo_list rfl) pa_nil))) pa_nil)))) (pss_cons (ps_if (PW.pt (pw_or (pt_not (pt_val (pe_callB (r := rIsiT K) call_isiT rfl T.n_isinstance bo_isinstance (pa_cons (pv 0) (pa_cons (pe_tup (pa_cons (pe_bltn (v := .ty "tuple") rfl T.n_tuple bo_tuple rfl) (pa_cons (pe_bltn (v := .ty "list") rfl T.n_list bo_list rfl) pa_nil))) pa_nil))))) (pw_or1 (pt_cmpR op_ne (pe_callB (r := rIsi K) call_isi rfl T.n_isinstance bo_isinstance (pa_cons (pv 0) (pa_cons (pe_bltn (v := .ty "list") rfl T.n_list bo_list rfl) pa_nil))) (pe_callB (r := rIsi K) call_isi rfl T.n_isinstance bo_isinstance (pa_cons (pv 1) (pa_cons (pe_bltn (v := .ty "list") rfl T.n_list bo_list rfl) pa_nil))) (nomark _))))) (pss_one (ps_ret pe_bl)) pss_nil)
  (pss_cons (ps_if (pt_cmpR op_ne (pe_callB (r := rLenS K) call_len_seq rfl T.n_len bo_len (pa_cons (pv 0) pa_nil)) (pe_callB (r := rLenS K) call_len_seq rfl T.n_len bo_len (pa_cons (pv 1) pa_nil)) (nomark _)) (pss_one (ps_ret pe_bl)) pss_nil)
  (pss_one (ps_ret (pe_cmpR (op_eqD hr.units) (pe_lc (own := [("k", 2)]) rfl sc_law_alike.nd (pi_range1 rfl T.n_range (pa_cons (pe_callB (r := rLenS K) call_len_seq rfl T.n_len bo_len (pa_cons (pv 1) pa_nil)) pa_nil)) (blkOk_by (own := [("k", 2)]) (N := N_law_alike) (sc := defScope s_law_alike) (by decide +kernel)) (fun _ _ _ _ _ => (pg_name (i := 2) sc_law_alike.nd rfl (Or.inl rfl))) (fun _ _ _ _ _ => pts_one (pt_not (pt_val (pe_call G0 hr rfl T.law_alike.g T.law_alike.F.kp (b_law_alike T) .nil pass0 (pa_cons (pe_ix (r := rIxA K) ix_any (pv 0) (pv 2) (fun _ _ => rfl)) (pa_cons (pe_ix (r := rIxA K) ix_any (pv 1) (pv 2) (fun _ _ => rfl)) pa_nil)))))) (fun _ _ _ _ _ => (pv 2))) (pe_lst pa_nil) (nomark _)))))) pss_nil)
  (pss_cons (ps_if (PW.pt (pw_or (pt_cmpR op_isN (pv 1) pe_non (nomark _)) (pw_or1 (pt_val (pe_callB (r := rIsi K) call_isi rfl T.n_isinstance bo_isinstance (pa_cons (pv 1) (pa_cons (pe_bltn (v := .ty "str") rfl T.n_str bo_str rfl) pa_nil))))))) (pss_one (ps_ret (pe_and (pe_cmpR (op_eqD hr.units) (pv 0) (pv 1) (nomark _)) (pe_one (pe_cmpR op_eq (pe_callB (r := rIsi K) call_isi rfl T.n_isinstance bo_isinstance (pa_cons (pv 0) (pa_cons (pe_bltn (v := .ty "str") rfl T.n_str bo_str rfl) pa_nil))) (pe_callB (r := rIsi K) call_isi rfl T.n_isinstance bo_isinstance (pa_cons (pv 1) (pa_cons (pe_bltn (v := .ty "str") rfl T.n_str bo_str rfl) pa_nil))) (nomark _)))))) pss_nil)
  (pss_one (ps_ret (pe_and (pe_callB (r := rIsi K) call_isi rfl T.n_isinstance bo_isinstance (pa_cons (pv 0) (pa_cons (pe_bltn (v := .ty "int") rfl T.n_int bo_int rfl) pa_nil))) (pe_and (pe_cmpR op_eq (pe_callB (r := rIsi K) call_isi rfl T.n_isinstance bo_isinstance (pa_cons (pv 0) (pa_cons (pe_bltn (v := .ty "bool") rfl T.n_bool bo_bool rfl) pa_nil))) (pe_callB (r := rIsi K) call_isi rfl T.n_isinstance bo_isinstance (pa_cons (pv 1) (pa_cons (pe_bltn (v := .ty "bool") rfl T.n_bool bo_bool rfl) pa_nil))) (nomark _)) (pe_one (pe_cmpR (op_eqD hr.units) (pv 0) (pv 1) (nomark _))))))))), ?_⟩
    cases hA with
    | int _ _ i =>
      walk_at "rd"
      refine ⟨two_line, fun p hp => ?_⟩
      refine ⟨_, _, _, _, _, _, rfl, upd_same, .cons (.ty _) (.cons (.ty _) .nil), .base (.int _), kitA_int, ?_⟩
      walk_at "rd"
      refine ⟨_, _, .int _, .int _, by rfl, by rfl, ?_⟩
      have e : PyData.eqv (.int i) (.int i) = true := by show (i == i) = true; simp
      show Q _ _
      rw [e]
      exact k _ (same_upd hp)
    | non _ _ =>
      walk_at "rd"
      refine ⟨two_line, fun p hp => ?_⟩
      refine ⟨_, _, _, _, _, _, rfl, upd_same, .cons (.ty _) (.cons (.ty _) .nil), .base .non, kitA_none, ?_⟩
      walk_at "rd"
      refine ⟨_, _, .non, .non, by rfl, by rfl, ?_⟩
      walk_at "rd"
      refine ⟨_, _, _, _, _, rfl, .ty _, .base .non, kit_none_str, ?_⟩
      walk_at "rd"
      refine ⟨_, _, _, _, _, rfl, .ty _, .base .non, kit_none_str, ?_⟩
      walk_at "rd"
      exact k _ (same_upd hp)
    | @tup j' _ a b xs ys ha hb hl hz h =>
      walk_at "rd"
      refine ⟨two_line, fun p hp => ?_⟩
      have s1 := same_upd (o := .tup [V.ty "tuple", V.ty "list"]) hp
      refine ⟨_, _, _, _, _, _, rfl, upd_same, .cons (.ty _) (.cons (.ty _) .nil), ty_tup (Toy.Same.tup s1 hb), kitA_tuple, ?_⟩
      walk_at "rd"
      refine ⟨two_line, fun q hq => ?_⟩
      have s2 := Same.trans s1 (same_upd (o := .tup [V.ty "tuple", V.ty "list"]) hq)
      refine ⟨_, _, _, _, _, _, rfl, upd_same, .cons (.ty _) (.cons (.ty _) .nil), ty_tup (Toy.Same.tup s2 ha), kitA_tuple, ?_⟩
      obtain ⟨H2, eH2⟩ : ∃ H2, H2 = upd (upd H p (.tup [V.ty "tuple", V.ty "list"])) q (.tup [V.ty "tuple", V.ty "list"]) := ⟨_, rfl⟩
      rw [← eH2] at s2 ⊢
      clear eH2
      have ha2 := Toy.Same.tup s2 ha
      have hb2 := Toy.Same.tup s2 hb
      walk_at "rd"
      refine ⟨_, _, _, _, _, rfl, .ty _, ty_tup ha2, kit_tuple_list, ?_⟩
      walk_at "rd"
      refine ⟨_, _, _, _, _, rfl, .ty _, ty_tup hb2, kit_tuple_list, ?_⟩
      walk_at "rd"
      refine ⟨_, _, rfl, .inr ha2, ?_⟩
      walk_at "rd"
      refine ⟨_, _, rfl, .inr hb2, ?_⟩
      walk_at "rd"
      rw [hl]
      refine iteVn (fun z => absurd rfl z) (fun _ => ?_)
      walk_at "rd"
      refine ⟨_, _, rfl, .inr hb2, ?_⟩
      walk_at "rd"
      refine ⟨(by omega), (by omega), fun D hD => ?_⟩
      rw [Int.toNat_natCast]
      refine lc_range (lo := 0) (n := ys.length) (fun i H3 => Same H2 H3 ∧ H3 D = some (.lst [])) ⟨same_upd hD, upd_same⟩ (fun i H3 hi q => ?_) (fun H3 q => ?_)
      · obtain ⟨s3, e3⟩ := q
        have hx : xs[i]? = some xs[i] := List.getElem?_eq_getElem (by omega)
        have hy : ys[i]? = some ys[i] := List.getElem?_eq_getElem hi
        have g1 : atI xs (0 + (i : Int)) = some xs[i] := at_of (show (0 : Int) + (i : Int) = ((i : Nat) : Int) by omega) hx
        have g2 : atI ys (0 + (i : Int)) = some ys[i] := at_of (show (0 : Int) + (i : Int) = ((i : Nat) : Int) by omega) hy
        walk_at "rd"
        refine .inr ⟨_, _, _, _, rfl, rfl, (Toy.Same.tup s3 ha2), g1, ?_⟩
        walk_at "rd"
        refine .inr ⟨_, _, _, _, rfl, rfl, (Toy.Same.tup s3 hb2), g2, ?_⟩
        refine ⟨_, _, rfl, h i _ _ hx hy H3 (Same.trans s2 s3), fun H4 s4 => ?_⟩
        walk_at "rd"
        exact ⟨Same.trans s3 s4, s4 _ _ e3⟩
      · obtain ⟨s3, e3⟩ := q
        walk_at "rd"
        refine ⟨by decide, fun q hq => ?_⟩
        refine ⟨_, _, .lst (.inl (.inl ((upd_ne (ne_of_none e3 hq)).trans e3))) .nil, .lst (.inl (.inl upd_same)) .nil, by decide, by decide, ?_⟩
        exact k _ (Same.trans s2 (Same.trans s3 (same_upd hq)))
    | @lst j' _ a b xs ys ha hb hl hz h =>
      walk_at "rd"
      refine ⟨two_line, fun p hp => ?_⟩
      have s1 := same_upd (o := .tup [V.ty "tuple", V.ty "list"]) hp
      refine ⟨_, _, _, _, _, _, rfl, upd_same, .cons (.ty _) (.cons (.ty _) .nil), .base (.lst (s1 _ _ hb)), kitA_list, ?_⟩
      walk_at "rd"
      refine ⟨two_line, fun q hq => ?_⟩
      have s2 := Same.trans s1 (same_upd (o := .tup [V.ty "tuple", V.ty "list"]) hq)
      refine ⟨_, _, _, _, _, _, rfl, upd_same, .cons (.ty _) (.cons (.ty _) .nil), .base (.lst (s2 _ _ ha)), kitA_list, ?_⟩
      obtain ⟨H2, eH2⟩ : ∃ H2, H2 = upd (upd H p (.tup [V.ty "tuple", V.ty "list"])) q (.tup [V.ty "tuple", V.ty "list"]) := ⟨_, rfl⟩
      rw [← eH2] at s2 ⊢
      clear eH2
      have ha2 := s2 _ _ ha
      have hb2 := s2 _ _ hb
      walk_at "rd"
      refine ⟨_, _, _, _, _, rfl, .ty _, .base (.lst ha2), kit_list_list, ?_⟩
      walk_at "rd"
      refine ⟨_, _, _, _, _, rfl, .ty _, .base (.lst hb2), kit_list_list, ?_⟩
      walk_at "rd"
      rw [hl]
      refine iteVn (fun z => absurd rfl z) (fun _ => ?_)
      walk_at "rd"
      refine ⟨(by omega), (by omega), fun D hD => ?_⟩
      rw [Int.toNat_natCast]
      refine lc_range (lo := 0) (n := ys.length) (fun i H3 => Same H2 H3 ∧ H3 D = some (.lst [])) ⟨same_upd hD, upd_same⟩ (fun i H3 hi q => ?_) (fun H3 q => ?_)
      · obtain ⟨s3, e3⟩ := q
        have hx : xs[i]? = some xs[i] := List.getElem?_eq_getElem (by omega)
        have hy : ys[i]? = some ys[i] := List.getElem?_eq_getElem hi
        have g1 : atI xs (0 + (i : Int)) = some xs[i] := at_of (show (0 : Int) + (i : Int) = ((i : Nat) : Int) by omega) hx
        have g2 : atI ys (0 + (i : Int)) = some ys[i] := at_of (show (0 : Int) + (i : Int) = ((i : Nat) : Int) by omega) hy
        walk_at "rd"
        refine .inl ⟨_, _, _, _, rfl, rfl, .inl (.inl (s3 _ _ ha2)), g1, ?_⟩
        walk_at "rd"
        refine .inl ⟨_, _, _, _, rfl, rfl, .inl (.inl (s3 _ _ hb2)), g2, ?_⟩
        refine ⟨_, _, rfl, h i _ _ hx hy H3 (Same.trans s2 s3), fun H4 s4 => ?_⟩
        walk_at "rd"
        exact ⟨Same.trans s3 s4, s4 _ _ e3⟩
      · obtain ⟨s3, e3⟩ := q
        walk_at "rd"
        refine ⟨by decide, fun q hq => ?_⟩
        refine ⟨_, _, .lst (.inl (.inl ((upd_ne (ne_of_none e3 hq)).trans e3))) .nil, .lst (.inl (.inl upd_same)) .nil, by decide, by decide, ?_⟩
        exact k _ (Same.trans s2 (Same.trans s3 (same_upd hq)))
theorem ok_alike_at (T : Txt K mg) : ∀ j : Nat, FnOk P w K mg base CX0 (j + 1) T.law_alike.f T.law_alike.fd P_law_alike (spA K j)
  | 0 => alike_body T 0 fn_never
  | j + 1 => alike_body T (j + 1) (ok_alike_at T j)
theorem ok_law_alike (T : Txt K mg) : FnOk P w K mg base CX0 3 T.law_alike.f T.law_alike.fd P_law_alike (spA K 2) := ok_alike_at T 2
end

def isZ (f n : Int) : Bool := if f = 0 then decide (n = 0) else decide (n % f = 0)
/-! ### the law's own reckoning -/
theorem inv_all : ∀ f ∈ FieldsP, ∀ r ∈ (List.range 31).map (fun i : Nat => (i : Int)), 0 < r → r < f → r * invP r f % f = 1 := by decide +kernel
theorem inv_ok {f r : Int} (hf : f ∈ FieldsP) (h0 : 0 < r) (h1 : r < f) : r * invP r f % f = 1 := by
  have hb := (IsF.lt (.inr hf)).2
  refine inv_all f hf r ?_ h0 h1
  refine List.mem_map.mpr ⟨r.toNat, List.mem_range.mpr (by omega), by omega⟩
theorem inv_dvd {f d : Int} (hf : f ∈ FieldsP) (hd : d % f ≠ 0) : f ∣ d * invP (d % f) f - 1 := by
  have h2 := IsF.pos (.inr hf) (by intro z; subst z; revert hf; decide)
  have e1 := Int.emod_nonneg d (show f ≠ 0 by omega)
  have e2 := Int.emod_lt_of_pos d (show 0 < f by omega)
  have h := inv_ok hf (show 0 < d % f by omega) e2
  have h3 : f ∣ (d % f) * invP (d % f) f - 1 := Int.dvd_of_emod_eq_zero (by rw [Int.sub_emod, h]; have : (1 : Int) % f = 1 := Int.emod_eq_of_lt (by omega) (by omega); rw [this]; rfl)
  have h4 : d * invP (d % f) f - 1 = ((d % f) * invP (d % f) f - 1) + f * ((d / f) * invP (d % f) f) := by
    have this := Int.emod_add_mul_ediv d f
    generalize invP (d % f) f = e
    generalize d % f = r at this
    generalize d / f = q at this
    subst this
    grind
  rw [h4]
  exact Int.dvd_add h3 (Int.dvd_mul_right _ _)
/-- the one k below f with f ∣ k * d - n -/
theorem num_one {f n d k : Int} (hf : f ∈ FieldsP) (hd : d % f ≠ 0) (k0 : 0 ≤ k) (k1 : k < f) : (k * d - n) % f = 0 ↔ k = n * invP (d % f) f % f := by
  have h := inv_dvd hf hd
  generalize invP (d % f) f = e at *
  constructor
  · intro hk
    have h1 : f ∣ k * d - n := Int.dvd_of_emod_eq_zero hk
    have h2 : f ∣ n * e - k := by
      have : n * e - k = k * (d * e - 1) - (k * d - n) * e := by grind
      rw [this]
      exact Int.dvd_sub (Int.dvd_trans h (Int.dvd_mul_left _ _)) (Int.dvd_trans h1 (Int.dvd_mul_right _ _))
    have h3 := Int.emod_emod_of_dvd (n * e - k) (Int.dvd_refl f)
    have h4 : (n * e - k) % f = 0 := Int.emod_eq_zero_of_dvd h2
    have h5 : n * e % f = k % f := (Int.emod_eq_emod_iff_emod_sub_eq_zero).mpr h4
    rw [h5, Int.emod_eq_of_lt k0 k1]
  · intro hk
    refine Int.emod_eq_zero_of_dvd ?_
    have h1 : f ∣ n * e - k := by
      rw [hk]
      exact Int.dvd_self_sub_emod
    have : k * d - n = n * (d * e - 1) - (n * e - k) * d := by grind
    rw [this]
    exact Int.dvd_sub (Int.dvd_trans h (Int.dvd_mul_left _ _)) (Int.dvd_trans h1 (Int.dvd_mul_right _ _))
theorem gcd_clock : 2 ^ 19999 * (BB + BB) < 3 ^ 19999 := by decide +kernel
theorem gcd_step {A B i S : Nat} (hB : 0 < B) (hBA : 1 ≤ i → B ≤ A) (h : (A + B) * 3 ^ (i - 1) ≤ 2 ^ (i - 1) * S) : (B + A % B) * 3 ^ (i + 1 - 1) ≤ 2 ^ (i + 1 - 1) * S := by
  have hr := Nat.mod_lt A hB
  cases i with
  | zero =>
    have := Nat.mod_le A B
    simp only [Nat.zero_sub, Nat.zero_add, Nat.sub_self, Nat.pow_zero, Nat.mul_one, Nat.one_mul] at h ⊢
    omega
  | succ j =>
    have hA := hBA (by omega)
    have h1 : B * 1 ≤ B * (A / B) := Nat.mul_le_mul_left _ (Nat.div_pos hA hB)
    have h2 := Nat.div_add_mod A B
    have h3 : 3 * (B + A % B) ≤ 2 * (A + B) := by omega
    show (B + A % B) * 3 ^ (j + 1) ≤ 2 ^ (j + 1) * S
    have h' : (A + B) * 3 ^ j ≤ 2 ^ j * S := h
    have h4 := Nat.mul_le_mul_right (3 ^ j) h3
    rw [Nat.pow_succ, Nat.pow_succ]
    generalize 3 ^ j = x at *
    generalize 2 ^ j = y at *
    have e1 : (B + A % B) * (x * 3) = 3 * (B + A % B) * x := by rw [Nat.mul_comm x 3, ← Nat.mul_assoc, Nat.mul_comm _ 3]
    have e2 : 2 * (A + B) * x = 2 * ((A + B) * x) := Nat.mul_assoc _ _ _
    have e3 : y * 2 * S = 2 * (y * S) := by rw [Nat.mul_comm y 2, Nat.mul_assoc]
    rw [e1, e3]
    omega
theorem gcd_end {A B : Nat} (h : (A + B) * 3 ^ (20000 - 1) ≤ 2 ^ (20000 - 1) * (BB + BB)) : A + B = 0 := by
  have hc := gcd_clock
  have e : 20000 - 1 = 19999 := rfl
  rw [e] at h
  generalize 3 ^ 19999 = x at *
  generalize 2 ^ 19999 * (BB + BB) = y at *
  cases Nat.eq_zero_or_pos (A + B) with
  | inl z => exact z
  | inr z =>
    have := Nat.mul_le_mul_right x z
    omega
section
variable {P : Program} {w : World} {K : PySem.W.Frag} {mg : Str → Option Value} {base : Heap}
def sp_law_gcd : Sp := fun vs H Q _ => ∃ a b, vs = [.int a, .int b] ∧ a.natAbs < BB ∧ b.natAbs < BB ∧ Q (.int ((Nat.gcd a.natAbs b.natAbs : Nat) : Int)) H
theorem ok_law_gcd (T : Txt K mg) : FnOk P w K mg base CX0 1 T.law_gcd.f T.law_gcd.fd P_law_gcd sp_law_gcd := by
  refine T.law_gcd.F.ok sc_law_gcd (fun vs H Q E h => ?_) (fun cdv A outer s H vs Q E hr h => ?_)
  · obtain ⟨a, b, rfl, _⟩ := h; rfl
  · obtain ⟨a0, b0, rfl, ha, hb, k⟩ := h
    refine ⟨_, (pss_cons (ps_par rfl sc_law_gcd.nd (i := 0) (j := 1) rfl rfl (by decide) rfl rfl (pa_cons (pe_callB call_abs rfl T.n_abs bo_abs (pa_cons (pv 0) pa_nil)) (pa_cons (pe_callB call_abs rfl T.n_abs bo_abs (pa_cons (pv 1) pa_nil)) pa_nil)) rfl)
  (pss_cons (ps_for PassesOwn.never rfl (pi_range1 rfl T.n_range (pa_cons pe_int pa_nil)) (pg_name (i := 2) sc_law_gcd.nd rfl (Or.inl rfl)) (pss_cons (ps_if (pt_cmpR op_eq (pv 1) pe_int (nomark _)) (pss_one (ps_ret (pv 0))) pss_nil)
  (pss_one (ps_par rfl sc_law_gcd.nd (i := 0) (j := 1) rfl rfl (by decide) rfl rfl (pa_cons (pv 1) (pa_cons (pe_op op_mod (pe_callTy call_int1 rfl T.n_int bo_int (pa_cons (pv 0) pa_nil)) (pv 1)) pa_nil)) rfl))))
  (pss_one (ps_ret (pv 0))))), ?_⟩
    walk_at "rd"
    have ea : (if a0 < 0 then -a0 else a0) = (a0.natAbs : Int) := by split <;> omega
    have eb : (if b0 < 0 then -b0 else b0) = (b0.natAbs : Int) := by split <;> omega
    rw [ea, eb]
    refine ⟨by omega, by omega, for_range (lo := 0) (n := 20000) (fun i σ H' => H' = H ∧ ∃ (A B : Nat) (v : Option V), σ = [some (.int (A : Int)), some (.int (B : Int)), v] ∧ Nat.gcd A B = Nat.gcd a0.natAbs b0.natAbs ∧ (1 ≤ i → B ≤ A) ∧ (A + B) * 3 ^ (i - 1) ≤ 2 ^ (i - 1) * (BB + BB))
      ⟨rfl, _, _, none, rfl, rfl, fun h => absurd h (by decide), by show (a0.natAbs + b0.natAbs) * 1 ≤ 1 * (BB + BB); omega⟩ ?_ ?_⟩
    · rintro i σ H' hi ⟨rfl, A, B, v, rfl, hg, hBA, hS⟩
      walk_at "rd"
      refine iteV (fun hB => ?_) (fun hB => ?_)
      · walk_at "rd"
        have e : B = 0 := by omega
        rw [e, Nat.gcd_zero_right] at hg
        rw [← hg] at k
        exact k
      · have hB0 : 0 < B := by omega
        walk_at "rd"
        refine ⟨B, A % B, some (.int (0 + (i : Int))), ?_, ?_, ?_, ?_⟩
        · show [some (V.int (B : Int)), some (V.int ((A : Int) % (B : Int))), some (V.int (0 + (i : Int)))] = _
          rw [← Int.natCast_emod]
        · rw [Nat.gcd_comm B, ← Nat.gcd_rec, Nat.gcd_comm, hg]
        · intro _
          exact Nat.le_of_lt (Nat.mod_lt _ hB0)
        · exact gcd_step hB0 hBA hS
    · rintro σ H' ⟨rfl, A, B, v, rfl, hg, hBA, hS⟩
      walk_at "rd"
      have e : A + B = 0 := gcd_end hS
      have eA : A = 0 := by omega
      have eB : B = 0 := by omega
      subst eA eB
      rw [← hg] at k
      exact k
def sp_law_num : Sp := fun vs H Q _ => ∃ f n d, vs = [.int f, .int n, .int d] ∧ IsF f ∧ n.natAbs < BB ∧ d.natAbs < BB ∧ isZ f d = false ∧ ∀ v H', NumV H' f v (mkN f n d) → Same H H' → Q v H'
theorem ok_law_num (T : Txt K mg) : FnOk P w K mg base CX0 2 T.law_num.f T.law_num.fd P_law_num sp_law_num := by
  refine T.law_num.F.ok sc_law_num (fun vs H Q E h => ?_) (fun cdv A outer s H vs Q E hr h => ?_)
  · obtain ⟨f, n, d, rfl, _⟩ := h; rfl
  · obtain ⟨f, n, d, rfl, hF, hn, hd, hz, k⟩ := h
    refine ⟨_, (pss_cons (ps_if (pt_cmpR op_gt (pv 0) pe_int (nomark _)) (pss_one (ps_ret (pe_ix (r := rIxL K) ix_list (pe_lc (own := [("k", 3)]) rfl sc_law_num.nd (pi_range1 rfl T.n_range (pa_cons (pv 0) pa_nil)) (blkOk_by (own := [("k", 3)]) (N := N_law_num) (sc := defScope s_law_num) (by decide +kernel)) (fun _ _ _ _ _ => (pg_name (i := 3) sc_law_num.nd rfl (Or.inl rfl))) (fun _ _ _ _ _ => pts_one (pt_cmpR op_eq (pe_op op_mod (pe_callTy call_int1 rfl T.n_int bo_int (pa_cons (pe_op op_sub (pe_op op_mulW (pv 3) (pv 2)) (pv 1)) pa_nil)) (pv 0)) pe_int (nomark _))) (fun _ _ _ _ _ => (pv 3))) pe_int (fun _ _ => rfl)))) pss_nil)
  (pss_cons (ps_set (i := 4) sc_law_num.nd rfl (Or.inl rfl) (pe_ifExp (pt_cmpR op_gt (pv 2) pe_int (nomark _)) (pe_call (ok_law_gcd T) (hr.mono (by decide)) rfl T.law_gcd.g T.law_gcd.F.kp (b_law_gcd T) .nil pass0 (pa_cons (pv 1) (pa_cons (pv 2) pa_nil))) (pe_op op_sub pe_int (pe_call (ok_law_gcd T) (hr.mono (by decide)) rfl T.law_gcd.g T.law_gcd.F.kp (b_law_gcd T) .nil pass0 (pa_cons (pv 1) (pa_cons (pv 2) pa_nil))))))
  (pss_one (ps_ret (pe_tup (pa_cons (pe_op op_fdivZ (pv 1) (pv 4)) (pa_cons (pe_op op_fdivZ (pv 2) (pv 4)) pa_nil))))))), ?_⟩
    walk_at "rd"
    unfold mkN at k
    unfold isZ at hz
    have h31 := hF.lt
    refine iteD (fun hf => ?_) (fun hf => ?_)
    · have hf0 : f ≠ 0 := by omega
      rw [if_neg hf0] at k hz
      have hdf : d % f ≠ 0 := of_decide_eq_false hz
      have hfm : f ∈ FieldsP := hF.resolve_left hf0
      have hk0 := Int.emod_nonneg (n * invP (d % f) f) hf0
      have hk1 := Int.emod_lt_of_pos (n * invP (d % f) f) hf
      walk_at "rd"
      have hD : ∀ k : Int, 0 ≤ k → k < f → ((k * d - n) % f = 0 ↔ k = n * invP (d % f) f % f) := fun k a b => num_one hfm hdf a b
      generalize n * invP (d % f) f % f = k0 at *
      refine ⟨by omega, by omega, fun D hDn => lc_range (lo := 0) (n := f.toNat) (fun i H' => H' = upd H D (.lst (if k0 < (i : Int) then [.int k0] else []))) ?_ ?_ ?_⟩
      · rw [if_neg (show ¬ k0 < ((0 : Nat) : Int) by omega)]
      · rintro i H' hi rfl
        walk_at "rd"
        refine ⟨wide_mul (a := 64) (b := 4000) (by omega) hd (by decide) (by decide) (by decide), ?_⟩
        walk_at "rd"
        refine iteV (fun hk => ?_) (fun hk => ?_)
        · have e := (hD (0 + (i : Int)) (by omega) (by omega)).mp hk
          walk_at "rd"
          refine ⟨_, upd_same, ?_, ?_⟩
          · rw [if_neg (by omega)]; decide
          · rw [if_neg (by omega), if_pos (show k0 < ((i + 1 : Nat) : Int) by omega), upd_upd, e]
            rfl
        · have e : ¬ (0 + (i : Int)) = k0 := fun z => hk ((hD (0 + (i : Int)) (by omega) (by omega)).mpr z)
          show upd H D _ = upd H D _
          by_cases h : k0 < (i : Int)
          · rw [if_pos h, if_pos (show k0 < ((i + 1 : Nat) : Int) by omega)]
          · rw [if_neg h, if_neg (show ¬ k0 < ((i + 1 : Nat) : Int) by omega)]
      · rintro H' rfl
        rw [if_pos (show k0 < (f.toNat : Int) by omega)]
        walk_at "rd"
        exact k _ _ (.inr ⟨hf0, rfl, rfl⟩) (same_upd hDn)
    · have hf0 : f = 0 := by omega
      rw [if_pos hf0] at k hz
      have d0 : d ≠ 0 := of_decide_eq_false hz
      have hg := sgnG_ne (n := n) d0
      have hl := sgnG_le (n := n) d0
      have hgb : (sgnG n d).natAbs < BB := Nat.lt_of_le_of_lt hl hd
      walk_at "rd"
      unfold lowQ at k
      refine iteD (fun hd0 => ?_) (fun hd0 => ?_)
      · have e : ((Nat.gcd n.natAbs d.natAbs : Nat) : Int) = sgnG n d := by unfold sgnG; rw [if_neg (by omega)]
        rw [← e] at k hg hgb
        walk_at "rd"
        refine ⟨hn, hd, ?_⟩
        walk_at "rd"
        refine ⟨cdivZ (b := 4000) hg hgb (by decide) (by decide), ?_⟩
        walk_at "rd"
        refine ⟨cdivZ (b := 4000) hg hgb (by decide) (by decide), ?_⟩
        refine ⟨two_line, fun p hp => ?_⟩
        exact k _ _ (.inl ⟨hf0, p, rfl, upd_same⟩) (same_upd hp)
      · have e : 0 - ((Nat.gcd n.natAbs d.natAbs : Nat) : Int) = sgnG n d := by unfold sgnG; rw [if_pos (by omega)]; omega
        rw [← e] at k hg hgb
        walk_at "rd"
        refine ⟨hn, hd, ?_⟩
        walk_at "rd"
        refine ⟨cdivZ (b := 4000) hg hgb (by decide) (by decide), ?_⟩
        walk_at "rd"
        refine ⟨cdivZ (b := 4000) hg hgb (by decide) (by decide), ?_⟩
        refine ⟨two_line, fun p hp => ?_⟩
        exact k _ _ (.inl ⟨hf0, p, rfl, upd_same⟩) (same_upd hp)
def sp_law_zero : Sp := fun vs H Q _ => ∃ f, vs = [.int f] ∧ 0 ≤ f ∧ ∀ v H', NumV H' f v (0, 1) → Same H H' → Q v H'
theorem ok_law_zero (T : Txt K mg) : FnOk P w K mg base CX0 1 T.law_zero.f T.law_zero.fd P_law_zero sp_law_zero := by
  refine T.law_zero.F.ok sc_law_zero (fun vs H Q E h => ?_) (fun cdv A outer s H vs Q E hr h => ?_)
  · obtain ⟨f, rfl, _⟩ := h; rfl
  · obtain ⟨f, rfl, f0, k⟩ := h
    refine ⟨_, (pss_one (ps_ret (pe_ifExp (pt_cmpR op_gt (pv 0) pe_int (nomark _)) pe_int (pe_tup (pa_cons pe_int (pa_cons pe_int pa_nil)))))), ?_⟩
    walk_at "rd"
    refine iteD (fun hf => ?_) (fun hf => ?_)
    · exact k _ _ (.inr ⟨by omega, rfl, rfl⟩) (Same.refl _)
    · refine ⟨two_line, fun p hp => ?_⟩
      exact k _ _ (.inl ⟨by omega, p, rfl, upd_same⟩) (same_upd hp)
end

section
variable {P : Program} {w : World} {K : PySem.W.Frag} {mg : Str → Option Value} {base : Heap}
theorem low_small {n d : Int} (h1 : -4 ≤ n) (h2 : n ≤ 4) (h3 : 1 ≤ d) (h4 : d ≤ 3) : (lowQ n d).1.natAbs ≤ 4 ∧ 0 < (lowQ n d).2 ∧ (lowQ n d).2.natAbs ≤ 3 ∧ Nat.gcd (lowQ n d).1.natAbs (lowQ n d).2.natAbs = 1 := by
  have e1 : n = -4 ∨ n = -3 ∨ n = -2 ∨ n = -1 ∨ n = 0 ∨ n = 1 ∨ n = 2 ∨ n = 3 ∨ n = 4 := by omega
  have e2 : d = 1 ∨ d = 2 ∨ d = 3 := by omega
  rcases e1 with rfl | rfl | rfl | rfl | rfl | rfl | rfl | rfl | rfl <;> rcases e2 with rfl | rfl | rfl <;> decide
/-- a drawn number: a small one -/
def NumS (f : Int) (x : Int × Int) : Prop := NumOk f x ∧ (f = 0 → x.1.natAbs ≤ 4 ∧ x.2.natAbs ≤ 3)
def sp_law_number (K : PySem.W.Frag) : Sp := fun vs H Q _ => ∃ (r sa : Addr) (ns : List Int) (f : Int), vs = [.ref r, .int f] ∧ FieldOk f ∧ RowAt K H r sa ns ∧ ∀ v x H', NumV H' f v x → NumS f x → RK K r sa ns H H' → Q v H'
theorem ok_law_number (T : Txt K mg) : FnOk P w K mg base CX0 3 T.law_number.f T.law_number.fd P_law_number (sp_law_number K) := by
  refine T.law_number.F.ok sc_law_number (fun vs H Q E h => ?_) (fun cdv A outer s H vs Q E hr h => ?_)
  · obtain ⟨r, sa, ns, f, rfl, _⟩ := h; rfl
  · obtain ⟨r, sa, ns, f, rfl, hf, hrow, k⟩ := h
    have hF := hf.isF
    have h31 := hF.lt
    refine ⟨_, (pss_cons (ps_if (pt_cmpR op_gt (pv 1) pe_int (nomark _)) (pss_one (ps_ret (pe_call (ok_law_taken T) (hr.mono (by decide)) rfl T.law_taken.g T.law_taken.F.kp (b_law_taken T) .nil pass0 (pa_cons (pv 0) (pa_cons (pv 1) pa_nil))))) pss_nil)
  (pss_one (ps_ret (pe_call (ok_law_num T) (hr.mono (by decide)) rfl T.law_num.g T.law_num.F.kp (b_law_num T) .nil pass0 (pa_cons pe_int (pa_cons (pe_op op_sub (pe_call (ok_law_taken T) (hr.mono (by decide)) rfl T.law_taken.g T.law_taken.F.kp (b_law_taken T) .nil pass0 (pa_cons (pv 0) (pa_cons pe_int pa_nil))) pe_int) (pa_cons (pe_op op_add pe_int (pe_call (ok_law_taken T) (hr.mono (by decide)) rfl T.law_taken.g T.law_taken.F.kp (b_law_taken T) .nil pass0 (pa_cons (pv 0) (pa_cons pe_int pa_nil)))) pa_nil))))))), ?_⟩
    walk_at "rd"
    refine iteD (fun h1 => ?_) (fun h1 => ?_)
    · walk_at "rd"
      refine ⟨r, sa, ns, f, rfl, hrow, by omega, by omega, fun v H' v0 v1 r1 b1 => ?_⟩
      have nf : f ≠ 0 := by omega
      exact k _ (v, 1) H' (.inr ⟨nf, rfl, rfl⟩) ⟨by unfold NumOk; rw [if_neg nf]; exact ⟨v0, v1, rfl⟩, fun z => absurd z nf⟩ ⟨fun b o nb e => (b1 b nb).trans e, r1⟩
    · have f0 : f = 0 := by omega
      subst f0
      walk_at "rd"
      refine ⟨r, sa, ns, 9, rfl, hrow, by omega, by omega, fun v H1 v0 v1 r1 b1 => ?_⟩
      walk_at "rd"
      refine ⟨r, sa, ns, 3, rfl, r1, by omega, by omega, fun u H2 u0 u1 r2 b2 => ?_⟩
      walk_at "rd"
      have hb : (5 : Nat) < BB := by decide +kernel
      obtain ⟨l1, l2, l3, l4⟩ := low_small (n := v - 4) (d := 1 + u) (by omega) (by omega) (by omega) (by omega)
      have hN : (5 : Nat) < NBn := by decide +kernel
      refine ⟨0, v - 4, 1 + u, rfl, .inl rfl, by omega, by omega, ?_, fun x H3 nx s3 => ?_⟩
      · unfold isZ
        rw [if_pos rfl]
        exact decide_eq_false (by omega)
      · refine k x (lowQ (v - 4) (1 + u)) H3 (by unfold mkN at nx; rw [if_pos rfl] at nx; exact nx) ⟨by unfold NumOk; rw [if_pos rfl]; exact ⟨by omega, l2, by omega, l4⟩, fun _ => ⟨l1, l3⟩⟩ ⟨fun b o nb e => s3 _ _ ((b2 b nb).trans ((b1 b nb).trans e)), r2.sm s3⟩
end

/-! ### sums of terms, as lists -/
abbrev Tm := (Int × Int) × List Int
abbrev Al2 := List (List Int × (Int × Int))
def getM : Al2 → List Int → Option (Int × Int)
  | [], _ => none
  | e :: r, m => if e.1 = m then some e.2 else getM r m
def putM (al : Al2) (m : List Int) (x : Int × Int) : Al2 :=
  if (al.any fun e => decide (e.1 = m)) = true then al.map (fun e => if e.1 = m then (e.1, x) else e) else al ++ [(m, x)]
def addT (f : Int) (al : Al2) (t : Tm) : Al2 := putM al t.2 (match getM al t.2 with | some y => addN f y t.1 | none => t.1)
def sumL (f : Int) (ts : List Tm) : Al2 := ts.foldl (addT f) []
/-- every number on the way can be passed -/
def SumOk (f : Int) (ts : List Tm) : Prop := ∀ k, ∀ e ∈ (ts.take k).foldl (addT f) [], NumOk f e.2
def inlK (m : List Int) : List L2.Key := m.map Sum.inl
theorem inlK_inj {a b : List Int} (h : inlK a = inlK b) : a = b := by
  unfold inlK at h
  induction a generalizing b with
  | nil => cases b with
    | nil => rfl
    | cons _ _ => cases h
  | cons x a ih => cases b with
    | nil => cases h
    | cons y b =>
      rw [List.map_cons, List.map_cons] at h
      injection h with h1 h2
      cases h1
      rw [ih h2]
theorem inlK_kV (m : List Int) : (inlK m).map kV = m.map V.int := by
  unfold inlK
  rw [List.map_map]
  rfl
/-- a dict whose keys are monomials, whose values are numbers -/
def KVs (H : Hp) (f : Int) (kvs : List (List L2.Key × V)) (al : Al2) : Prop := Paired (fun kv e => kv.1 = inlK e.1 ∧ NumV H f kv.2 e.2) kvs al
theorem KVs.ex {H H' : Hp} {f : Int} {kvs : List (List L2.Key × V)} {al : Al2} (h : KVs H f kvs al) (e : LamX.ExtN H H') : KVs H' f kvs al := Paired.mapP h fun _ _ z => ⟨z.1, z.2.ex e⟩
theorem kvs_len {H : Hp} {f : Int} : ∀ {kvs : List (List L2.Key × V)} {al : Al2}, KVs H f kvs al → kvs.length = al.length := fun h => Paired.length h
theorem kvs_get {H : Hp} {f : Int} {m : List Int} : ∀ {kvs : List (List L2.Key × V)} {al : Al2}, KVs H f kvs al → (valV kvs (inlK m) = none ∧ getM al m = none) ∨ ∃ v x, valV kvs (inlK m) = some v ∧ getM al m = some x ∧ NumV H f v x
  | [], [], _ => .inl ⟨rfl, rfl⟩
  | [], _ :: _, h => by cases h
  | _ :: _, [], h => by cases h
  | kv :: kvs, e :: al, h => by
    obtain ⟨⟨h1, h2⟩, t⟩ : (kv.1 = inlK e.1 ∧ NumV H f kv.2 e.2) ∧ KVs H f kvs al := by
      cases h with
      | cons a b => exact ⟨a, b⟩
    by_cases he : e.1 = m
    · refine .inr ⟨kv.2, e.2, valV_pos (by rw [h1, he]), ?_, h2⟩
      unfold getM
      rw [if_pos he]
    · have hk : ¬ kv.1 = inlK m := fun z => he (inlK_inj (h1.symm.trans z))
      rw [valV_neg hk]
      unfold getM
      rw [if_neg he]
      exact kvs_get t
theorem any_same {H : Hp} {f : Int} {m : List Int} : ∀ {kvs : List (List L2.Key × V)} {al : Al2}, KVs H f kvs al → (kvs.any fun kv => decide (kv.1 = inlK m)) = (al.any fun e => decide (e.1 = m))
  | [], [], _ => rfl
  | [], _ :: _, h => by cases h
  | _ :: _, [], h => by cases h
  | kv :: kvs, e :: al, h => by
    obtain ⟨⟨h1, h2⟩, t⟩ : (kv.1 = inlK e.1 ∧ NumV H f kv.2 e.2) ∧ KVs H f kvs al := by
      cases h with
      | cons a b => exact ⟨a, b⟩
    rw [List.any_cons, List.any_cons, any_same t]
    congr 1
    by_cases he : e.1 = m
    · rw [decide_eq_true he, decide_eq_true (by rw [h1, he])]
    · rw [decide_eq_false he, decide_eq_false fun z => he (inlK_inj (h1.symm.trans z))]
theorem kvs_map {H : Hp} {f : Int} {m : List Int} {v : V} {x : Int × Int} (n : NumV H f v x) : ∀ {kvs : List (List L2.Key × V)} {al : Al2}, KVs H f kvs al → KVs H f (kvs.map fun kv => if kv.1 = inlK m then (kv.1, v) else kv) (al.map fun e => if e.1 = m then (e.1, x) else e)
  | [], [], _ => .nil
  | [], _ :: _, h => by cases h
  | _ :: _, [], h => by cases h
  | kv :: kvs, e :: al, h => by
    obtain ⟨⟨h1, h2⟩, t⟩ : (kv.1 = inlK e.1 ∧ NumV H f kv.2 e.2) ∧ KVs H f kvs al := by
      cases h with
      | cons a b => exact ⟨a, b⟩
    rw [List.map_cons, List.map_cons]
    refine .cons ?_ (kvs_map n t)
    by_cases he : e.1 = m
    · rw [if_pos he, if_pos (by rw [h1, he])]; exact ⟨h1, n⟩
    · rw [if_neg he, if_neg fun z => he (inlK_inj (h1.symm.trans z))]; exact ⟨h1, h2⟩
theorem paired_app {α β : Type} {F : α → β → Prop} : ∀ {a : List α} {b : List β} {x : α} {y : β}, Paired F a b → F x y → Paired F (a ++ [x]) (b ++ [y])
  | [], [], _, _, _, h => .cons h .nil
  | [], _ :: _, _, _, h, _ => by cases h
  | _ :: _, [], _, _, h, _ => by cases h
  | _ :: _, _ :: _, _, _, h, g => by
    cases h with
    | cons a b => exact .cons a (paired_app b g)
theorem kvs_put {H : Hp} {f : Int} {m : List Int} {v : V} {x : Int × Int} {kvs : List (List L2.Key × V)} {al : Al2} (h : KVs H f kvs al) (n : NumV H f v x) : KVs H f (putK kvs (inlK m) v) (putM al m x) := by
  unfold putK putM
  rw [any_same h]
  by_cases c : (al.any fun e => decide (e.1 = m)) = true
  · rw [if_pos c, if_pos c]; exact kvs_map n h
  · rw [if_neg c, if_neg c]; exact paired_app h ⟨rfl, n⟩
/-! keys -/
theorem getM_any {m : List Int} : ∀ {al : Al2}, (al.any fun e => decide (e.1 = m)) = (getM al m).isSome
  | [] => rfl
  | e :: al => by
    rw [List.any_cons]
    unfold getM
    by_cases he : e.1 = m
    · rw [decide_eq_true he, if_pos he]; rfl
    · rw [decide_eq_false he, if_neg he, Bool.false_or]; exact getM_any
theorem putM_keys (al : Al2) (m : List Int) (x : Int × Int) : (putM al m x).map (·.1) = if (al.any fun e => decide (e.1 = m)) = true then al.map (·.1) else al.map (·.1) ++ [m] := by
  unfold putM
  by_cases c : (al.any fun e => decide (e.1 = m)) = true
  · rw [if_pos c, if_pos c, List.map_map]
    refine List.map_congr_left fun e _ => ?_
    show (if e.1 = m then (e.1, x) else e).1 = e.1
    split <;> rfl
  · rw [if_neg c, if_neg c, List.map_append]; rfl
theorem putM_nodup {al : Al2} (h : (al.map (·.1)).Nodup) (m : List Int) (x : Int × Int) : ((putM al m x).map (·.1)).Nodup := by
  rw [putM_keys]
  by_cases c : (al.any fun e => decide (e.1 = m)) = true
  · rw [if_pos c]; exact h
  · rw [if_neg c, List.nodup_append]
    refine ⟨h, by simp, fun a ha b hb e => c ?_⟩
    rw [List.mem_singleton] at hb
    subst hb e
    obtain ⟨y, hy, rfl⟩ := List.mem_map.mp ha
    rw [List.any_eq_true]
    exact ⟨y, hy, by simp⟩
theorem putM_len (al : Al2) (m : List Int) (x : Int × Int) : (putM al m x).length ≤ al.length + 1 := by
  unfold putM
  split
  · rw [List.length_map]; omega
  · rw [List.length_append]; exact Nat.le_refl _
theorem mem_putM {al : Al2} {m : List Int} {x : Int × Int} {e : List Int × (Int × Int)} (h : e ∈ putM al m x) : e ∈ al ∨ e = (m, x) := by
  unfold putM at h
  split at h
  · obtain ⟨y, hy, rfl⟩ := List.mem_map.mp h
    by_cases c : y.1 = m
    · rw [if_pos c]; exact .inr (by rw [← c])
    · rw [if_neg c]; exact .inl hy
  · rcases List.mem_append.mp h with h | h
    · exact .inl h
    · exact .inr (List.mem_singleton.mp h)
theorem getM_put (al : Al2) (m k : List Int) (x : Int × Int) : getM (putM al m x) k = if k = m then some x else getM al k := by
  have gmap : ∀ al : Al2, (al.any fun e => decide (e.1 = m)) = true ∨ True → getM (al.map fun e => if e.1 = m then (e.1, x) else e) k = (getM al k).map fun y => if k = m then x else y := by
    intro al _
    induction al with
    | nil => rfl
    | cons e al ih =>
      rw [List.map_cons]
      unfold getM
      by_cases he : e.1 = k
      · by_cases hm : e.1 = m
        · rw [if_pos hm, if_pos he, if_pos he]
          show some x = some (if k = m then x else e.2)
          rw [if_pos (by rw [← he, hm])]
        · rw [if_neg hm, if_pos he, if_pos he]
          show some e.2 = some (if k = m then x else e.2)
          rw [if_neg (by rw [← he]; exact hm)]
      · have hx : (if e.1 = m then (e.1, x) else e).1 = e.1 := by split <;> rfl
        rw [hx, if_neg he, if_neg he]
        exact ih (.inr trivial)
  have gapp : ∀ al : Al2, getM (al ++ [(m, x)]) k = match getM al k with | some y => some y | none => if k = m then some x else none := by
    intro al
    induction al with
    | nil =>
      show (if m = k then some x else none) = _
      by_cases h : m = k
      · rw [if_pos h]; show _ = if k = m then some x else none; rw [if_pos h.symm]
      · rw [if_neg h]; show _ = if k = m then some x else none; rw [if_neg (fun z => h z.symm)]
    | cons e al ih =>
      rw [List.cons_append]
      unfold getM
      by_cases he : e.1 = k
      · rw [if_pos he, if_pos he]
      · rw [if_neg he, if_neg he]; exact ih
  unfold putM
  by_cases c : (al.any fun e => decide (e.1 = m)) = true
  · rw [if_pos c, gmap al (.inl c)]
    by_cases hk : k = m
    · subst hk
      rw [if_pos rfl]
      rw [getM_any] at c
      obtain ⟨y, hy⟩ := Option.isSome_iff_exists.mp c
      rw [hy]
      show some (if k = k then x else y) = some x
      rw [if_pos rfl]
    · rw [if_neg hk]
      cases h : getM al k with
      | none => rfl
      | some y => show some (if k = m then x else y) = some y; rw [if_neg hk]
  · rw [if_neg c, gapp]
    rw [getM_any] at c
    by_cases hk : k = m
    · subst hk
      have : getM al k = none := by
        cases h : getM al k with
        | none => rfl
        | some y => rw [h] at c; exact absurd rfl c
      rw [this, if_pos rfl]
    · simp only [if_neg hk]
      cases getM al k <;> rfl
/-! the whole sum -/
theorem fold_nodup (f : Int) : ∀ (ts : List Tm) (al : Al2), (al.map (·.1)).Nodup → ((ts.foldl (addT f) al).map (·.1)).Nodup
  | [], _, h => h
  | t :: ts, al, h => fold_nodup f ts _ (putM_nodup h _ _)
theorem sum_nodup (f : Int) (ts : List Tm) : ((sumL f ts).map (·.1)).Nodup := fold_nodup f ts [] .nil
theorem fold_len (f : Int) : ∀ (ts : List Tm) (al : Al2), (ts.foldl (addT f) al).length ≤ al.length + ts.length
  | [], _ => by simp
  | t :: ts, al => by
    have := fold_len f ts (addT f al t)
    have h2 : (addT f al t).length ≤ al.length + 1 := putM_len _ _ _
    rw [List.foldl_cons, List.length_cons]
    omega
theorem sum_len (f : Int) (ts : List Tm) : (sumL f ts).length ≤ ts.length := by
  have := fold_len f ts []
  simpa [sumL] using this
theorem fold_key (f : Int) {p : List Int → Prop} : ∀ (ts : List Tm) (al : Al2), (∀ e ∈ al, p e.1) → (∀ t ∈ ts, p t.2) → ∀ e ∈ ts.foldl (addT f) al, p e.1
  | [], _, h, _ => h
  | t :: ts, al, h, g => fold_key f ts _ (fun e he => by
      rcases mem_putM he with h1 | rfl
      · exact h e h1
      · exact g t List.mem_cons_self) fun u hu => g u (List.mem_cons_of_mem _ hu)
theorem sum_key {f : Int} {ts : List Tm} {p : List Int → Prop} (g : ∀ t ∈ ts, p t.2) : ∀ e ∈ sumL f ts, p e.1 := fold_key f ts [] (by simp) g
/-- the terms of a sum, those that are zero left out -/
def keptL (f : Int) (ts : List Tm) : List Tm := ((sumL f ts).filter fun e => decide (e.2.1 ≠ 0)).map fun e => (e.2, e.1)
def geT (n : Nat) (rs : List (List Int)) (a b : Tm) : Bool := decide (codeR n rs b.2 ≤ codeR n rs a.2)
def polyL (f : Int) (n : Nat) (rs : List (List Int)) (ts : List Tm) : List Tm := (keptL f ts).mergeSort (geT n rs)
theorem poly_perm (f : Int) (n : Nat) (rs : List (List Int)) (ts : List Tm) : (polyL f n rs ts).Perm (keptL f ts) := List.mergeSort_perm _ _
theorem geT_trans (n : Nat) (rs : List (List Int)) : ∀ a b c : Tm, geT n rs a b = true → geT n rs b c = true → geT n rs a c = true := fun a b c h1 h2 => by
  unfold geT at *
  rw [decide_eq_true_eq] at *
  omega
theorem geT_total (n : Nat) (rs : List (List Int)) : ∀ a b : Tm, (geT n rs a b || geT n rs b a) = true := fun a b => by
  unfold geT
  rw [Bool.or_eq_true, decide_eq_true_eq, decide_eq_true_eq]
  omega
theorem poly_pair (f : Int) (n : Nat) (rs : List (List Int)) (ts : List Tm) : (polyL f n rs ts).Pairwise fun a b => geT n rs a b = true := List.pairwise_mergeSort (geT_trans n rs) (geT_total n rs) _
theorem kept_nodup (f : Int) (ts : List Tm) : ((keptL f ts).map (·.2)).Nodup := by
  unfold keptL
  rw [List.map_map]
  have h := sum_nodup f ts
  exact ((List.filter_sublist (l := sumL f ts) (p := fun e => decide (e.2.1 ≠ 0))).map _).nodup h

theorem pg_tupK {X : Cx} {K : PySem.W.Frag} {es : List Expr} {k : Nat} {pos : Pos} {t : TGs} {n : Nat} (hK : X.K = K) (hc : X.calm = true) (h : PGs X es t)
    (hn : (assignEach es X.env).length = n := by rfl) (hst : (assignEach es X.env).findIdx? (·.1) = none := by rfl) : PG X (.Tuple es k pos) (gTup K n t) := by
  subst hK
  exact pg_tup hc h hn hst
theorem walk_zipTT {K : PySem.W.Frag} {a b : Addr} {xs ys : List V} {n : Nat} (hn : n = min xs.length ys.length) : Walk (RZ.ItzT K a b) n (fun H => SqT K H a xs ∧ SqT K H b ys) (YPair (fun i => xs[i]?) (fun i => ys[i]?)) := by
  refine ⟨fun i H hi h => ?_, fun H h => ?_, fun i H x H' hi h q => ?_⟩
  · have h1 : i < xs.length := by omega
    have h2 : i < ys.length := by omega
    exact ⟨xs, ys, _, _, h.1, h.2, List.getElem?_eq_getElem h1, List.getElem?_eq_getElem h2⟩
  · exact ⟨xs, ys, h.1, h.2, by omega⟩
  · obtain ⟨T, x1, y1, e1, e2, e3, e4, e5⟩ := q
    exact ⟨T, x1, y1, e1, e2, e3, e4 _ h.1, e5 _ h.2⟩

/-! ### sorted(xs, key=lambda ..., reverse=True) -/
section
open PySem.Spec PyProof.Rows LamX NdefX
variable {X : Cx}
def tSortFR (X : Cx) (te tl : TE) : TE := fun σ H Q => tCons te tNil σ H fun vs H1 => tCons tl (tCons (tC (.bl true)) tNil) σ H1 fun zs H2 => ∃ (a f : Addr) (bs : List (V × Int)), vs = [.ref a] ∧ zs = [.ref f, .bl true] ∧ SqL X.K H2 a (bs.map (·.1)) ∧ KeyF X σ H2 f bs ∧
  ∀ p, H2 p = none → Q (.ref p) (upd H2 p (.lst ((bs.mergeSort (PySem.W.dataLe true fun b => .int b.2)).map (·.1))))
theorem pe_sortFR {e fe : Expr} {te tl : TE} {p pos kpos cpos rpos : Pos} {cj k : Nat} (hr : Room k X.A) (hg : Gl X "sorted") (hm : X.mg "sorted" = none) (hv : bootBuiltins "sorted" = some (.builtin "sorted")) (he : PE X e te) (hl : PE X fe tl)
    (q0 : starEach [e] X.env = (false, eval e X.env) :: starEach [] X.env := by rfl)
    (q1 : backTo pos (starEach [e] X.env) = (false, eval e X.env) :: backTo pos (starEach [] X.env) := by rfl) (q2 : (backTo pos (starEach [e] X.env)).any (·.1) = false := by rfl)
    (q3 : (backToKw pos (keywordEach [⟨some "key", fe, kpos⟩, ⟨some "reverse", .Constant (.bool true) cj cpos, rpos⟩] X.env)).all (·.1.isSome) = true := by rfl) (q4 : (backToKw pos (keywordEach [⟨some "key", fe, kpos⟩, ⟨some "reverse", .Constant (.bool true) cj cpos, rpos⟩] X.env)).any (·.1.isNone) = false := by rfl)
    (q5 : (backToKw pos (keywordEach [⟨some "key", fe, kpos⟩, ⟨some "reverse", .Constant (.bool true) cj cpos, rpos⟩] X.env)).filterMap (·.1) = [Str.ofString "key", Str.ofString "reverse"] := by rfl) :
    PE X (.Call (.Name "sorted" p) [e] [⟨some "key", fe, kpos⟩, ⟨some "reverse", .Constant (.bool true) cj cpos, rpos⟩] pos) (tSortFR X te tl) := by
  refine ⟨fun pins s σ H Q I h => wpAny_Call_Name_kw (ld_blt I hg hm hv ?_)⟩
  have ha := pa_cons (X := X) he pa_nil q0
  have hk := pk_cons (X := X) (nm := some "key") (kpos := kpos) hl (pk_cons (X := X) (nm := some "reverse") (kpos := rpos) (pe_bl (X := X) (b := true) (j := cj) (pos := cpos)) pk_nil)
  refine PyProof.Rows.callWith_kw (thn (ha.run pos pins s σ H _ I h) fun us s1 ⟨vs, H1, I1, r1, h1⟩ => thn (hk.run pos pins s1 σ H1 _ I1 h1) fun ws s2 ⟨zs, H2, I2, r2, a, f, bs, ev, ez, hs, hf, q⟩ => ?_) q1 q2 q3 q4
  rw [q5]
  subst ev ez
  obtain rfl := Vals.ref1 r1
  obtain ⟨w1, w2, rfl, e1, e2⟩ := vals2 r2
  obtain rfl : w1 = Value.ref f := e1
  obtain rfl : w2 = Value.bool true := e2
  obtain ⟨its, rv, hli, hz⟩ := I2.list hs
  have e := each_of (g := fun b : V × Int => b.1) rv
  have hzb : bs.length ≤ sizeLine := by rw [List.length_map] at hz; exact hz
  have St := stay_all (h1 := s2.heap) I2.mod fun b o q => I2.bk b o q
  refine PySem.W.sorted_key_data (R := fun v (b : V × Int) => RelV b.1 v) (b := true) (f := .ref f) (kw := [(Str.ofString "key", .ref f), (Str.ofString "reverse", .bool true)]) (fun b => .int b.2) hli.isList e (alike_ints _ bs) (sortable_ints _ bs) hzb (fun b hb => ?_) (PyProof.Rows.ksk_s2 _ _ _) (fun _ => PyProof.Rows.ksk_l2 _ _ _) (fun x => PyProof.Rows.ksk_t2 _ _ _) (fun v b rr hb h tk hk2 => ?_) fun out c h' tk hk2 hfr hat hol ho => ?_
  · have := hr.units
    show X.A.units + 2 + (PyData.int b.2).depth < cLine
    simp only [PyData.depth]
    omega
  · refine wpAny_call (codeAny_mono (hf _ pins s2 St I2 (fun h q => q) b hb v rr X.A.in1.in1 { s2 with heap := h, toks := tk } hr.hd (Nat.le_refl _) (Nat.le_refl _) hk2) fun rr s3 w1 => ?_)
    cases rr with
    | error e => exact False.elim w1
    | ok fl =>
      cases fl with
      | ret y =>
        obtain ⟨⟨t, rfl⟩, h2, tk2, e2, k2⟩ := w1
        exact ⟨h2, tk2, e2, k2, .int _ _⟩
      | next => exact False.elim w1
      | brk => exact False.elim w1
      | cont => exact False.elim w1
  · have hlen : ((bs.mergeSort (PySem.W.dataLe true fun b => .int b.2)).map (·.1)).length ≤ sizeLine := by rw [List.length_map, (List.mergeSort_perm _ _).length_eq]; exact hzb
    exact ⟨.ref _, _, I2.laid (t' := tk) (o := .lst ((bs.mergeSort (PySem.W.dataLe true fun b => .int b.2)).map (·.1))) hk2 (Nat.le_succ _) ⟨hlen, out, c, vals_of_each ho, hat⟩, rfl, q _ (I2.hok.fresh (Nat.le_succ _))⟩
end

/-! ### for k, v in d.items(), the keys tuples; the dict is locked -/
section
open PySem.Spec PyProof.Rows
variable {X : Cx} {pins : List (Addr × Obj)} {σ : L2.St} {H : Hp} {s : Shared} {d : Addr} {o : Obj}
theorem frzT2 {kvs : List (List L2.Key × V)} (I : Inv X pins σ H s) (h : H d = some (.frz o (.dT kvs))) :
    (d == sysModules) = false ∧ s.heap.get? d = some o ∧ o.ExactDict ∧ ∃ (es : Array DictEntry) (ep : Nat), o.data = .dict es ep ∧ es.size = kvs.length ∧
      ∀ (i : Nat) (k : List L2.Key) (v : V), kvs[i]? = some (k, v) → ∃ (en : DictEntry) (q : Addr), es[i]? = some en ∧ en.key = .ref q ∧ H q = some (.tup (k.map kV)) ∧ RelV v en.val := by
  obtain ⟨hd, z, hs, xs, pr, o', es, ep, ho, hx, hdt, he, _⟩ := I.hok d _ h
  rw [hd] at ho
  cases ho
  refine ⟨hs, hd, hx, es, ep, hdt, ?_, fun i k v e => ?_⟩
  · have l1 : es.size = xs.length := size_of_entries he
    have l2 : kvs.length = xs.length := Paired.length pr
    omega
  · obtain ⟨b, hb, e1, e2, e3⟩ := paired_get pr e
    have q := entry_at he i
    rw [hb] at q
    exact ⟨_, b.2.1, q, rfl, e2, e3⟩
def ItiT (d : Addr) (o : Obj) (kvs : List (List L2.Key × V)) : It :=
  ⟨fun i H => H d = some (.frz o (.dT kvs)) ∧ i < kvs.length, fun i H x H' => ∃ (T q : Addr) (k : List L2.Key) (v : V), kvs[i]? = some (k, v) ∧ x = .ref T ∧ H q = some (.tup (k.map kV)) ∧ H T = none ∧ H' = upd H T (.tup [.ref q, v]), fun i H => H d = some (.frz o (.dT kvs)) ∧ kvs.length ≤ i⟩
theorem turn_itemsT {P : Program} {w : World} {K : PySem.W.Frag} {kvs : List (List L2.Key × V)} {elts : List Expr} {kk : Nat} {tpos : Pos} {es : Array DictEntry} {ep : Nat} (it : Addr) (hod : o.data = .dict es ep) :
    Turn P w K (.Tuple elts kk tpos) (ItiT d o kvs) [it] it (fun i h => ∃ ok ov, IsItemIter h it d i kvs.length ep ok ov) where
  mem := by simp
  obj := fun i h st b hb => by
    have e : b = it := by simpa using hb
    subst e
    obtain ⟨ok, ov, e⟩ := st
    exact ⟨_, e, fun v z => nomatch z⟩
  keep := fun i h h' st k => let ⟨ok, ov, e⟩ := st; ⟨ok, ov, k it (by simp) _ e⟩
  item := by
    intro X hP hw hK hc i pins s σ H E I hf st hg
    subst hP hw hK
    obtain ⟨hd, hi⟩ := hg
    obtain ⟨hs, hgd, hx, es', ep', hdt, hsz, kv⟩ := frzT2 I hd
    obtain ⟨rfl, rfl⟩ := dict_ep hod hdt
    obtain ⟨⟨k, v⟩, hkv⟩ : ∃ p, kvs[i]? = some p := ⟨kvs[i], List.getElem?_eq_getElem hi⟩
    obtain ⟨en, q, hen, hq, hH, ru⟩ := kv i k v hkv
    obtain ⟨ok, ov, he⟩ := st
    rw [← hsz] at he
    have hi' : i < es'.size := by rw [hsz]; exact hi
    have een : es'[i] = en := by
      rw [Array.getElem?_eq_getElem hi'] at hen
      exact Option.some.inj hen
    have hlt : it < s.heap.objs.size := Heap.lt_size he
    refine DT.nextI he ⟨o, hgd, hx, hdt⟩ hi' fun h' ho hT hz hk => ?_
    refine ⟨_, rfl, wpAny_letOwnedTupleGo_items (s := { s with heap := h' }) ho fun h'' he' sb => ?_⟩
    rw [een] at hT he'
    have hT2 : h''.get? s.heap.objs.size = some { cls := .type "tuple", data := .seq #[en.key, en.val] } := (sb.2 _ (Nat.ne_of_gt hlt)).trans hT
    have rk : RelV (.ref q) en.key := by rw [hq]; rfl
    have new : ObjOk X.prog X.w (upd H s.heap.objs.size (.tup [.ref q, v])) h'' s.heap.objs.size (.tup [.ref q, v]) :=
      ⟨by show 2 ≤ sizeLine; decide, [en.key, en.val], .cons rk (.cons ru .nil), ⟨_, hT2, rfl, _, rfl⟩⟩
    have I1 : Inv X pins σ (upd H s.heap.objs.size (.tup [.ref q, v])) { s with heap := h'' } :=
      I.turnedNew (t' := s.toks) (ch := [it]) (fun b ob hb e => (sb.2 b (by simpa using hb)).trans (hk b ob (by simpa using hb) e)) hf (Nat.le_refl _) new
    refine ⟨.ref s.heap.objs.size, _, I1, rfl, ⟨_, q, k, v, hkv, rfl, hH, I.hok.fresh (Nat.le_refl _), rfl⟩, ⟨en.key, en.val, ?_⟩, fun b hb => ?_⟩
    · rw [← hsz]; exact he'
    · have e : b = it := by simpa using hb
      rw [e, upd_ne (Nat.ne_of_lt hlt)]
      exact (hf it (by simp)).1
  done := by
    intro X hP hw hK hc i pins s σ H E I hf st hg
    subst hP hw hK
    obtain ⟨hd, hi⟩ := hg
    obtain ⟨f0, f1, f2, f3, f4, f5⟩ := hf it (by simp)
    obtain ⟨hs, hgd, hx, es', ep', hdt, hsz, kv⟩ := frzT2 I hd
    obtain ⟨rfl, rfl⟩ := dict_ep hod hdt
    obtain ⟨ok, ov, he⟩ := st
    rw [← hsz] at he
    exact DT.endI (I.ok.hd hc) he ⟨o, hgd, hx, hdt⟩ (by rw [hsz]; exact hi) fun h' eb => ⟨rfl, I.turned (t' := s.toks) (fun b ob hb e => eb b ob hb e) f0 f1 f3 f4 f5⟩
  self := fun A i s Q E st h => let ⟨_, _, e⟩ := st; PySem.W.kcp_self e h
def iItemsT (td : TE) : TI := fun σ H R => td σ H fun x H1 => ∃ d o kvs, x = .ref d ∧ H1 d = some (.frz o (.dT kvs)) ∧ R (ItiT d o kvs) H1
theorem pi_itemsT {e : Expr} {td : TE} {apos cpos : Pos} {elts : List Expr} {kk : Nat} {tpos : Pos} (he : PE X e td) (hbase : attributeBase e "items" X.env (eval e X.env) = eval e X.env := by rfl) (hline : (apos.endLine == cpos.line) = true := by rfl) :
    PI X (.Tuple elts kk tpos) (.Call (.Attribute e "items" apos) [] [] cpos) (iItemsT td) := by
  refine ⟨fun pins s σ H R I h => ?_⟩
  refine wpAny_Call_method (T := "dict") (id := "dict.items") hbase rfl hline PySem.F.plainAttrs_dict PySem.F.slot_dict_items PySem.F.type_dict_items (thn (he.run pins s σ H _ I h) fun u s1 ⟨x, H1, I1, rx, d, o, kvs, ex, hd, q⟩ => ?_)
  subst ex
  obtain rfl : u = Value.ref d := rx
  obtain ⟨hs, hgd, hx, es, ep, hdt, hsz, kv⟩ := frzT2 I1 hd
  have raw : DT.Raw s1.heap d es ep := ⟨o, hgd, hx, hdt⟩
  refine ⟨raw.typeIs, fun a e => by
    cases e
    obtain ⟨o', ho, hc, _⟩ := id raw
    exact ⟨o', ho, by first | exact hc.2 | exact hc.2.1 | exact hc.2.2⟩, ?_⟩
  have I2 : Inv X pins σ H1 { s1 with heap := s1.heap.push { cls := .type "dict_items", data := .fields #[.ref d] } } := I1.kept (t' := s1.toks) fun b ob q => Heap.get?_push_of_some _ q
  have fin : wpAny (model X.prog X.w) X.A (pyIter (.ref s1.heap.objs.size)) (PIE X pins σ (.Tuple elts kk tpos) R) X.xe { s1 with heap := s1.heap.push { cls := .type "dict_items", data := .fields #[.ref d] } } := by
    refine DT.iterI (d := d) (es := es) (ep := ep) ⟨_, Heap.get?_push_size _ rfl, rfl, rfl⟩ (raw.push _) (pi_one (tk := s1.toks) I2 _ (turn_itemsT _ hdt) ⟨.none, .none, ?_⟩ q)
    rw [← hsz]
    exact Heap.get?_push_size _ rfl
  show wpAny _ _ (callWith cpos (.builtin "dict.items") [.ref d] [] []) _ X.xe s1
  exact method_meetsIn PySem.F.slot_dict_items PySem.F.entry_dict_items rfl (PySem.evalArgs_none ⟨rfl, raw.typeIs, PySem.F.args_dict_items_1 _, _, DT.meetsItems (es := es) (ep := ep) hs, ⟨raw, fin⟩⟩)
end

/-! ### t[j], read plainly -/
section
open PySem.Spec PyProof.Rows
variable {P : Program} {w : World} {K : PySem.W.Frag} {mg : Str → Option Value} {Φ : Heap → Prop} {cenv : Env} {m : Str → Option Value} {D U : Nat}
theorem pu_ix {a b : Expr} {pos : Pos} {p : Addr} {its : Array Value} {j : Nat} {x : Value} (S : Stay K mg Φ) (ha : PuE P w Φ cenv m D U a (· = .ref p)) (hb : PuE P w Φ cenv m D U b (fun y => ∃ t, y = .int (j : Int) t)) (ht : ∀ h, Φ h → IsTup h p its) (hj : its[j]? = some x) (hz : its.size ≤ sizeLine)
    (hs : PlainIx b) : PuE P w Φ cenv m D U (.Subscript a b pos) (· = x) := by
  intro A E s h1 h2 h3 hf hn
  have hlt : j < its.size := by
    by_cases h : j < its.size
    · exact h
    · rw [Array.getElem?_eq_none (by omega)] at hj; cases hj
  have hn63 := line63
  refine Subscript_ (wpAny_mono (ha A E s h1 h2 h3 hf hn) (fun v s1 q => ?_) fun _ _ z => z)
  obtain ⟨rfl, k1⟩ := q
  refine wpAny_mono (hb A E s1 h1 h2 h3 (S.up _ _ hf (keepsH k1)) (hn.at' fun o e => keepsH k1 _ o e)) (fun u s2 q2 => ?_) fun _ _ z => z
  obtain ⟨⟨t, rfl⟩, k2⟩ := q2
  have pl : IsTup s2.heap p its := ht _ (S.up _ _ (S.up _ _ hf (keepsH k1)) (keepsH k2))
  exact subscriptTail_builtinR (x := x) pl.typeIs slot_tuple_getitem.lookup
    (getItem_tuple (j := j) (Q := fun r s' => r = x ∧ (r = x ∧ Keeps s s')) pl (by omega) (by omega) (by unfold seqIndex?; first | (simp; omega) | simp [hlt] | (split <;> simp_all <;> omega)) hj ⟨rfl, rfl, keepsT k1 k2⟩) (hs _ _)
end

/-! ### the sum of terms -/
/-- tuples stay, as they stand -/
def Tq (H H' : Hp) : Prop := ∀ b xs, (H b = some (.tup xs) → H' b = some (.tup xs)) ∧ ∀ o, H b = some (.frz o (.tup xs)) → H' b = some (.frz o (.tup xs))
theorem Tq.refl (H : Hp) : Tq H H := fun _ _ => ⟨fun h => h, fun _ h => h⟩
theorem Tq.trans {H H1 H2 : Hp} (a : Tq H H1) (b : Tq H1 H2) : Tq H H2 := fun c xs => ⟨fun h => (b c xs).1 ((a c xs).1 h), fun o h => (b c xs).2 o ((a c xs).2 o h)⟩
theorem Tq.tp {H H' : Hp} (a : Tq H H') : Tp H H' := fun b xs h => by
  rcases h with h | ⟨o, h⟩
  · exact .inl ((a b xs).1 h)
  · exact .inr ⟨o, (a b xs).2 o h⟩
theorem tq_ext {H H' : Hp} (e : LamX.ExtN H H') : Tq H H' := fun _ _ => ⟨fun h => e _ _ h fun ps z => (by cases z), fun _ h => e _ _ h fun ps z => by cases z⟩
theorem tq_same {H H' : Hp} (s : Same H H') : Tq H H' := fun _ _ => ⟨fun h => s _ _ h, fun _ h => s _ _ h⟩
/-- what stands at d is no tuple -/
def noTup : HO → Prop
  | .tup _ => False
  | .frz _ (.tup _) => False
  | _ => True
theorem tq_upd {H : Hp} {d : Addr} {o o' : HO} (h : H d = some o) (n : noTup o) : Tq H (upd H d o') := fun b xs => by
  have ne : ∀ {u}, H b = some u → ¬ noTup u → b ≠ d := fun {u} e z e2 => by
    subst e2
    rw [h] at e
    cases e
    exact z n
  exact ⟨fun e => (upd_ne (ne e fun z => z)).trans e, fun o e => (upd_ne (ne e fun z => z)).trans e⟩
theorem tq_new {H : Hp} {d : Addr} {o : HO} (h : H d = none) : Tq H (upd H d o) := tq_same (same_upd h)
theorem NumV.tq {H H' : Hp} {f : Int} {v : V} {x : Int × Int} (h : NumV H f v x) (e : Tq H H') : NumV H' f v x := by
  rcases h with ⟨h, p, e1, q⟩ | h
  · exact .inl ⟨h, p, e1, (e _ _).1 q⟩
  · exact .inr h
theorem TermV.tq {K : PySem.W.Frag} {H H' : Hp} {f : Int} {v : V} {t : Tm} (h : TermV K H f v t) (e : Tq H H') : TermV K H' f v t := by
  obtain ⟨tp, M, nv, rfl, h1, h2, h3⟩ := h
  exact ⟨tp, M, nv, rfl, e.tp.sqt h1, h2.tq e, (e _ _).1 h3⟩
theorem PolyV.tq {K : PySem.W.Frag} {H H' : Hp} {f : Int} {v : V} {ts : List Tm} (h : PolyV K H f v ts) (e : Tq H H') : PolyV K H' f v ts := by
  obtain ⟨pa, vs, rfl, h1, h2, h3⟩ := h
  exact ⟨pa, vs, rfl, e.tp.sqt h1, h2, fun i v t a b => (h3 i v t a b).tq e⟩
theorem KVs.tq {H H' : Hp} {f : Int} {kvs : List (List L2.Key × V)} {al : Al2} (h : KVs H f kvs al) (e : Tq H H') : KVs H' f kvs al := Paired.mapP h fun _ _ z => ⟨z.1, z.2.tq e⟩
/-- at d there was nothing but perhaps a table -/
def NT (H : Hp) (d : Addr) : Prop := ∀ o, H d = some o → ∃ ps, o = .tbl ps
theorem NT.of {H : Hp} {d : Addr} (h : H d = none) : NT H d := fun o e => by rw [h] at e; cases e
theorem Ex.nt {t : TabsAt} {H H' : Hp} {d : Addr} (x : Ex t H H') (h : H' d = none) : NT H d := fun o e => by
  by_cases c : ∃ ps, o = .tbl ps
  · exact c
  · have := x.keep _ _ e fun ps z => c ⟨ps, z⟩
    rw [h] at this; cases this
/-- an own new object that is neither a table nor code may be written -/
theorem Ex.put {t : TabsAt} {H H' : Hp} {d : Addr} {o o' : HO} (x : Ex t H H') (hd : NT H d) (h' : H' d = some o') (n1 : ∀ ps, o' ≠ .tbl ps) (n2 : ∀ φ, o' ≠ .ext φ) : Ex t H (upd H' d o) := by
  have k : ∀ {b u}, H' b = some u → ((∃ ps, u = .tbl ps) ∨ ∃ φ, u = .ext φ) → upd H' d o b = some u := fun {b u} e z => by
    rw [upd_ne fun y => ?_]
    · exact e
    · subst y
      rw [h'] at e
      cases e
      rcases z with ⟨ps, z⟩ | ⟨φ, z⟩
      · exact n1 ps z
      · exact n2 φ z
  refine ⟨fun b u e n => (upd_ne fun z => (by subst z; obtain ⟨ps, q⟩ := hd u e; exact n ps q)).trans (x.keep b u e n), ⟨fun y hy => ?_, fun y hy z hz => ?_⟩⟩
  · obtain ⟨ps, h1, h2⟩ := x.ts.g y hy
    exact ⟨ps, k h1 (.inl ⟨ps, rfl⟩), h2⟩
  · obtain ⟨ps, a1, a2, a3⟩ := x.ts.l y hy z hz
    refine ⟨ps, k a1 (.inl ⟨ps, rfl⟩), a2, fun pos cv hcv => ?_⟩
    obtain ⟨cz, q1, q2⟩ := a3 pos cv hcv
    exact ⟨cz, q1, k q2 (.inr ⟨_, rfl⟩)⟩
theorem lx_sum : ("sum_of_terms" : Str) ∈ lamsL := by decide
theorem gx_sum : ("sum_of_terms" : Str) ∉ gensL := by decide
def lamK : Expr := match rvOf (stN s_sum_of_terms 5) with
  | .Call _ (.Call _ _ (k :: _) _ :: _) _ _ => k.value
  | _ => .Constant .none 0 ⟨0, 0, 0, 0⟩
def laA (e : Expr) : Arguments := match e with
  | .Lambda a _ _ _ => a
  | _ => { posonlyargs := [], args := [], vararg := none, kwonlyargs := [], kw_defaults := [], kwarg := none, defaults := [] }
def laB (e : Expr) : Expr := match e with
  | .Lambda _ b _ _ => b
  | _ => .Constant .none 0 ⟨0, 0, 0, 0⟩
def laS (e : Expr) : Scope := match e with
  | .Lambda _ _ s _ => s
  | _ => { kind := .function, names := [], isGenerator := false, isCoroutine := false }
theorem free_sum_of_terms {env : Env} (h : env.scope = defScope s_sum_of_terms := by rfl) : ∀ y ∈ (laS lamK).names, y.2 = .free → env.kindOf y.1 = some .cell ∨ env.kindOf y.1 = some .free := fun y hy e => by
  have q : ∀ y ∈ (laS lamK).names, y.2 = .free → (defScope s_sum_of_terms).names.lookup y.1 = some .cell := by decide +kernel
  refine .inl ?_
  show env.scope.names.lookup y.1 = _
  rw [h]
  exact q y hy e
theorem walk_itemsT {d : Addr} {o : Obj} {kvs : List (List L2.Key × V)} : Walk (ItiT d o kvs) kvs.length (fun H => H d = some (.frz o (.dT kvs))) (fun i H x H' => ∃ (T q : Addr) (k : List L2.Key) (v : V), kvs[i]? = some (k, v) ∧ x = .ref T ∧ H q = some (.tup (k.map kV)) ∧ H T = none ∧ H' = upd H T (.tup [.ref q, v])) :=
  ⟨fun _ _ hi q => ⟨q, hi⟩, fun _ q => ⟨q, Nat.le_refl _⟩, fun _ _ _ _ _ _ y => y⟩
theorem fold_take (f : Int) (ts : List Tm) (i : Nat) (t : Tm) (h : ts[i]? = some t) : (ts.take (i + 1)).foldl (addT f) [] = addT f ((ts.take i).foldl (addT f) []) t := by
  rw [List.take_add_one, h, Option.toList_some, List.foldl_append]
  rfl
theorem addT_none {f : Int} {al : Al2} {t : Tm} (h : getM al t.2 = none) : addT f al t = putM al t.2 t.1 := by unfold addT; rw [h]
theorem addT_some {f : Int} {al : Al2} {t : Tm} {y : Int × Int} (h : getM al t.2 = some y) : addT f al t = putM al t.2 (addN f y t.1) := by unfold addT; rw [h]
def keepOf (al : Al2) : List Tm := (al.filter fun e => decide (e.2.1 ≠ 0)).map fun e => (e.2, e.1)
theorem keep_step (al : Al2) (i : Nat) (e : List Int × (Int × Int)) (h : al[i]? = some e) : keepOf (al.take (i + 1)) = keepOf (al.take i) ++ (if e.2.1 ≠ 0 then [(e.2, e.1)] else []) := by
  unfold keepOf
  rw [List.take_add_one, h, Option.toList_some, List.filter_append, List.map_append]
  congr 1
  by_cases c : e.2.1 ≠ 0
  · rw [if_pos c, List.filter_cons_of_pos (by simpa using c)]; rfl
  · rw [if_neg c, List.filter_cons_of_neg (by simpa using c)]; rfl
theorem le_codes {n : Nat} {rs : List (List Int)} (a b : V × Tm) : PySem.W.dataLe true (fun b : V × Int => PyData.int b.2) (a.1, codeR n rs a.2.2) (b.1, codeR n rs b.2.2) = geT n rs a.2 b.2 := by
  show (!PySem.W.dataLt (.int (codeR n rs a.2.2)) (.int (codeR n rs b.2.2))) = _
  rw [PySem.W.dataLt_int]
  unfold geT
  by_cases h : codeR n rs a.2.2 < codeR n rs b.2.2
  · rw [decide_eq_true h, decide_eq_false (by omega)]; rfl
  · rw [decide_eq_false h, decide_eq_true (by omega)]; rfl
theorem zip_paired {α β : Type} {F : α → β → Prop} : ∀ {xs : List α} {ys : List β}, Paired F xs ys → (xs.zip ys).map (·.1) = xs ∧ (xs.zip ys).map (·.2) = ys ∧ ∀ c ∈ xs.zip ys, F c.1 c.2
  | [], [], _ => ⟨rfl, rfl, fun _ h => by cases h⟩
  | [], _ :: _, h => by cases h
  | _ :: _, [], h => by cases h
  | x :: xs, y :: ys, h => by
    cases h with
    | cons a b =>
      obtain ⟨q1, q2, q3⟩ := zip_paired b
      refine ⟨by rw [List.zip_cons_cons, List.map_cons, q1], by rw [List.zip_cons_cons, List.map_cons, q2], fun c hc => ?_⟩
      rcases List.mem_cons.mp hc with rfl | hc
      · exact a
      · exact q3 c hc
theorem len_fold (f : Int) (ts : List Tm) (i : Nat) : ((ts.take i).foldl (addT f) []).length ≤ i := by
  have := fold_len f (ts.take i) []
  rw [List.length_take] at this
  simp only [List.length_nil, Nat.zero_add] at this
  omega
theorem paired_at {α β : Type} {F : α → β → Prop} : ∀ {xs : List α} {ys : List β}, Paired F xs ys → ∀ {i : Nat} {x : α}, xs[i]? = some x → ∃ y, ys[i]? = some y ∧ F x y
  | [], [], _, _, _, h => by simp at h
  | [], _ :: _, h, _, _, _ => by cases h
  | _ :: _, [], h, _, _, _ => by cases h
  | _ :: _, _ :: _, h, 0, _, e => by
    cases h with
    | cons a b => simp at e; subst e; exact ⟨_, rfl, a⟩
  | _ :: _, _ :: _, h, i + 1, _, e => by
    cases h with
    | cons a b => exact paired_at b (by simpa using e)
section
variable {P : Program} {w : World} {K : PySem.W.Frag} {mg : Str → Option Value} {base : Heap}
def sp_sum_of_terms (C : Addr) (t : TabsAt) (K : PySem.W.Frag) : Sp := fun vs H Q _ => ∃ (a : Addr) (f : Int) (n : Nat) (rs : List (List Int)) (v : V) (ts : List Tm), vs = [.ref a, v] ∧ n ≤ 4 ∧ RowsOk n rs ∧ IsF f ∧ CodO C K H a n rs ∧ CodF C H a f ∧ PolyV K H f v ts ∧ ts.length ≤ 5000 ∧ (∀ u ∈ ts, TermOk f n u) ∧ SumOk f ts ∧ TS t H ∧
  ∀ v' H', Ex t H H' → PolyV K H' f v' (polyL f n rs ts) → Q v' H'
theorem ok_sum_of_terms (T : Txt K mg) {t : TabsAt} (B : TBs T base t) : FnOk P w K mg base CX0 16 T.sum_of_terms.f T.sum_of_terms.fd P_sum_of_terms (sp_sum_of_terms T.Coding.C t K) := by
  refine okC T.sum_of_terms.F B.h_sum_of_terms sc_sum_of_terms (fun vs H Q E h => ?_) (fun A outer s H vs Q E hr h => ?_)
  · obtain ⟨a, f, n, rs, v, ts, rfl, _⟩ := h; rfl
  · obtain ⟨a, f, n, rs, v, ts, rfl, hn4, hrs, hF, hc, hcf, hp, hlen, hok, hsum, tsH, k⟩ := h
    obtain ⟨pa, vs, rfl, hP, hvl, hT⟩ := id hp
    obtain ⟨dx, fs, c1, cf, _⟩ := id hcf
    refine ⟨_, (pss_cons (ps_set (i := 2) sc_sum_of_terms.nd rfl (Or.inl rfl) (pe_fld (pv 0) rfl))
  (pss_cons (ps_set (i := 3) sc_sum_of_terms.nd rfl (Or.inl rfl) pe_dnewT)
  (pss_cons (ps_for PassesOwn.never rfl (pi_tup (pv 1)) (pg_tup rfl (pgs_cons (pg_name (i := 4) sc_sum_of_terms.nd rfl (Or.inl rfl)) (pgs_cons (pg_name (i := 5) sc_sum_of_terms.nd rfl (Or.inl rfl)) pgs_nil))) (pss_cons (ps_if (pt_cmp (pc_din (Nat.lt_of_le_of_lt (Nat.add_le_add_left (show 1 ≤ 64 by decide) _) hr.units) (pv 5) (pv 3))) (pss_one (ps_set (i := 4) sc_sum_of_terms.nd rfl (Or.inl rfl) (pe_call (ok_add_numbers T) (hr.mono (by decide)) rfl T.add_numbers.g T.add_numbers.F.kp (b_add_numbers T) .nil pass0 (pa_cons (pv 2) (pa_cons (pe_dget (Nat.lt_of_le_of_lt (Nat.add_le_add_left (show 1 ≤ 64 by decide) _) hr.units) (pv 3) (pv 5) (fun _ _ => rfl)) (pa_cons (pv 4) pa_nil)))))) pss_nil)
  (pss_one (ps_dput (Nat.lt_of_le_of_lt (Nat.add_le_add_left (show 1 ≤ 64 by decide) _) hr.units) (pv 3) (pv 5) (pv 4) rfl))))
  (pss_cons (ps_set (i := 6) sc_sum_of_terms.nd rfl (Or.inr rfl) (pe_call (ok_zero_of T) (hr.mono (by decide)) rfl T.zero_of.g T.zero_of.F.kp (b_zero_of T) .nil pass0 (pa_cons (pv 2) pa_nil)))
  (pss_cons (ps_lock (ps_setLc (i := 7) (own := [("monomial", 5), ("number", 4)]) rfl sc_sum_of_terms.nd rfl rfl (sw_true rfl rfl rfl (by decide +kernel)) (pi_itemsT (pv 3)) (blkOk_by (own := [("monomial", 5), ("number", 4)]) (N := N_sum_of_terms) (sc := defScope s_sum_of_terms) (by decide +kernel)) (fun _ _ _ _ _ => (pg_tupK (K := K) (n := 2) rfl rfl (pgs_cons (pg_name (i := 5) sc_sum_of_terms.nd rfl (Or.inl rfl)) (pgs_cons (pg_name (i := 4) sc_sum_of_terms.nd rfl (Or.inl rfl)) pgs_nil)))) (fun _ _ _ _ _ => pts_one (pt_cmpR (r := rNeD K) (op_neD hr.units) (pv 4) (pv 6) (nomark _))) (fun _ _ _ _ _ => (pe_tup (pa_cons (pv 4) (pa_cons (pv 5) pa_nil))))))
  (pss_one (ps_ret (pe_callTy (r := rTupOf K) call_tuple_of rfl T.n_tuple bo_tuple (pa_cons (pe_sortFR hr rfl T.n_sorted bo_sorted (pv 7) (pe_lamF (T := lamT "sum_of_terms" (t.a "sum_of_terms")) B.b_sum_of_terms rfl (List.mem_cons_self) (fun p hp _ => by unfold lamT at hp; rw [List.mem_singleton] at hp; subst hp; rfl) free_sum_of_terms)) pa_nil))))))))), ?_⟩
    walk_at "rd"
    refine ⟨_, _, _, _, _, rfl, c1, T.Coding.cls, T.Coding.n_field, cf, ?_⟩
    walk_at "rd"
    intro d hd
    walk_at "rd"
    refine ⟨⟨vs, Toy.Same.tup (same_upd hd) hP⟩, ?_⟩
    refine for_tup (K := K) (a := pa) (xs := vs) (fun i σ H' => Ex t H H' ∧ (∃ y z, σ = [some (.ref a), some (.ref pa), some (.int f), some (.ref d), y, z, none, none]) ∧ ∃ kvs, H' d = some (.dT kvs) ∧ KVs H' f kvs ((ts.take i).foldl (addT f) []))
      ⟨Ex.of tsH (same_upd hd), ⟨_, _, rfl⟩, [], upd_same, .nil⟩ (fun i σ H' _ q => (tp_ext q.1.keep).sqt hP) (fun i x σ H' hx q => ?_) (fun σ H' q => ?_)
    · obtain ⟨x1, ⟨y, z, rfl⟩, kvs, hkv, hK⟩ := q
      have hi : i < ts.length := by rw [← hvl]; exact (List.getElem?_eq_some_iff.mp hx).1
      obtain ⟨tp, M, nv, rfl, h1, h2, h3⟩ := (hT i x ts[i] hx (List.getElem?_eq_getElem hi)).ex x1.keep
      obtain ⟨o1, o2⟩ := hok _ (List.getElem_mem hi)
      have hkl : kvs.length ≤ i := by rw [kvs_len hK]; exact len_fold f ts i
      have e3 : H' M = some (.tup ((inlK ts[i].2).map kV)) := by rw [inlK_kV]; exact h3
      have stepK : ∀ (v' : V) (x' : Int × Int) (H2 : Hp), Same H' H2 → NumV H2 f v' x' → addT f ((ts.take i).foldl (addT f) []) ts[i] = putM ((ts.take i).foldl (addT f) []) ts[i].2 x' →
          ∃ H4, DPut H2 d (.ref M) v' H4 ∧ Ex t H H4 ∧ ∃ kvs, H4 d = some (.dT kvs) ∧ KVs H4 f kvs ((ts.take (i + 1)).foldl (addT f) []) := fun v' x' H2 s2 nx e => by
        have hd2 := s2 _ _ hkv
        refine ⟨_, DPut.t hd2 (s2 _ _ e3) (by rw [sizeLine_eq]; omega), (x1.same s2).put (NT.of hd) hd2 (fun _ z => by cases z) (fun _ z => by cases z), _, upd_same, ?_⟩
        rw [fold_take f ts i _ (List.getElem?_eq_getElem hi), e]
        have tq : Tq H2 (upd H2 d (.dT (putK kvs (inlK ts[i].2) v'))) := tq_upd hd2 trivial
        exact kvs_put ((hK.tq (tq_same s2)).tq tq) (nx.tq tq)
      walk_at "rd"
      refine ⟨tp, _, rfl, h1, rfl, ?_⟩
      walk_at "rd"
      refine ⟨d, _, rfl, DGet.t hkv e3, _, rfl, ?_⟩
      rcases kvs_get (m := ts[i].2) hK with ⟨g1, g2⟩ | ⟨v0, x0, g1, g2, g3⟩
      · rw [g1]
        refine iteF ?_
        walk_at "rd"
        obtain ⟨H4, q1, q2, q3⟩ := stepK nv ts[i].1 H' (Same.refl _) h2 (addT_none g2)
        exact ⟨d, H4, rfl, q1, q2, ⟨_, _, rfl⟩, q3⟩
      · rw [g1]
        refine iteT ?_
        walk_at "rd"
        refine ⟨d, v0, rfl, ?_, ?_⟩
        · have := DGet.t hkv e3
          rw [g1] at this
          exact this
        walk_at "rd"
        have hmem : ∃ e ∈ (ts.take i).foldl (addT f) [], e.2 = x0 := by
          have go : ∀ {al : Al2} {m : List Int}, getM al m = some x0 → ∃ e ∈ al, e.2 = x0 := by
            intro al m
            induction al with
            | nil => intro z; cases z
            | cons e al ih =>
              intro z
              unfold getM at z
              by_cases he : e.1 = m
              · rw [if_pos he] at z; exact ⟨e, List.mem_cons_self, Option.some.inj z⟩
              · rw [if_neg he] at z
                obtain ⟨e', q1, q2⟩ := ih z
                exact ⟨e', List.mem_cons_of_mem _ q1, q2⟩
          exact go g2
        obtain ⟨e0, m0, rfl⟩ := hmem
        refine ⟨f, v0, nv, e0.2, ts[i].1, rfl, hF, g3, h2, hsum i e0 m0, o1, fun v' H2 nx s2 => ?_⟩
        walk_at "rd"
        obtain ⟨H4, q1, q2, q3⟩ := stepK v' _ H2 s2 nx (addT_some g2)
        exact ⟨d, H4, rfl, q1, q2, ⟨_, _, rfl⟩, q3⟩
    · obtain ⟨x1, ⟨y, z, rfl⟩, kvs, hkv, hK⟩ := q
      rw [hvl, List.take_length] at hK
      walk_at "rd"
      intro zv H2 nz s2
      have hd2 := s2 _ _ hkv
      have hK2 := hK.tq (tq_same s2)
      walk_at "rd"
      refine ⟨d, _, hd2, trivial, fun od => ?_⟩
      obtain ⟨G, eG⟩ : ∃ G, G = upd H2 d (.frz od (.dT kvs)) := ⟨_, rfl⟩
      have Gd : G d = some (.frz od (.dT kvs)) := by rw [eG]; exact upd_same
      have gq : Tq H2 G := by rw [eG]; exact tq_upd hd2 trivial
      rw [← eG]
      walk_at "rd"
      refine ⟨d, od, kvs, rfl, Gd, fun D hD => ?_⟩
      have hKl : kvs.length = (sumL f ts).length := kvs_len hK2
      have hsl : (sumL f ts).length ≤ 5000 := Nat.le_trans (sum_len f ts) hlen
      refine lc_it (walk_itemsT) (fun i H5 => ∃ ys, Same G H5 ∧ H5 D = some (.lst ys) ∧ Paired (fun y u => TermV K H5 f y u) ys (keepOf ((sumL f ts).take i))) ⟨[], same_upd hD, upd_same, .nil⟩ (fun i H5 _ q => by obtain ⟨_, q, _⟩ := q; exact q _ _ Gd) (fun i x H5 H6 hi q y => ?_) (fun H5 q => ?_)
      · obtain ⟨ys, s5, hD5, hp5⟩ := q
        obtain ⟨Tt, q0, ky, v, e1, rfl, e2, e3, rfl⟩ := y
        obtain ⟨em, e4, ⟨e5, e6⟩⟩ := paired_at hK2 e1
        have e5 : ky = inlK em.1 := e5
        have e6 : NumV H2 f v em.2 := e6
        subst e5
        have hm : em ∈ sumL f ts := List.mem_of_getElem? e4
        have oke : NumOk f em.2 := by
          have := hsum ts.length em
          rw [List.take_length] at this
          exact this hm
        have s6 : Same H5 (upd H5 Tt (.tup [.ref q0, v])) := same_upd e3
        refine ⟨Tt, _, rfl, .inl (.inl upd_same), rfl, ?_⟩
        walk_at "rd"
        have nv6 := ((e6.tq gq).tq (tq_same s5)).tq (tq_same s6)
        have nz6 := (((nz).tq gq).tq (tq_same s5)).tq (tq_same s6)
        refine ⟨_, _, nv6.dp, nz6.dp, numD_shaped _ _, numD_shaped _ _, ?_⟩
        rw [numD_zero oke]
        refine ⟨_, rfl, ?_⟩
        refine iteDn (fun g => ?_) (fun g => ?_)
        · walk_at "rd"
          refine ⟨two_line, fun p hp => ?_⟩
          have s7 : Same H5 (upd (upd H5 Tt (.tup [.ref q0, v])) p (.tup [v, .ref q0])) := Same.trans s6 (same_upd hp)
          refine ⟨ys, s7 _ _ hD5, ?_, _, ?_, upd_same, ?_⟩
          · have hl : ys.length = (keepOf ((sumL f ts).take i)).length := Paired.length hp5
            have : (keepOf ((sumL f ts).take i)).length ≤ 5000 := by
              unfold keepOf
              rw [List.length_map]
              refine Nat.le_trans (List.length_filter_le _ _) ?_
              rw [List.length_take]
              omega
            rw [sizeLine_eq]; omega
          · intro b o e
            have nb : b ≠ D := fun z => by
              subst z
              rw [hD] at e; cases e
            exact (upd_ne nb).trans (s7 _ _ (s5 _ _ e))
          · rw [keep_step (sumL f ts) i em e4, if_pos g]
            have tq : Tq H5 (upd (upd (upd H5 Tt (.tup [.ref q0, v])) p (.tup [v, .ref q0])) D (.lst (ys ++ [.ref p]))) := (tq_same s7).trans (tq_upd (s7 _ _ hD5) trivial)
            have t2 : Tq (upd H5 Tt (.tup [.ref q0, v])) (upd (upd (upd H5 Tt (.tup [.ref q0, v])) p (.tup [v, .ref q0])) D (.lst (ys ++ [.ref p]))) := (tq_new hp).trans (tq_upd (s7 _ _ hD5) trivial)
            have nD : p ≠ D := fun z => by
              subst z
              rw [s6 _ _ hD5] at hp; cases hp
            refine paired_app (Paired.mapP hp5 fun _ _ z => z.tq tq) ⟨p, q0, v, rfl, .inl (.inl ((upd_ne nD).trans upd_same)), nv6.tq t2, ?_⟩
            show _ = some (HO.tup (em.1.map V.int))
            rw [← inlK_kV]
            exact (tq _ _).1 e2
        · refine ⟨ys, fun b o e => s6 _ _ (s5 _ _ e), s6 _ _ hD5, ?_⟩
          rw [keep_step (sumL f ts) i em e4, if_neg (by omega), List.append_nil]
          exact Paired.mapP hp5 fun _ _ z => z.tq (tq_same s6)
      · obtain ⟨ys, s5, hD5, hp5⟩ := q
        rw [hKl, List.take_length] at hp5
        have Hd5 := s5 _ _ Gd
        refine ⟨Hd5, ?_⟩
        obtain ⟨U, eU⟩ : ∃ U, U = upd H5 d (.dT kvs) := ⟨_, rfl⟩
        have sU : Same H2 U := fun b o e => by
          rw [eU]
          by_cases hb : b = d
          · subst hb
            rw [hd2] at e
            cases e
            exact upd_same
          · refine (upd_ne hb).trans (s5 _ _ ?_)
            rw [eG]
            exact (upd_ne hb).trans e
        have nDd : D ≠ d := fun z => by
          subst z
          rw [Gd] at hD; cases hD
        have UD : U D = some (.lst ys) := by rw [eU]; exact (upd_ne nDd).trans hD5
        have uq : Tq H5 U := by rw [eU]; exact tq_upd Hd5 trivial
        have xU : Ex t H U := (x1.same s2).same sU
        have hpU : Paired (fun y u => TermV K U f y u) ys (keptL f ts) := Paired.mapP hp5 fun _ _ z => z.tq uq
        rw [← eU]
        walk_at "rd"
        refine ⟨xU.ts.l _ lx_sum, fun g c' H3 kb e3 t3 g1 cc1 => ?_⟩
        have x3 : Ex t U H3 := by
          obtain ⟨ps, q1, _⟩ := xU.ts.l _ lx_sum _ List.mem_cons_self
          exact ⟨e3, xU.ts.lam lx_sum gx_sum kb t3 ⟨ps, q1⟩⟩
        have c3 : CodO T.Coding.C K H3 a n rs := (CodO.ex xU hc).ex x3
        have hp3 : Paired (fun y u => TermV K H3 f y u) ys (keptL f ts) := Paired.mapP hpU fun _ _ z => z.ex x3.keep
        have el : H3 D = some (.lst ys) := e3 _ _ UD fun _ z => nomatch z
        obtain ⟨z1, z2, z3⟩ := zip_paired hp3
        obtain ⟨cs, ecs⟩ : ∃ cs, cs = ys.zip (keptL f ts) := ⟨_, rfl⟩
        rw [← ecs] at z1 z2 z3
        have cok : ∀ c ∈ cs, Mon n c.2.2 := fun c hc => by
          have hm : c.2 ∈ keptL f ts := by rw [← z2]; exact List.mem_map_of_mem hc
          unfold keptL at hm
          obtain ⟨e, he, q⟩ := List.mem_map.mp hm
          have := sum_key (f := f) (p := fun m => Mon n m) (fun u hu => (hok u hu).2) e (List.mem_filter.mp he).1
          rw [← q]
          exact this
        refine ⟨D, g, cs.map fun c => (c.1, codeR n rs c.2.2), rfl, rfl, .inl (.inl ?_), ?_, fun p hp => ?_⟩
        · rw [el, ← z1, List.map_map]
          rfl
        · intro Φ pins t1 Sx I hΦ b hb u ru
          obtain ⟨c, hcc, rfl⟩ := List.mem_map.mp hb
          obtain ⟨tp, M, nv, e0, h1, _, h3⟩ := z3 c hcc
          have ru : RelV c.1 u := ru
          rw [e0] at ru
          obtain rfl : u = Value.ref tp := ru
          obtain ⟨its, rvs, ⟨ot, ot1, ot2⟩, hz⟩ := I.tuple h1
          have eM : its.toArray[1]? = some (Value.ref M) ∧ its.toArray.size ≤ sizeLine := by
            cases rvs with
            | cons r1 t1 =>
              cases t1 with
              | cons r2 t2 =>
                cases t2
                exact ⟨by rw [← (show _ = Value.ref M from r2)]; rfl, two_line⟩
          obtain ⟨⟨pm, ctv, og⟩, _, _⟩ := I.hok g _ g1
          obtain ⟨⟨oc, cvs, tt, o1, o2, o3⟩, _, _⟩ := I.hok c' _ cc1
          have hcell : t1.heap.IsCell (s.heap.objs.size + 1) (some (.ref a)) := by
            obtain ⟨m, _, hl⟩ := I.loc
            obtain ⟨u, ru, lk⟩ := hl 0 "coding" (.ref a) rfl rfl (.inr (.inl rfl))
            obtain rfl : u = Value.ref a := ru
            rcases lk with ⟨z, _⟩ | ⟨_, c0, z1, z2⟩
            · cases z
            · cases z1
              exact z2
          refine pf_lam1 Sx (fun h q => ⟨pm, ctv, hΦ h q _ _ og⟩) (fun h q => ⟨oc, cvs, tt, hΦ h q _ _ o1, o2, o3⟩) rfl rfl rfl (by decide) (x := "term") rfl (fun _ _ => rfl) (Nat.lt_of_le_of_lt (Nat.le_add_right _ (3 * 15 + 5)) hr.dp) fun env ev hsc hcl => ?_
          have cO : ∀ h, Φ h → ∃ dx' mA, ObjM h a dx' T.Coding.C mA ∧ mA ("code" : Str) = Option.none := fun h q => by
            obtain ⟨dx', L', fs', rv', w1, _, _, _, _, _, w7⟩ := c3
            obtain ⟨mA, O, hr', _⟩ := ins_get I.hok w1
            obtain ⟨z1, z2, z3⟩ := O
            exact ⟨dx', mA, ⟨hΦ h q _ _ z1, z2.keeps fun b o e => hΦ h q b o e, z3⟩, RelO.none_of (by rw [← w7]; exact hr' _)⟩
          refine pu_meth (Rs := fun us => us = [Value.ref M]) Sx (pu_free ev (by rw [hsc]; rfl) (by rw [hcl]; rfl) fun h q => hcell.keeps fun b o e => hΦ h q b o e) T.Coding.cls T.Coding.m_code cO (fun pos A' E' s' w1 w2 w3 w4 w5 => wpAny_mono ((pua_cons Sx (pu_ix (j := 1) Sx (pu_name (x := "term") (u := .ref tp) ev (by rw [hsc]; rfl) rfl) pu_int (fun h q => ⟨ot, hΦ h q _ _ ot1, ot2⟩) eM.1 eM.2 (fun _ _ => rfl)) pua_nil) pos A' E' s' w1 w2 w3 w4 w5) (fun us s2 w => ?_) fun _ _ z => z) ?_
          · obtain ⟨⟨u0, v0, e0, e1, e2⟩, w⟩ := w
            exact ⟨by rw [e0, e1, e2], w⟩
          · rintro us rfl
            exact PuG.pos (code_pu T Sx hΦ I.hok I.kIn c3 (.inl (.inl h3)) (unit_mul hn4 hrs (cok _ hcc).1) (by have h := hr.dp; show (A.deeper _).depth + 1 + 8 < recursionLimit; omega) (by have h := hr.un; show (A.deeper _).units + 2 + 3 + 64 < cLine; omega)) Sx (b_Coding_code T) rfl
        · refine ⟨_, _, rfl, .inl ⟨.inl (.inl upd_same), fun l hl => ?_⟩⟩
          have s9 : Same H3 (upd (upd H3 p (.lst ((List.map (fun c => (c.1, codeR n rs c.2.2)) cs).mergeSort (PySem.W.dataLe true fun b => PyData.int b.2) |>.map (·.1)))) l (.tup ((List.map (fun c => (c.1, codeR n rs c.2.2)) cs).mergeSort (PySem.W.dataLe true fun b => PyData.int b.2) |>.map (·.1)))) := Same.trans (same_upd hp) (same_upd hl)
          have e1 : ((cs.map fun c => (c.1, codeR n rs c.2.2)).mergeSort (PySem.W.dataLe true fun b => PyData.int b.2)) = (cs.mergeSort fun a b => geT n rs a.2 b.2).map fun c => (c.1, codeR n rs c.2.2) :=
            (PySem.W.sort_maps (fun c : V × Tm => (c.1, codeR n rs c.2.2)) fun a _ b _ => (le_codes a b).symm).symm
          have e2' : (cs.mergeSort fun a b => geT n rs a.2 b.2).map (·.2) = polyL f n rs ts := by
            unfold polyL
            rw [← z2]
            exact PySem.W.sort_maps (fun c : V × Tm => c.2) fun _ _ _ _ => rfl
          refine k _ _ ((xU.trans x3).same s9) ⟨l, _, rfl, .inl (.inl upd_same), ?_, fun i v u h1 h2 => ?_⟩
          · rw [List.length_map, e1, List.length_map, ← e2', List.length_map]
          · rw [e1, List.map_map, List.getElem?_map] at h1
            rw [← e2', List.getElem?_map] at h2
            obtain ⟨c, hc1, rfl⟩ := Option.map_eq_some_iff.mp h1
            rw [hc1] at h2
            cases h2
            exact (z3 c ((List.mergeSort_perm _ _).mem_iff.mp (List.mem_of_getElem? hc1))).tq (tq_same s9)
end

/-! ### max(xs, default=d) of a list of ints -/
section
open PySem.Spec PyProof.Rows
variable {X : Cx}
theorem fold_max_mem : ∀ (ns : List Int) (n : Int), ns.foldl max n ∈ n :: ns
  | [], n => List.mem_cons_self
  | m :: ns, n => by
    have h := fold_max_mem ns (max n m)
    rw [List.foldl_cons]
    rcases List.mem_cons.mp h with h | h
    · rw [h]
      by_cases c : n ≤ m
      · rw [Int.max_eq_right c]; simp
      · rw [Int.max_eq_left (by omega)]; simp
    · exact List.mem_cons_of_mem _ (List.mem_cons_of_mem _ h)
theorem fold_max_ge : ∀ (ns : List Int) (n : Int), ∀ y ∈ n :: ns, y ≤ ns.foldl max n
  | [], n, y, h => by rw [List.mem_singleton] at h; rw [h]; exact Int.le_refl _
  | m :: ns, n, y, h => by
    have g := fold_max_ge ns (max n m)
    rw [List.foldl_cons]
    rcases List.mem_cons.mp h with rfl | h
    · exact Int.le_trans (Int.le_max_left _ _) (g _ List.mem_cons_self)
    · rcases List.mem_cons.mp h with rfl | h
      · exact Int.le_trans (Int.le_max_right _ _) (g _ List.mem_cons_self)
      · exact g _ (List.mem_cons_of_mem _ h)
def tMaxD (K : PySem.W.Frag) (te td : TE) : TE := fun σ H Q => tCons te tNil σ H fun vs H1 => tCons td tNil σ H1 fun zs H2 => ∃ (a : Addr) (ns : List Int) (d : V), vs = [.ref a] ∧ zs = [d] ∧ SqL K H2 a (ns.map V.int) ∧ (ns = [] → Q d H2) ∧ ∀ m, m ∈ ns → (∀ y ∈ ns, y ≤ m) → Q (.int m) H2
theorem depth_ints : ∀ ns : List Int, PyData.depthAll (ns.map PyData.int) ≤ 1
  | [] => by simp [PyData.depthAll]
  | n :: ns => by
    have := depth_ints ns
    rw [List.map_cons]
    simp only [PyData.depthAll, PyData.depth]
    omega
theorem dpAll_ints0 {K : PySem.W.Frag} {H : Hp} : ∀ ns : List Int, DpAll K H (ns.map V.int) (ns.map PyData.int)
  | [] => .nil
  | n :: ns => .cons (.int n) (dpAll_ints0 ns)
theorem pe_maxD {e fe : Expr} {te td : TE} {p pos kpos : Pos} {k : Nat} (hr : Room k X.A) (hg : Gl X "max") (hm : X.mg "max" = none) (hv : bootBuiltins "max" = some (.builtin "max")) (he : PE X e te) (hl : PE X fe td)
    (q0 : starEach [e] X.env = (false, eval e X.env) :: starEach [] X.env := by rfl)
    (q1 : backTo pos (starEach [e] X.env) = (false, eval e X.env) :: backTo pos (starEach [] X.env) := by rfl) (q2 : (backTo pos (starEach [e] X.env)).any (·.1) = false := by rfl)
    (q3 : (backToKw pos (keywordEach [⟨some "default", fe, kpos⟩] X.env)).all (·.1.isSome) = true := by rfl) (q4 : (backToKw pos (keywordEach [⟨some "default", fe, kpos⟩] X.env)).any (·.1.isNone) = false := by rfl)
    (q5 : (backToKw pos (keywordEach [⟨some "default", fe, kpos⟩] X.env)).filterMap (·.1) = [Str.ofString "default"] := by rfl) :
    PE X (.Call (.Name "max" p) [e] [⟨some "default", fe, kpos⟩] pos) (tMaxD X.K te td) := by
  refine ⟨fun pins s σ H Q I h => wpAny_Call_Name_kw (ld_blt I hg hm hv ?_)⟩
  have ha := pa_cons (X := X) he pa_nil q0
  have hk := pk_cons (X := X) (nm := some "default") (kpos := kpos) hl pk_nil
  refine PyProof.Rows.callWith_kw (thn (ha.run pos pins s σ H _ I h) fun us s1 ⟨vs, H1, I1, r1, h1⟩ => thn (hk.run pos pins s1 σ H1 _ I1 h1) fun ws s2 ⟨zs, H2, I2, r2, a, ns, d, ev, ez, hs, q0, q1⟩ => ?_) q1 q2 q3 q4
  rw [q5]
  subst ev ez
  obtain rfl := Vals.ref1 r1
  obtain ⟨w1, rfl, e1⟩ := vals1 r2
  obtain ⟨its, rv, hli, hz⟩ := I2.list hs
  obtain ⟨as, hra⟩ := Dp.readsAll I2 _ _ _ (dpAll_ints0 (K := X.K) (H := H2) ns) rv
  refine PySem.W.max_list_default (xs := ns.map PyData.int) (as := as) hr.hd hli.isList (by rw [List.toList_toArray]; exact hra) ⟨fun x hx y hy => ?_, fun x hx => ?_⟩ ?_ (fun hn h' tk hk2 => ?_) (fun y ys i v h' tk bs hxs hv' hrd hk2 => ?_)
  · obtain ⟨n1, _, rfl⟩ := List.mem_map.mp hx
    obtain ⟨n2, _, rfl⟩ := List.mem_map.mp hy
    rfl
  · obtain ⟨n1, _, rfl⟩ := List.mem_map.mp hx
    exact fun z => nomatch z
  · have := hr.units
    have := depth_ints ns
    omega
  · have en : ns = [] := List.map_eq_nil_iff.mp hn
    exact ⟨d, H2, I2.kept (t' := tk) hk2, e1, q0 en⟩
  · cases ns with
    | nil => cases hxs
    | cons n ns =>
      rw [List.map_cons] at hxs
      cases hxs
      rw [PySem.W.maxD_ints] at hrd
      cases hrd
      refine ⟨.int (ns.foldl max n), H2, I2.kept (t' := tk) hk2, ⟨_, rfl⟩, q1 _ ?_ ?_⟩
      · exact fold_max_mem ns n
      · exact fold_max_ge ns n
end

/-! ### the law's own way to a polynomial -/
/-- the monomials in rising order of their numbers -/
def leM (n : Nat) (o : Ord) (a b : List Int) : Bool := PySem.W.dataLe false (fun m => PyData.int (codeN n o m)) a b
/-- the law's order of keys and monomials is that of the numbers -/
theorem le_same {n : Nat} {o : Ord} {a b : List Int} (ha : Mon n a) (hb : Mon n b) (h1 : 1 ≤ n) (h4 : n ≤ 4) (ho : OrdOk n o) :
    leM n o a b = PySem.W.dataLe false (fun m => PyData.tuple [keyD o m, rD m]) a b := by
  have hl : b.length = a.length := by rw [ha.1.1, hb.1.1]
  have K := ky_two (ky_key hl o) (ky_ints hl)
  show (!PySem.W.dataLt (.int (codeN n o b)) (.int (codeN n o a))) = !PySem.W.dataLt (.tuple [keyD o b, rD b]) (.tuple [keyD o a, rD a])
  rw [K.lt, PySem.W.dataLt_int, lexS_app _ _ _ _ (keyL_len hl o), ← rows_key hb.1.1 ha.1.1 h1 h4 ho]
  have hc := code_cmp hb ha h1 h4 ho
  congr 1
  by_cases h : cmpS n o b a = 0
  · have e := cmp_zero hb.1.1 ha.1.1 h1 h4 ho h
    subst e
    rw [if_pos h, lexS_self]
    simp
  · rw [if_neg h, ← hc]
    unfold sgn
    by_cases g : codeN n o b - codeN n o a = 0
    · rw [if_pos g]; simp; omega
    · rw [if_neg g]
      by_cases g2 : 0 < codeN n o b - codeN n o a
      · rw [if_pos g2]; simp; omega
      · rw [if_neg g2]; simp; omega

theorem perm_pair_eq {α : Type} (c : α → Int) : ∀ {a b : List α}, a.Perm b → a.Pairwise (fun x y => c y ≤ c x) → b.Pairwise (fun x y => c y ≤ c x) → (∀ x ∈ a, ∀ y ∈ a, c x = c y → x = y) → a = b
  | [], b, h, _, _, _ => (List.Perm.nil_eq h)
  | x :: a, [], h, _, _, _ => by cases h.symm.nil_eq
  | x :: a, y :: b, h, ha, hb, inj => by
    rw [List.pairwise_cons] at ha hb
    have hx : x ∈ y :: b := h.mem_iff.mp List.mem_cons_self
    have hy : y ∈ x :: a := h.mem_iff.mpr List.mem_cons_self
    have e : x = y := by
      rcases List.mem_cons.mp hx with e | e
      · exact e
      · rcases List.mem_cons.mp hy with e2 | e2
        · exact e2.symm
        · have h1 := hb.1 x e
          have h2 := ha.1 y e2
          exact inj x List.mem_cons_self y hy (by omega)
    subst e
    rw [perm_pair_eq c h.cons_inv ha.2 hb.2 fun u hu v hv => inj u (List.mem_cons_of_mem _ hu) v (List.mem_cons_of_mem _ hv)]
theorem leM_le (n : Nat) (o : Ord) (a b : List Int) : leM n o a b = decide (codeN n o a ≤ codeN n o b) := by
  show (!PySem.W.dataLt (.int (codeN n o b)) (.int (codeN n o a))) = _
  rw [PySem.W.dataLt_int]
  by_cases h : codeN n o b < codeN n o a
  · rw [decide_eq_true h, decide_eq_false (by omega)]; rfl
  · rw [decide_eq_false h, decide_eq_true (by omega)]; rfl
theorem code_inj {n : Nat} {o : Ord} {a b : List Int} (ha : Mon n a) (hb : Mon n b) (h1 : 1 ≤ n) (h4 : n ≤ 4) (ho : OrdOk n o) (h : codeN n o a = codeN n o b) : a = b := by
  have hc := code_cmp ha hb h1 h4 ho
  rw [h, Int.sub_self] at hc
  exact cmp_zero ha.1.1 hb.1.1 h1 h4 ho (by rw [← hc]; rfl)
/-- terms in falling order -/
def sortT (n : Nat) (o : Ord) (l : List Tm) : List Tm := l.mergeSort (geT n (rowsL n o))
theorem sortT_perm (n : Nat) (o : Ord) (l : List Tm) : (sortT n o l).Perm l := List.mergeSort_perm _ _
theorem sortT_pair (n : Nat) (o : Ord) (l : List Tm) : (sortT n o l).Pairwise fun a b => codeN n o b.2 ≤ codeN n o a.2 := by
  refine List.Pairwise.imp (fun {a b} h => ?_) (List.pairwise_mergeSort (geT_trans n (rowsL n o)) (geT_total n (rowsL n o)) l)
  unfold geT at h
  rw [decide_eq_true_eq] at h
  exact h
/-- the monomials of terms, sorted by the law's keys, backwards -/
theorem keys_sorted {n : Nat} {o : Ord} {l : List Tm} (h1 : 1 ≤ n) (h4 : n ≤ 4) (ho : OrdOk n o) (hm : ∀ u ∈ l, Mon n u.2) : ((l.map (·.2)).mergeSort (leM n o)).reverse = (sortT n o l).map (·.2) := by
  refine perm_pair_eq (codeN n o) ?_ ?_ ?_ ?_
  · exact (List.reverse_perm _).trans ((List.mergeSort_perm _ _).trans ((sortT_perm n o l).map _).symm)
  · rw [List.pairwise_reverse]
    have tr : ∀ a b c : List Int, leM n o a b = true → leM n o b c = true → leM n o a c = true := fun a b c x y => by
      rw [leM_le, decide_eq_true_eq] at *; omega
    have tt : ∀ a b : List Int, (leM n o a b || leM n o b a) = true := fun a b => by
      rw [leM_le, leM_le, Bool.or_eq_true, decide_eq_true_eq, decide_eq_true_eq]; omega
    refine List.Pairwise.imp (fun {a b} h => ?_) (List.pairwise_mergeSort tr tt (l.map (·.2)))
    rw [leM_le, decide_eq_true_eq] at h
    exact h
  · rw [List.pairwise_map]
    exact sortT_pair n o l
  · intro x hx y hy e
    have mem : ∀ {z}, z ∈ ((l.map (·.2)).mergeSort (leM n o)).reverse → Mon n z := fun {z} hz => by
      rw [List.mem_reverse, (List.mergeSort_perm _ _).mem_iff] at hz
      obtain ⟨u, hu, rfl⟩ := List.mem_map.mp hz
      exact hm u hu
    exact code_inj (mem hx) (mem hy) h1 h4 ho e
theorem getM_mem : ∀ {al : Al2}, (al.map (·.1)).Nodup → ∀ {e}, e ∈ al → getM al e.1 = some e.2
  | [], _, _, h => by cases h
  | e0 :: al, hn, e, h => by
    rw [List.map_cons, List.nodup_cons] at hn
    unfold getM
    rcases List.mem_cons.mp h with rfl | h
    · rw [if_pos rfl]
    · rw [if_neg fun z => hn.1 (by rw [z]; exact List.mem_map_of_mem h)]
      exact getM_mem hn.2 h
theorem keep_get {al : Al2} (hn : (al.map (·.1)).Nodup) {u : Tm} (h : u ∈ keepOf al) : getM al u.2 = some u.1 := by
  unfold keepOf at h
  obtain ⟨e, he, rfl⟩ := List.mem_map.mp h
  exact getM_mem hn (List.mem_filter.mp he).1

theorem tOnly_rvD (m : List Int) : tOnly (rvD m) = true := by
  show (true && (tOnly (rD (m.reverse.map fun e => 0 - e)) && true)) = true
  rw [tOnly_rD]; rfl
theorem tOnly_keyD (o : Ord) (m : List Int) : tOnly (keyD o m) = true := by
  cases o with
  | lex => exact tOnly_rD m
  | deglex => show (true && (tOnly (rD m) && true)) = true; rw [tOnly_rD]; rfl
  | drl => exact tOnly_rvD m
  | block k => show (tOnly (rvD (m.take k)) && (tOnly (rvD (m.drop k)) && true)) = true; rw [tOnly_rvD, tOnly_rvD]; rfl
  | wts ws => show (true && (tOnly (rvD m) && true)) = true; rw [tOnly_rvD]; rfl
theorem tOnly_key (o : Ord) (m : List Int) : tOnly (.tuple [keyD o m, rD m]) = true := by
  show (tOnly (keyD o m) && (tOnly (rD m) && true)) = true
  rw [tOnly_keyD, tOnly_rD]; rfl
theorem depthAll_ints : ∀ l : List Int, PyData.depthAll (l.map PyData.int) = 0
  | [] => rfl
  | x :: l => by
    rw [List.map_cons]
    show max 0 (PyData.depthAll (l.map PyData.int)) = 0
    rw [depthAll_ints l]; rfl
theorem depth_rD (a : List Int) : (rD a).depth = 1 := by
  show PyData.depthAll (a.map .int) + 1 = 1
  rw [depthAll_ints]
theorem depth_two (x y : PyData) : (PyData.tuple [x, y]).depth = max x.depth (max y.depth 0) + 1 := rfl
theorem depth_rv (a : List Int) : (rvD a).depth = 2 := by
  unfold rvD
  rw [depth_two, depth_rD]; rfl
theorem depth_key (o : Ord) (a : List Int) : (keyD o a).depth ≤ 3 := by
  cases o with
  | lex => show (rD a).depth ≤ 3; rw [depth_rD]; omega
  | deglex => show (PyData.tuple [.int a.sum, rD a]).depth ≤ 3; rw [depth_two, depth_rD]; show max 0 (max 1 0) + 1 ≤ 3; omega
  | drl => show (rvD a).depth ≤ 3; rw [depth_rv]; omega
  | block k => show (PyData.tuple [rvD (a.take k), rvD (a.drop k)]).depth ≤ 3; rw [depth_two, depth_rv, depth_rv]; omega
  | wts ws => show (PyData.tuple [.int (dotZ ws a), rvD a]).depth ≤ 3; rw [depth_two, depth_rv]; show max 0 (max 2 0) + 1 ≤ 3; omega
/-- a pair of a monomial's key and the monomial -/
def KeyV (K : PySem.W.Frag) (H : Hp) (o : Ord) (v : V) (m : List Int) : Prop := ∃ (a M : Addr) (kv : V), v = .ref a ∧ SqT K H a [kv, .ref M] ∧ Dp K H kv (keyD o m) ∧ H M = some (.tup (m.map V.int))
theorem KeyV.tq {K : PySem.W.Frag} {H H' : Hp} {o : Ord} {v : V} {m : List Int} (h : KeyV K H o v m) (e : Tq H H') : KeyV K H' o v m := by
  obtain ⟨a, M, kv, h1, h2, h3, h4⟩ := h
  exact ⟨a, M, kv, h1, e.tp.sqt h2, Dp.tp e.tp _ _ (tOnly_keyD o m) h3, (e _ _).1 h4⟩
theorem KeyV.dp {K : PySem.W.Frag} {H : Hp} {o : Ord} {v : V} {m : List Int} (h : KeyV K H o v m) : Dp K H v (.tuple [keyD o m, rD m]) := by
  obtain ⟨a, M, kv, rfl, h2, h3, h4⟩ := h
  exact .tup h2 (.cons h3 (.cons (dp_ints (.inl (.inl h4))) .nil))
def MonV (H : Hp) (v : V) (m : List Int) : Prop := ∃ M, v = .ref M ∧ H M = some (.tup (m.map V.int))
theorem MonV.tq {H H' : Hp} {v : V} {m : List Int} (h : MonV H v m) (e : Tq H H') : MonV H' v m := by
  obtain ⟨M, h1, h2⟩ := h
  exact ⟨M, h1, (e _ _).1 h2⟩
theorem keep_mem {al : Al2} {u : Tm} (h : u ∈ keepOf al) : (u.2, u.1) ∈ al := by
  unfold keepOf at h
  obtain ⟨e, he, rfl⟩ := List.mem_map.mp h
  exact (List.mem_filter.mp he).1
theorem keep_len (al : Al2) : (keepOf al).length ≤ al.length := by
  unfold keepOf
  rw [List.length_map]
  exact List.length_filter_le _ _
section
variable {P : Program} {w : World} {K : PySem.W.Frag} {mg : Str → Option Value} {base : Heap}
def sp_law_made (K : PySem.W.Frag) : Sp := fun vs H Q _ => ∃ (f : Int) (n : Nat) (o : Ord) (rv : V) (d : Addr) (kvs : List (List L2.Key × V)) (al : Al2), vs = [rv, .ref d] ∧ RgV K H rv f n o ∧ H d = some (.dT kvs) ∧ KVs H f kvs al ∧ (al.map (·.1)).Nodup ∧ (∀ e ∈ al, Mon n e.1 ∧ NumOk f e.2) ∧ al.length ≤ 5000 ∧
  ∀ v' H', Same H H' → PolyV K H' f v' (sortT n o (keepOf al)) → Q v' H'
theorem ok_law_made (T : Txt K mg) : FnOk P w K mg base CX0 3 T.law_made.f T.law_made.fd P_law_made (sp_law_made K) := by
  refine T.law_made.F.ok sc_law_made (fun vs H Q E h => ?_) (fun cdv A outer s H vs Q E hr h => ?_)
  · obtain ⟨f, n, o, rv, d, kvs, al, rfl, _⟩ := h; rfl
  · obtain ⟨f, n, o, rv, d, kvs, al, rfl, hv, hd, hK, hnd, hok, hal, k⟩ := h
    obtain ⟨ra, ov, rfl, hR, hov⟩ := ring_parts hv.hd
    have hf0 := hv.hf.isF.lt.1
    refine ⟨_, (pss_cons (ps_lock (ps_setLc (i := 2) (own := [("mono", 3)]) rfl sc_law_made.nd rfl rfl (sw_true rfl rfl rfl (by decide +kernel)) (pi_keys (pv 1)) (blkOk_by (own := [("mono", 3)]) (N := N_law_made) (sc := defScope s_law_made) (by decide +kernel)) (fun _ _ _ _ _ => (pg_name (i := 3) sc_law_made.nd rfl (Or.inl rfl))) (fun _ _ _ _ _ => pts_one (pt_cmpR (r := rNeD K) (op_neD hr.units) (pe_dget (Nat.lt_of_le_of_lt (Nat.add_le_add_left (show 1 ≤ 64 by decide) _) hr.units) (pv 1) (pv 3) (fun _ _ => rfl)) (pe_call (ok_law_zero T) (hr.mono (by decide)) rfl T.law_zero.g T.law_zero.F.kp (b_law_zero T) .nil pass0 (pa_cons (pe_ix (r := rIxT K) ix_tup (pv 0) pe_int (fun _ _ => rfl)) pa_nil)) (nomark _))) (fun _ _ _ _ _ => (pv 3))))
  (pss_cons (ps_set (i := 4) sc_law_made.nd rfl (Or.inl rfl) (pe_revL (pe_callB (r := rSortedD K) (cr_sortedD hr.units) rfl T.n_sorted bo_sorted (pa_cons (pe_lc (own := [("mono", 3)]) rfl sc_law_made.nd (pi_list (pv 2)) (blkOk_by (own := [("mono", 3)]) (N := N_law_made) (sc := defScope s_law_made) (by decide +kernel)) (fun _ _ _ _ _ => (pg_name (i := 3) sc_law_made.nd rfl (Or.inl rfl))) (fun _ _ _ _ _ => pts_nil) (fun _ _ _ _ _ => (pe_tup (pa_cons (pe_call (ok_law_key T) (hr.mono (by decide)) rfl T.law_key.g T.law_key.F.kp (b_law_key T) .nil pass0 (pa_cons (pe_ix (r := rIxT K) ix_tup (pv 0) pe_int (fun _ _ => rfl)) (pa_cons (pv 3) pa_nil))) (pa_cons (pv 3) pa_nil))))) pa_nil))))
  (pss_one (ps_ret (pe_callTy (r := rTupOf K) call_tuple_of rfl T.n_tuple bo_tuple (pa_cons (pe_lc (own := [("key", 5), ("mono", 3)]) rfl sc_law_made.nd (pi_list (pv 4)) (blkOk_by (own := [("key", 5), ("mono", 3)]) (N := N_law_made) (sc := defScope s_law_made) (by decide +kernel)) (fun _ _ _ _ _ => (pg_tupK (K := K) (n := 2) rfl rfl (pgs_cons (pg_name (i := 5) sc_law_made.nd rfl (Or.inl rfl)) (pgs_cons (pg_name (i := 3) sc_law_made.nd rfl (Or.inl rfl)) pgs_nil)))) (fun _ _ _ _ _ => pts_nil) (fun _ _ _ _ _ => (pe_tup (pa_cons (pe_dget (Nat.lt_of_le_of_lt (Nat.add_le_add_left (show 1 ≤ 64 by decide) _) hr.units) (pv 1) (pv 3) (fun _ _ => rfl)) (pa_cons (pv 3) pa_nil))))) pa_nil)))))), ?_⟩
    walk_at "rd"
    refine ⟨d, _, hd, trivial, fun od => ?_⟩
    obtain ⟨G, eG⟩ : ∃ G, G = upd H d (.frz od (.dT kvs)) := ⟨_, rfl⟩
    have Gd : G d = some (.frz od (.dT kvs)) := by rw [eG]; exact upd_same
    have gq : Tq H G := by rw [eG]; exact tq_upd hd trivial
    rw [← eG]
    walk_at "rd"
    refine ⟨d, od, rfl, .inr ⟨kvs, Gd, fun D hD => ?_⟩⟩
    refine lc_it (walk_keysT) (fun i H5 => ∃ ys, Same G H5 ∧ H5 D = some (.lst ys) ∧ Paired (fun y u => MonV H5 y u.2) ys (keepOf (al.take i))) ⟨[], same_upd hD, upd_same, .nil⟩ (fun i H5 _ q => by obtain ⟨_, q, _⟩ := q; exact q _ _ Gd) (fun i x H5 H6 hi q y => ?_) (fun H5 q => ?_)
    · obtain ⟨ys, s5, hD5, hp5⟩ := q
      obtain ⟨eH, ky, v, q0, e1, rfl, e2⟩ := y
      rw [eH]
      obtain ⟨em, e4, ⟨e5, e6⟩⟩ := paired_at hK e1
      have e5 : ky = inlK em.1 := e5
      subst e5
      have hm : em ∈ al := List.mem_of_getElem? e4
      have g5 : Tq H H5 := gq.trans (tq_same s5)
      obtain ⟨v1, x1, w1, w2, w3⟩ : ∃ v1 x1, valV kvs (inlK em.1) = some v1 ∧ x1 = em.2 ∧ NumV H f v1 em.2 := by
        have hg := getM_mem hnd hm
        rcases kvs_get (m := em.1) hK with ⟨_, z⟩ | ⟨v1, x1, z1, z2, z3⟩
        · rw [hg] at z; cases z
        · rw [hg] at z2
          cases z2
          exact ⟨v1, em.2, z1, rfl, z3⟩
      have Hd5 := s5 _ _ Gd
      walk_at "rd"
      refine ⟨d, v1, rfl, .inr ⟨kvs, inlK em.1, q0, .inr ⟨od, Hd5⟩, rfl, e2, w1.symm⟩, ?_⟩
      walk_at "rd"
      have hR5 := g5.tp.sqt hR
      refine ⟨_, _, _, _, rfl, rfl, hR5, rfl, ?_⟩
      walk_at "rd"
      refine ⟨hf0, fun zv H6 nz s6 => ?_⟩
      walk_at "rd"
      have nv6 := (w3.tq g5).tq (tq_same s6)
      refine ⟨_, _, nv6.dp, nz.dp, numD_shaped _ _, numD_shaped _ _, ?_⟩
      rw [numD_zero (hok em hm).2]
      refine ⟨_, rfl, ?_⟩
      refine iteDn (fun g => ?_) (fun g => ?_)
      · walk_at "rd"
        have hl : ys.length ≤ 5000 := by
          rw [Paired.length hp5]
          refine Nat.le_trans (keep_len _) ?_
          rw [List.length_take]; omega
        refine ⟨ys, s6 _ _ hD5, by rw [sizeLine_eq]; omega, _, fun b ob e => ?_, upd_same, ?_⟩
        · have nb : b ≠ D := fun z => by
            subst z
            rw [hD] at e; cases e
          exact (upd_ne nb).trans (s6 _ _ (s5 _ _ e))
        · rw [keep_step _ i em e4, if_pos g]
          have tq : Tq H5 (upd H6 D (.lst (ys ++ [.ref q0]))) := (tq_same s6).trans (tq_upd (s6 _ _ hD5) trivial)
          refine paired_app (Paired.mapP hp5 fun _ _ z => z.tq tq) ⟨q0, rfl, (tq _ _).1 ?_⟩
          show _ = some (HO.tup (em.1.map V.int))
          rw [← inlK_kV]
          exact e2
      · refine ⟨ys, fun b ob e => s6 _ _ (s5 _ _ e), s6 _ _ hD5, ?_⟩
        rw [keep_step _ i em e4, if_neg (by omega), List.append_nil]
        exact Paired.mapP hp5 fun _ _ z => z.tq (tq_same s6)
    · obtain ⟨ys, s5, hD5, hp5⟩ := q
      rw [kvs_len hK, List.take_length] at hp5
      have Hd5 := s5 _ _ Gd
      refine ⟨Hd5, ?_⟩
      obtain ⟨U, eU⟩ : ∃ U, U = upd H5 d (.dT kvs) := ⟨_, rfl⟩
      have sU : Same H U := fun b o e => by
        rw [eU]
        by_cases hb : b = d
        · subst hb
          rw [hd] at e
          cases e
          exact upd_same
        · refine (upd_ne hb).trans (s5 _ _ ?_)
          rw [eG]
          exact (upd_ne hb).trans e
      have nDd : D ≠ d := fun z => by
        subst z
        rw [Gd] at hD; cases hD
      have UD : U D = some (.lst ys) := by rw [eU]; exact (upd_ne nDd).trans hD5
      have uq : Tq H5 U := by rw [eU]; exact tq_upd Hd5 trivial
      have hpU : Paired (fun y u => MonV U y u.2) ys (keepOf al) := Paired.mapP hp5 fun _ _ z => z.tq uq
      rw [← eU]
      walk_at "rd"
      have ysl : ys.length ≤ 5000 := by
        rw [Paired.length hpU]
        exact Nat.le_trans (keep_len al) hal
      refine ⟨⟨ys, .inl (.inl UD)⟩, fun D1 hD1 => ?_⟩
      refine lc_list (K := K) (a := D) (xs := ys) (fun j H7 => ∃ zs, Same U H7 ∧ H7 D1 = some (.lst zs) ∧ Paired (fun z u => KeyV K H7 o z u.2) zs ((keepOf al).take j)) ⟨[], same_upd hD1, upd_same, .nil⟩ (fun j H7 _ q7 => by obtain ⟨_, q7, _⟩ := q7; exact .inl (.inl (q7 _ _ UD))) (fun j x H7 hx q7 => ?_) (fun H7 q7 => ?_)
      · obtain ⟨zs, s7, hD7, hp7⟩ := q7
        obtain ⟨u, hu, ⟨M, rfl, hM⟩⟩ := paired_at hpU hx
        have hum := keep_mem (List.mem_of_getElem? hu)
        have hmon := (hok _ hum).1
        have hM7 := s7 _ _ hM
        have sH7 : Same H H7 := Same.trans sU s7
        have hR7 := Toy.Same.tup sH7 hR
        walk_at "rd"
        refine ⟨n, o, ov, M, u.2, rfl, hv.h1, hv.h4, hv.ho, Dp.same sH7 _ _ hov, .inl (.inl hM7), hmon.1.1, hmon.1.2, fun v8 H8 s8 d8 => ?_⟩
        walk_at "rd"
        refine ⟨two_line, fun p hp => ?_⟩
        have s9 : Same H7 (upd H8 p (.tup [v8, .ref M])) := Same.trans s8 (same_upd hp)
        have d9 := s9 _ _ hD7
        have hzl : zs.length ≤ 5000 := by
          rw [Paired.length hp7, List.length_take]
          have := keep_len al
          omega
        have t9 : Tq H7 (upd (upd H8 p (.tup [v8, .ref M])) D1 (.lst (zs ++ [.ref p]))) := (tq_same s9).trans (tq_upd d9 trivial)
        have t8 : Tq H8 (upd (upd H8 p (.tup [v8, .ref M])) D1 (.lst (zs ++ [.ref p]))) := (tq_new hp).trans (tq_upd d9 trivial)
        have npD : p ≠ D1 := fun z => by
          subst z
          rw [s8 _ _ hD7] at hp; cases hp
        refine ⟨zs, d9, by rw [sizeLine_eq]; omega, _, fun b ob e => ?_, upd_same, ?_⟩
        · have nb : b ≠ D1 := fun z => by
            subst z
            rw [hD1] at e; cases e
          exact (upd_ne nb).trans (s9 _ _ (s7 _ _ e))
        · rw [List.take_add_one, hu, Option.toList_some]
          exact paired_app (Paired.mapP hp7 fun _ _ z => z.tq t9) ⟨p, M, v8, rfl, .inl (.inl ((upd_ne npD).trans upd_same)), Dp.tp t8.tp _ _ (tOnly_keyD o _) d8, (t9 _ _).1 hM7⟩
      · obtain ⟨zs, s7, hD7, hp7⟩ := q7
        have hkl : (keepOf al).length = ys.length := (Paired.length hpU).symm
        rw [← hkl, List.take_length] at hp7
        have sH7 : Same H H7 := Same.trans sU s7
        obtain ⟨c1, c2, c3⟩ := zip_paired hp7
        obtain ⟨cs, ecs⟩ : ∃ cs, cs = zs.zip (keepOf al) := ⟨_, rfl⟩
        rw [← ecs] at c1 c2 c3
        have cmon : ∀ c ∈ cs, Mon n c.2.2 := fun c hc => (hok _ (keep_mem (by rw [← c2]; exact List.mem_map_of_mem hc))).1
        walk_at "rd"
        refine ⟨D1, cs.map (fun c => (c.1, PyData.tuple [keyD o c.2.2, rD c.2.2])), rfl, .inl (.inl ?_), ?_, ?_, ?_, ?_, fun p9 hp9 => ?_⟩
        · rw [List.map_map]
          show H7 D1 = some (.lst (cs.map fun z => z.1))
          rw [c1]; exact hD7
        · intro b hb
          obtain ⟨c, hc, rfl⟩ := List.mem_map.mp hb
          exact (c3 c hc).dp
        · intro x hx y hy
          rw [List.map_map] at hx hy
          obtain ⟨z, hz, rfl⟩ := List.mem_map.mp hx
          obtain ⟨z', hz', rfl⟩ := List.mem_map.mp hy
          have hl : z.2.2.length = z'.2.2.length := by rw [(cmon z hz).1.1, (cmon z' hz').1.1]
          exact (ky_two (ky_key hl o) (ky_ints hl)).al
        · refine .inl fun x hx => ?_
          rw [List.map_map] at hx
          obtain ⟨z, hz, rfl⟩ := List.mem_map.mp hx
          exact ⟨_, _, rfl⟩
        · intro b hb
          obtain ⟨z, hz, rfl⟩ := List.mem_map.mp hb
          show (PyData.tuple [keyD o z.2.2, rD z.2.2]).depth ≤ 32
          rw [depth_two, depth_rD]
          have := depth_key o z.2.2
          omega
        obtain ⟨W, eW⟩ : ∃ W, W = cs.mergeSort (fun z z' => PySem.W.dataLe false (fun m => PyData.tuple [keyD o m, rD m]) z.2.2 z'.2.2) := ⟨_, rfl⟩
        have eS : ((cs.map (fun z => (z.1, PyData.tuple [keyD o z.2.2, rD z.2.2]))).mergeSort (PySem.W.dataLe false fun b => b.2)).map (fun b => b.1) = W.map fun z => z.1 := by
          rw [← PySem.W.sort_maps (r := fun z z' => PySem.W.dataLe false (fun m => PyData.tuple [keyD o m, rD m]) z.2.2 z'.2.2) (fun z : V × Tm => (z.1, PyData.tuple [keyD o z.2.2, rD z.2.2])) (fun _ _ _ _ => rfl), ← eW, List.map_map]
          rfl
        have wp : W.Perm cs := by rw [eW]; exact List.mergeSort_perm _ _
        have w2 : W.reverse.map (fun z => z.2.2) = (sortT n o (keepOf al)).map (·.2) := by
          rw [← keys_sorted hv.h1 hv.h4 hv.ho (fun u hu => (hok _ (keep_mem hu)).1), List.map_reverse, eW]
          rw [PySem.W.sort_maps (s := PySem.W.dataLe false (fun m => PyData.tuple [keyD o m, rD m])) (fun z : V × Tm => z.2.2) (fun _ _ _ _ => rfl)]
          have e0 : cs.map (fun z => z.2.2) = (keepOf al).map (·.2) := by rw [← c2, List.map_map]; rfl
          rw [e0]
          congr 1
          refine PySem.W.sort_congr fun a ha b hb => ?_
          obtain ⟨u1, g1, rfl⟩ := List.mem_map.mp ha
          obtain ⟨u2, g2, rfl⟩ := List.mem_map.mp hb
          exact (le_same (hok _ (keep_mem g1)).1 (hok _ (keep_mem g2)).1 hv.h1 hv.h4 hv.ho).symm
        rw [eS]
        have s9 := same_upd (o := .lst (W.map fun z => z.1)) hp9
        refine ⟨p9, _, rfl, .inl (.inl upd_same), fun p10 hp10 => ?_⟩
        obtain ⟨H10, e10⟩ : ∃ H10, H10 = upd (upd H7 p9 (.lst (W.map fun z => z.1))) p10 (.lst (W.map fun z => z.1).reverse) := ⟨_, rfl⟩
        have s10 : Same H7 H10 := by rw [e10]; exact Same.trans s9 (same_upd hp10)
        have hl10 : H10 p10 = some (.lst (W.reverse.map fun z => z.1)) := by rw [e10, upd_same, List.map_reverse]
        rw [← e10]
        have sH10 : Same H H10 := Same.trans sH7 s10
        have wl : W.reverse.length = (sortT n o (keepOf al)).length := by
          have := congrArg List.length w2
          rwa [List.length_map, List.length_map] at this
        have sl5 : (sortT n o (keepOf al)).length ≤ 5000 := by
          rw [(sortT_perm n o _).length_eq]
          exact Nat.le_trans (keep_len al) hal
        walk_at "rd"
        refine ⟨⟨_, .inl (.inl hl10)⟩, fun D2 hD2 => ?_⟩
        refine lc_list (K := K) (a := p10) (xs := W.reverse.map fun z => z.1) (fun j H11 => ∃ us, Same H10 H11 ∧ H11 D2 = some (.lst us) ∧ Paired (fun z u => TermV K H11 f z u) us ((sortT n o (keepOf al)).take j)) ⟨[], same_upd hD2, upd_same, .nil⟩ (fun j H11 _ q => by obtain ⟨_, q, _⟩ := q; exact .inl (.inl (q _ _ hl10))) (fun j x H11 hx q => ?_) (fun H11 q => ?_)
        · obtain ⟨us, s11, hD11, hp11⟩ := q
          rw [List.getElem?_map] at hx
          obtain ⟨z, hz, rfl⟩ := Option.map_eq_some_iff.mp hx
          have hzc : z ∈ cs := wp.mem_iff.mp (List.mem_reverse.mp (List.mem_of_getElem? hz))
          have hj : j < (sortT n o (keepOf al)).length := by
            rw [← wl]
            exact (List.getElem?_eq_some_iff.mp hz).1
          have hu : (sortT n o (keepOf al))[j]? = some (sortT n o (keepOf al))[j] := List.getElem?_eq_getElem hj
          obtain ⟨u, eu⟩ : ∃ u, u = (sortT n o (keepOf al))[j] := ⟨_, rfl⟩
          rw [← eu] at hu
          have ez : z.2.2 = u.2 := by
            have h1 : (W.reverse.map fun z => z.2.2)[j]? = some z.2.2 := by rw [List.getElem?_map, hz]; rfl
            rw [w2, List.getElem?_map, hu] at h1
            exact (Option.some.inj h1).symm
          have huk : u ∈ keepOf al := (sortT_perm n o _).mem_iff.mp (List.mem_of_getElem? hu)
          have hgu := keep_get hnd huk
          obtain ⟨v1, w1, w3⟩ : ∃ v1, valV kvs (inlK u.2) = some v1 ∧ NumV H f v1 u.1 := by
            rcases kvs_get (m := u.2) hK with ⟨_, y⟩ | ⟨v1, x1, y1, y2, y3⟩
            · rw [hgu] at y; cases y
            · rw [hgu] at y2
              cases y2
              exact ⟨v1, y1, y3⟩
          have s711 : Same H7 H11 := Same.trans s10 s11
          obtain ⟨za, M, kv, e0, hT, hkd, hM⟩ := (c3 z hzc).tq (tq_same s711)
          rw [ez] at hM
          have hdd := (Same.trans sH10 s11) _ _ hd
          refine ⟨za, _, e0, hT, rfl, ?_⟩
          walk_at "rd"
          refine ⟨d, v1, rfl, ?_, ?_⟩
          · have := DGet.t hdd (b := M) (k := inlK u.2) (by rw [inlK_kV]; exact hM)
            rw [w1] at this
            exact this
          walk_at "rd"
          refine ⟨two_line, fun p hp => ?_⟩
          have s12 : Same H11 (upd H11 p (.tup [v1, .ref M])) := same_upd hp
          have d12 := s12 _ _ hD11
          have hul : us.length ≤ 5000 := by
            rw [Paired.length hp11, List.length_take]
            omega
          have t12 : Tq H11 (upd (upd H11 p (.tup [v1, .ref M])) D2 (.lst (us ++ [.ref p]))) := (tq_same s12).trans (tq_upd d12 trivial)
          have npD : p ≠ D2 := fun z => by
            subst z
            rw [hD11] at hp; cases hp
          refine ⟨us, d12, by rw [sizeLine_eq]; omega, _, fun b ob e => ?_, upd_same, ?_⟩
          · have nb : b ≠ D2 := fun z => by
              subst z
              rw [hD2] at e; cases e
            exact (upd_ne nb).trans (s12 _ _ (s11 _ _ e))
          · rw [List.take_add_one, hu, Option.toList_some]
            exact paired_app (Paired.mapP hp11 fun _ _ z => z.tq t12) ⟨p, M, v1, rfl, .inl (.inl ((upd_ne npD).trans upd_same)), (w3.tq (tq_same (Same.trans sH10 s11))).tq t12, (t12 _ _).1 hM⟩
        · obtain ⟨us, s11, hD11, hp11⟩ := q
          rw [List.length_map, wl, List.take_length] at hp11
          walk_at "rd"
          refine ⟨_, _, rfl, .inl ⟨.inl (.inl hD11), fun tu htu => ?_⟩⟩
          have s12 := same_upd (o := .tup us) htu
          refine k _ _ (Same.trans sH10 (Same.trans s11 s12)) ⟨tu, us, rfl, .inl (.inl upd_same), Paired.length hp11, fun i v u h1 h2 => ?_⟩
          obtain ⟨u', h3, h4⟩ := paired_at hp11 h1
          rw [h2] at h3
          cases h3
          exact h4.tq (tq_same s12)
end

/-! ### quotients in lowest terms -/
theorem low_spec (n : Int) {d : Int} (hd : d ≠ 0) : 0 < (lowQ n d).2 ∧ Nat.gcd (lowQ n d).1.natAbs (lowQ n d).2.natAbs = 1 ∧ (lowQ n d).1 * d = n * (lowQ n d).2 ∧ (lowQ n d).1.natAbs ≤ n.natAbs ∧ (lowQ n d).2.natAbs ≤ d.natAbs := by
  have hg := sgnG_ne (n := n) hd
  have ha := sgnG_abs n d
  have h1 : sgnG n d ∣ n := Int.natAbs_dvd_natAbs.mp (by rw [ha]; exact Nat.gcd_dvd_left _ _)
  have h2 : sgnG n d ∣ d := Int.natAbs_dvd_natAbs.mp (by rw [ha]; exact Nat.gcd_dvd_right _ _)
  have hs : (d < 0 → sgnG n d < 0) ∧ (0 < d → 0 < sgnG n d) := by
    have hp : 0 < Nat.gcd n.natAbs d.natAbs := Nat.gcd_pos_of_pos_right _ (by omega)
    unfold sgnG
    constructor
    · intro h; rw [if_pos h]; omega
    · intro h; rw [if_neg (by omega)]; omega
  unfold lowQ
  generalize sgnG n d = g at *
  obtain ⟨u, rfl⟩ := h1
  obtain ⟨v, rfl⟩ := h2
  have e1 : (g * u).fdiv g = u := by rw [Int.fdiv_eq_ediv_of_dvd (Int.dvd_mul_right _ _), Int.mul_ediv_cancel_left _ hg]
  have e2 : (g * v).fdiv g = v := by rw [Int.fdiv_eq_ediv_of_dvd (Int.dvd_mul_right _ _), Int.mul_ediv_cancel_left _ hg]
  simp only [e1, e2]
  have hgp : 0 < g.natAbs := by omega
  refine ⟨?_, ?_, by grind, ?_, ?_⟩
  · rcases Int.lt_trichotomy g 0 with h | h | h
    · by_cases hv : 0 < v
      · exact hv
      · exfalso
        by_cases hv0 : v = 0
        · subst hv0; simp at hd
        · have : 0 < g * v := Int.mul_pos_of_neg_of_neg h (by omega)
          have := hs.2 this; omega
    · exact absurd h hg
    · by_cases hv : 0 < v
      · exact hv
      · exfalso
        by_cases hv0 : v = 0
        · subst hv0; simp at hd
        · have : g * v < 0 := Int.mul_neg_of_pos_of_neg h (by omega)
          have := hs.1 this; omega
  · rw [Int.natAbs_mul, Int.natAbs_mul, Nat.gcd_mul_left] at ha
    have : g.natAbs * Nat.gcd u.natAbs v.natAbs = g.natAbs * 1 := by omega
    exact Nat.eq_of_mul_eq_mul_left hgp this
  · rw [Int.natAbs_mul]
    exact Nat.le_mul_of_pos_left _ hgp
  · rw [Int.natAbs_mul]
    exact Nat.le_mul_of_pos_left _ hgp
theorem low_uniq {u v u' v' : Int} (hv : 0 < v) (hv' : 0 < v') (g : Nat.gcd u.natAbs v.natAbs = 1) (g' : Nat.gcd u'.natAbs v'.natAbs = 1) (h : u * v' = u' * v) : (u, v) = (u', v') := by
  have ha : u.natAbs * v'.natAbs = u'.natAbs * v.natAbs := by rw [← Int.natAbs_mul, h, Int.natAbs_mul]
  have d1 : v.natAbs ∣ v'.natAbs := by
    have : v.natAbs ∣ u.natAbs * v'.natAbs := by rw [ha]; exact Nat.dvd_mul_left _ _
    exact (Nat.Coprime.symm g).dvd_of_dvd_mul_left this
  have d2 : v'.natAbs ∣ v.natAbs := by
    have : v'.natAbs ∣ u'.natAbs * v.natAbs := by rw [← ha]; exact Nat.dvd_mul_left _ _
    exact (Nat.Coprime.symm g').dvd_of_dvd_mul_left this
  have e : v = v' := by
    have := Nat.dvd_antisymm d1 d2
    omega
  subst e
  have e2 : u = u' := Int.eq_of_mul_eq_mul_right (by omega) h
  rw [e2]
/-- one number for one quotient -/
theorem low_eq {n d m l : Int} (hd : d ≠ 0) (hl : l ≠ 0) (h : n * l = m * d) : lowQ n d = lowQ m l := by
  obtain ⟨a1, a2, a3, _⟩ := low_spec n hd
  obtain ⟨b1, b2, b3, _⟩ := low_spec m hl
  generalize lowQ n d = p at *
  generalize lowQ m l = q at *
  obtain ⟨u, v⟩ := p
  obtain ⟨u', v'⟩ := q
  refine low_uniq a1 b1 a2 b2 ?_
  have hdl : d * l ≠ 0 := Int.mul_ne_zero hd hl
  refine Int.eq_of_mul_eq_mul_right hdl ?_
  simp only at a3 b3
  grind

/-! ### sums of small numbers; sums in another order -/
def NumS2 (f : Int) (x : Int × Int) : Prop := NumOk f x ∧ (f = 0 → x.1.natAbs ≤ 4 ∧ x.2.natAbs ≤ 3)
/-- a number of at most 24 k sixths -/
def Sm (f : Int) (k : Nat) (x : Int × Int) : Prop := NumOk f x ∧ (f = 0 → ∃ N : Int, N.natAbs ≤ 24 * k ∧ x = lowQ N 6)
theorem numOk_q {x : Int × Int} : NumOk 0 x ↔ x.1.natAbs < NBn ∧ 0 < x.2 ∧ x.2.natAbs < NBn ∧ Nat.gcd x.1.natAbs x.2.natAbs = 1 := by
  unfold NumOk; rw [if_pos rfl]
theorem numOk_m {f : Int} (h : f ≠ 0) {x : Int × Int} : NumOk f x ↔ 0 ≤ x.1 ∧ x.1 < f ∧ x.2 = 1 := by
  unfold NumOk; rw [if_neg h]
theorem low_self {x : Int × Int} (h : 0 < x.2) (g : Nat.gcd x.1.natAbs x.2.natAbs = 1) : lowQ x.1 x.2 = x := by
  obtain ⟨a1, a2, a3, _⟩ := low_spec x.1 (d := x.2) (by omega)
  exact low_uniq a1 h a2 g a3
theorem nb_big : 24 * 1000000 < NBn ∧ 6 < NBn := by decide +kernel
theorem sm_ok {N : Int} {k : Nat} (h : N.natAbs ≤ 24 * k) (hk : k ≤ 1000000) : NumOk 0 (lowQ N 6) := by
  obtain ⟨a1, a2, a3, a4, a5⟩ := low_spec N (d := 6) (by decide)
  have := nb_big
  refine numOk_q.2 ⟨by omega, a1, ?_, a2⟩
  have : (6 : Int).natAbs = 6 := rfl
  omega
theorem sm_of {f : Int} {x : Int × Int} (h : NumS2 f x) : Sm f 1 x := by
  refine ⟨h.1, fun hf => ?_⟩
  subst hf
  obtain ⟨h1, h2⟩ := h.2 rfl
  obtain ⟨_, g1, _, g2⟩ := numOk_q.1 h.1
  have e := low_self g1 g2
  obtain ⟨n, d⟩ := x
  simp only at *
  have hd : d = 1 ∨ d = 2 ∨ d = 3 := by omega
  rcases hd with rfl | rfl | rfl
  · exact ⟨6 * n, by omega, by rw [← e]; exact low_eq (by decide) (by decide) (by omega)⟩
  · exact ⟨3 * n, by omega, by rw [← e]; exact low_eq (by decide) (by decide) (by omega)⟩
  · exact ⟨2 * n, by omega, by rw [← e]; exact low_eq (by decide) (by decide) (by omega)⟩
theorem sm_le {f : Int} {j k : Nat} {x : Int × Int} (hjk : j ≤ k) (h : Sm f j x) : Sm f k x := ⟨h.1, fun hf => by
  obtain ⟨N, h1, h2⟩ := h.2 hf
  exact ⟨N, by omega, h2⟩⟩
theorem sm_add {f : Int} (hF : IsF f) {j k : Nat} {a b : Int × Int} (ha : Sm f j a) (hb : Sm f k b) (hk : j + k ≤ 1000000) : Sm f (j + k) (addN f a b) := by
  by_cases hf : f = 0
  · subst hf
    obtain ⟨N, n1, rfl⟩ := ha.2 rfl
    obtain ⟨M, m1, rfl⟩ := hb.2 rfl
    obtain ⟨a1, a2, a3, _⟩ := low_spec N (d := 6) (by decide)
    obtain ⟨b1, b2, b3, _⟩ := low_spec M (d := 6) (by decide)
    have e : addN 0 (lowQ N 6) (lowQ M 6) = lowQ (N + M) 6 := by
      unfold addN
      rw [if_pos rfl]
      generalize lowQ N 6 = p at *
      generalize lowQ M 6 = q at *
      obtain ⟨u, v⟩ := p
      obtain ⟨u', v'⟩ := q
      simp only at *
      refine low_eq (Int.mul_ne_zero (by omega) (by omega)) (by decide) ?_
      grind
    rw [e]
    have hN : (N + M).natAbs ≤ 24 * (j + k) := by omega
    exact ⟨sm_ok hN hk, fun _ => ⟨N + M, hN, rfl⟩⟩
  · refine ⟨?_, fun z => absurd z hf⟩
    have h2 := hF.pos hf
    unfold addN
    rw [if_neg hf]
    exact (numOk_m hf).2 ⟨Int.emod_nonneg _ (by omega), Int.emod_lt_of_pos _ (by omega), rfl⟩
theorem addN_zero {f : Int} {x : Int × Int} (h : NumOk f x) : addN f (0, 1) x = x := by
  by_cases hf : f = 0
  · subst hf
    obtain ⟨_, g1, _, g2⟩ := numOk_q.1 h
    unfold addN
    rw [if_pos rfl]
    have e1 : (0 : Int) * x.2 + x.1 * 1 = x.1 := by omega
    have e2 : (1 : Int) * x.2 = x.2 := by omega
    show lowQ (0 * x.2 + x.1 * 1) (1 * x.2) = x
    rw [e1, e2, low_self g1 g2]
  · obtain ⟨h1, h2, h3⟩ := (numOk_m hf).1 h
    unfold addN
    rw [if_neg hf]
    show ((0 + x.1) % f, 1) = x
    rw [Int.zero_add, Int.emod_eq_of_lt h1 h2, ← h3]
/-- the law's step is the program's -/
theorem law_step {f : Int} {al : Al2} {x : Int × Int} {m : List Int} (h : NumOk f x) : putM al m (addN f ((getM al m).getD (0, 1)) x) = addT f al (x, m) := by
  unfold addT
  show putM al m _ = putM al m _
  cases hg : getM al m with
  | none => show putM al m (addN f (0, 1) x) = _; rw [addN_zero h]
  | some y => rfl
theorem mem_getM : ∀ {al : Al2} {m : List Int} {x : Int × Int}, getM al m = some x → (m, x) ∈ al
  | [], _, _, h => by cases h
  | e :: al, m, x, h => by
    unfold getM at h
    by_cases c : e.1 = m
    · rw [if_pos c] at h
      rw [← c, ← Option.some.inj h]
      exact List.mem_cons_self
    · rw [if_neg c] at h
      exact List.mem_cons_of_mem _ (mem_getM h)
theorem fold_sm {f : Int} (hF : IsF f) : ∀ (ts : List Tm) (al : Al2) (j : Nat), (∀ e ∈ al, Sm f j e.2) → (∀ t ∈ ts, Sm f 1 t.1) → j + ts.length ≤ 1000000 → ∀ e ∈ ts.foldl (addT f) al, Sm f (j + ts.length) e.2
  | [], al, j, h, _, _ => h
  | t :: ts, al, j, h, g, hk => by
    rw [List.length_cons] at hk ⊢
    have := fold_sm hF ts (addT f al t) (j + 1) (fun e he => ?_) (fun u hu => g u (List.mem_cons_of_mem _ hu)) (by omega)
    · intro e he
      have := this e he
      rwa [show j + 1 + ts.length = j + (ts.length + 1) by omega] at this
    · rcases mem_putM he with h1 | rfl
      · exact sm_le (by omega) (h e h1)
      · cases hg : getM al t.2 with
        | none => exact sm_le (by omega) (g t List.mem_cons_self)
        | some y => exact sm_add hF (h _ (mem_getM hg)) (g t List.mem_cons_self) (by omega)
theorem sumOk_sm {f : Int} (hF : IsF f) {ts : List Tm} (g : ∀ t ∈ ts, Sm f 1 t.1) (hl : ts.length ≤ 1000) : SumOk f ts := fun k e he =>
  (fold_sm hF (ts.take k) [] 0 (by simp) (fun t ht => g t (List.mem_of_mem_take ht)) (by rw [List.length_take]; omega) e he).1
/-! distinct monomials -/
def swT (u : Tm) : List Int × (Int × Int) := (u.2, u.1)
theorem fold_dist (f : Int) : ∀ (ts : List Tm) (al : Al2), (al.map (·.1) ++ ts.map (·.2)).Nodup → ts.foldl (addT f) al = al ++ ts.map swT
  | [], al, _ => by simp
  | t :: ts, al, h => by
    have hn : getM al t.2 = none := by
      cases hg : getM al t.2 with
      | none => rfl
      | some y =>
        exfalso
        rw [List.map_cons, List.nodup_append] at h
        exact h.2.2 _ (List.mem_map_of_mem (f := (·.1)) (mem_getM hg)) _ List.mem_cons_self rfl
    have e : addT f al t = al ++ [swT t] := by
      rw [addT_none hn]
      unfold putM
      rw [getM_any, hn]
      rfl
    rw [List.foldl_cons, e, fold_dist f ts]
    · simp
    · rw [List.map_append]
      simpa [swT] using h
theorem sum_dist {f : Int} {ts : List Tm} (h : (ts.map (·.2)).Nodup) : sumL f ts = ts.map swT := by
  unfold sumL
  rw [fold_dist f ts [] (by simpa using h), List.nil_append]
theorem sumOk_dist {f : Int} {ts : List Tm} (h : (ts.map (·.2)).Nodup) (g : ∀ t ∈ ts, NumOk f t.1) : SumOk f ts := fun k e he => by
  rw [fold_dist f (ts.take k) [] ?_, List.nil_append] at he
  · obtain ⟨t, ht, rfl⟩ := List.mem_map.mp he
    exact g t (List.mem_of_mem_take ht)
  · simp only [List.map_nil, List.nil_append]
    exact h.sublist ((List.take_sublist k ts).map _)
theorem keep_dist {f : Int} {ts : List Tm} (h : (ts.map (·.2)).Nodup) (g : ∀ t ∈ ts, t.1.1 ≠ 0) : keepOf (sumL f ts) = ts := by
  rw [sum_dist h]
  unfold keepOf
  rw [List.filter_eq_self.mpr, List.map_map]
  · exact (List.map_congr_left fun t _ => rfl).trans (List.map_id ts)
  · intro e he
    obtain ⟨t, ht, rfl⟩ := List.mem_map.mp he
    exact decide_eq_true (g t ht)
/-! sorted lists -/
theorem sort_same {n : Nat} {o : Ord} {a b : List Tm} (h1 : 1 ≤ n) (h4 : n ≤ 4) (ho : OrdOk n o) (hp : a.Perm b) (hm : ∀ u ∈ a, Mon n u.2) (hd : (a.map (·.2)).Nodup) : sortT n o a = sortT n o b := by
  refine perm_pair_eq (fun u : Tm => codeN n o u.2) ((sortT_perm n o a).trans (hp.trans (sortT_perm n o b).symm)) (sortT_pair n o a) (sortT_pair n o b) fun x hx y hy e => ?_
  have hx := (sortT_perm n o a).mem_iff.mp hx
  have hy := (sortT_perm n o a).mem_iff.mp hy
  have e2 : x.2 = y.2 := code_inj (hm x hx) (hm y hy) h1 h4 ho e
  obtain ⟨i, hi, ei⟩ := List.getElem_of_mem hx
  obtain ⟨j, hj, ej⟩ := List.getElem_of_mem hy
  have hij : i = j := by
    have q1 : (a.map (·.2))[i]'(by rw [List.length_map]; exact hi) = x.2 := by rw [List.getElem_map, ei]
    have q2 : (a.map (·.2))[j]'(by rw [List.length_map]; exact hj) = y.2 := by rw [List.getElem_map, ej]
    exact (List.getElem_inj hd).mp (q1.trans (e2.trans q2.symm))
  subst hij
  rw [← ei, ← ej]
theorem sort_idem {n : Nat} {o : Ord} {a : List Tm} (h1 : 1 ≤ n) (h4 : n ≤ 4) (ho : OrdOk n o) (hm : ∀ u ∈ a, Mon n u.2) (hd : (a.map (·.2)).Nodup) {b : List Tm} (hb : b.Perm a) : sortT n o b = sortT n o a :=
  (sort_same h1 h4 ho hb.symm hm hd).symm
/-- what keeps terms: sums are polynomials -/
theorem kept_ok {f : Int} {n : Nat} {al : Al2} (hok : ∀ e ∈ al, Mon n e.1 ∧ NumOk f e.2) : ∀ u ∈ keepOf al, TermOk f n u ∧ u.1.1 ≠ 0 := fun u hu => by
  unfold keepOf at hu
  obtain ⟨e, he, rfl⟩ := List.mem_map.mp hu
  have hm := List.mem_filter.mp he
  have := hok e hm.1
  exact ⟨⟨this.2, this.1⟩, of_decide_eq_true hm.2⟩
theorem keep_nodup {al : Al2} (h : (al.map (·.1)).Nodup) : ((keepOf al).map (·.2)).Nodup := by
  unfold keepOf
  rw [List.map_map]
  exact ((List.filter_sublist (l := al) (p := fun e => decide (e.2.1 ≠ 0))).map _).nodup h
theorem poly_ok {f : Int} {n : Nat} {o : Ord} {l : List Tm} (h1 : 1 ≤ n) (h4 : n ≤ 4) (ho : OrdOk n o) (hl : l.length ≤ 500) (hok : ∀ u ∈ l, TermOk f n u ∧ u.1.1 ≠ 0) (hd : (l.map (·.2)).Nodup) : PolyOk f n (rowsL n o) (sortT n o l) := by
  have hp := sortT_perm n o l
  refine ⟨by rw [hp.length_eq]; exact hl, fun t ht => hok t (hp.mem_iff.mp ht), fun i t u a b => ?_⟩
  have hpair := sortT_pair n o l
  have hi := (List.getElem?_eq_some_iff.mp a).1
  have hj := (List.getElem?_eq_some_iff.mp b).1
  have e1 := (List.getElem?_eq_some_iff.mp a).2
  have e2 := (List.getElem?_eq_some_iff.mp b).2
  have hle : codeN n o u.2 ≤ codeN n o t.2 := by
    have := List.pairwise_iff_getElem.mp hpair i (i + 1) hi hj (by omega)
    rwa [e1, e2] at this
  have hne : codeN n o u.2 ≠ codeN n o t.2 := fun e => by
    have htm := hok t (hp.mem_iff.mp (List.mem_of_getElem? a))
    have hum := hok u (hp.mem_iff.mp (List.mem_of_getElem? b))
    have e3 : u.2 = t.2 := code_inj hum.1.2 htm.1.2 h1 h4 ho e
    have hdn : ((sortT n o l).map (·.2)).Nodup := (hp.map _).nodup_iff.mpr hd
    have q1 : ((sortT n o l).map (·.2))[i]'(by rw [List.length_map]; exact hi) = t.2 := by rw [List.getElem_map, e1]
    have q2 : ((sortT n o l).map (·.2))[i + 1]'(by rw [List.length_map]; exact hj) = u.2 := by rw [List.getElem_map, e2]
    have := (List.getElem_inj hdn).mp (q1.trans (e3.symm.trans q2.symm))
    omega
  show codeN n o u.2 < codeN n o t.2
  omega

section
variable {P : Program} {w : World} {K : PySem.W.Frag} {mg : Str → Option Value} {base : Heap}
/-- all but the row and the tables stays; the row is a row, the tables are in order -/
structure LK (t : TabsAt) (K : PySem.W.Frag) (r sa : Addr) (ns : List Int) (H H' : Hp) : Prop where
  keep : ∀ b o, b ≠ r → H b = some o → (∀ ps, o ≠ .tbl ps) → H' b = some o
  row : RowAt K H' r sa ns
  ts : TS t H'
theorem LK.trans {t : TabsAt} {r sa : Addr} {ns : List Int} {H H1 H2 : Hp} (a : LK t K r sa ns H H1) (b : LK t K r sa ns H1 H2) : LK t K r sa ns H H2 := ⟨fun c o n e q => b.keep c o n (a.keep c o n e q) q, b.row, b.ts⟩
theorem tabG_but {r p : Addr} {H H' : Hp} {xs : List V} (h : GxR.TabG H p) (hr : H r = some (.lst xs)) (k : KeepBut r H H') : GxR.TabG H' p := by
  obtain ⟨ps, p1, p2⟩ := h
  exact ⟨ps, k _ _ (fun z => by rw [z, hr] at p1; cases p1) p1, p2⟩
theorem TS.rk {t : TabsAt} {r : Addr} {H H' : Hp} {xs : List V} (h : TS t H) (hr : H r = some (.lst xs)) (k : KeepBut r H H') : TS t H' := by
  refine ⟨fun x hx => tabG_but (h.g x hx) hr k, fun x hx z hz => ?_⟩
  obtain ⟨ps, a1, a2, a3⟩ := h.l x hx z hz
  refine ⟨ps, k _ _ (fun e => by rw [e, hr] at a1; cases a1) a1, a2, fun pos cv hcv => ?_⟩
  obtain ⟨cz, q1, q2⟩ := a3 pos cv hcv
  refine ⟨cz, q1, k _ _ (fun e => ?_) q2⟩
  rw [e, hr] at q2
  unfold LamX.CodeO at q2
  cases q2
theorem LK.rk {t : TabsAt} {r sa : Addr} {ns : List Int} {H H' : Hp} (h : RowAt K H r sa ns) (ht : TS t H) (k : RK K r sa ns H H') : LK t K r sa ns H H' := by
  obtain ⟨xs, hr⟩ := row_lst h
  exact ⟨fun b o n e _ => k.keep b o n e, k.row, ht.rk hr k.keep⟩
theorem RowAt.ext {r sa : Addr} {ns : List Int} {H H' : Hp} (h : RowAt K H r sa ns) (s : LamX.ExtN H H') : RowAt K H' r sa ns := by
  obtain ⟨p, sd, e, hrow, hS, hb⟩ := h
  refine ⟨p, sd, e, s _ _ hrow (fun ps z => by cases z), ?_, hb⟩
  rcases hS with ⟨q | ⟨u, q⟩, n⟩ | q
  · exact .inl ⟨.inl (s _ _ q (fun ps z => by cases z)), n⟩
  · exact .inl ⟨.inr ⟨u, s _ _ q (fun ps z => by cases z)⟩, n⟩
  · exact .inr q
theorem LK.ex {t : TabsAt} {r sa : Addr} {ns : List Int} {H H' : Hp} (h : RowAt K H r sa ns) (x : Ex t H H') : LK t K r sa ns H H' := ⟨fun b o _ e n => x.keep b o e n, h.ext x.keep, x.ts⟩
theorem LK.same {t : TabsAt} {r sa : Addr} {ns : List Int} {H H' : Hp} (h : RowAt K H r sa ns) (ht : TS t H) (s : Same H H') : LK t K r sa ns H H' := ⟨fun b o _ e _ => s b o e, h.sm s, ht.same s⟩
theorem LK.tp {t : TabsAt} {r sa : Addr} {ns : List Int} {H H' : Hp} (h : RowAt K H r sa ns) (a : LK t K r sa ns H H') : Tp H H' := fun b xs q => by
  obtain ⟨ys, hr⟩ := row_lst h
  have n : b ≠ r := fun e => by
    subst e
    rcases q with q | ⟨o, q⟩
    · rw [hr] at q; cases q
    · rw [hr] at q; cases q
  rcases q with q | ⟨o, q⟩
  · exact .inl (a.keep _ _ n q fun ps z => by cases z)
  · exact .inr ⟨o, a.keep _ _ n q fun ps z => by cases z⟩
theorem LK.tq {t : TabsAt} {r sa : Addr} {ns : List Int} {H H' : Hp} (h : RowAt K H r sa ns) (a : LK t K r sa ns H H') : Tq H H' := fun b xs => by
  obtain ⟨ys, hr⟩ := row_lst h
  have n : ∀ {u}, H b = some u → (∀ zs, u ≠ .lst zs) → b ≠ r := fun {u} e z y => by
    subst y
    rw [hr] at e
    cases e
    exact z _ rfl
  exact ⟨fun q => a.keep _ _ (n q fun _ z => by cases z) q fun ps z => (by cases z), fun o q => a.keep _ _ (n q fun _ z => by cases z) q fun ps z => by cases z⟩
end

/-! ### nested values of a bounded depth -/
def Sz : Nat → PyData → Prop
  | 0, d => (∃ i, d = .int i) ∨ d = .none
  | k + 1, d => (∃ i, d = .int i) ∨ d = .none ∨ ∃ ds, d = .tuple ds ∧ ds.length ≤ 100000 ∧ ∀ e ∈ ds, Sz k e
theorem sz_up : ∀ {k : Nat} {d : PyData}, Sz k d → Sz (k + 1) d
  | 0, _, h => by
    rcases h with ⟨i, rfl⟩ | rfl
    · exact .inl ⟨i, rfl⟩
    · exact .inr (.inl rfl)
  | k + 1, _, h => by
    rcases h with ⟨i, rfl⟩ | rfl | ⟨ds, rfl, h1, h2⟩
    · exact .inl ⟨i, rfl⟩
    · exact .inr (.inl rfl)
    · exact .inr (.inr ⟨ds, rfl, h1, fun e he => sz_up (h2 e he)⟩)
theorem sz_le {k j : Nat} {d : PyData} (hk : k ≤ j) (h : Sz k d) : Sz j d := by
  induction hk with
  | refl => exact h
  | step _ ih => exact sz_up ih
theorem sz_int (k : Nat) (i : Int) : Sz k (.int i) := by
  cases k with
  | zero => exact .inl ⟨i, rfl⟩
  | succ k => exact .inl ⟨i, rfl⟩
theorem sz_tup {k : Nat} {ds : List PyData} (h1 : ds.length ≤ 100000) (h2 : ∀ e ∈ ds, Sz k e) : Sz (k + 1) (.tuple ds) := .inr (.inr ⟨ds, rfl, h1, h2⟩)
theorem sz_rD {m : List Int} (h : m.length ≤ 100000) : Sz 1 (rD m) := sz_tup (by rw [List.length_map]; exact h) fun e he => by
  obtain ⟨i, _, rfl⟩ := List.mem_map.mp he
  exact sz_int 0 i
theorem sz_num (f : Int) (x : Int × Int) : Sz 1 (numD f x) := by
  unfold numD
  split
  · refine sz_tup (by show 2 ≤ 100000; decide) fun e he => ?_
    simp only [List.mem_cons, List.not_mem_nil, or_false] at he
    rcases he with rfl | rfl <;> exact sz_int 0 _
  · exact sz_int 1 _
theorem sz_lay : ∀ {k : Nat} {d : PyData}, Sz k d → d.canLay0 = true ∧ d.depth ≤ k
  | 0, _, h => by
    rcases h with ⟨i, rfl⟩ | rfl
    · exact ⟨rfl, Nat.le_refl _⟩
    · exact ⟨rfl, Nat.le_refl _⟩
  | k + 1, _, h => by
    rcases h with ⟨i, rfl⟩ | rfl | ⟨ds, rfl, h1, h2⟩
    · exact ⟨rfl, Nat.zero_le _⟩
    · exact ⟨rfl, Nat.zero_le _⟩
    · have go : ∀ ds : List PyData, (∀ e ∈ ds, Sz k e) → PyData.canLayAll0 ds = true ∧ PyData.depthAll ds ≤ k := by
        intro ds
        induction ds with
        | nil => intro _; exact ⟨rfl, Nat.zero_le _⟩
        | cons e ds ih =>
          intro h
          obtain ⟨q1, q2⟩ := sz_lay (h e List.mem_cons_self)
          obtain ⟨q3, q4⟩ := ih fun e he => h e (List.mem_cons_of_mem _ he)
          exact ⟨by simp [PyData.canLayAll0, q1, q3], by simp only [PyData.depthAll]; omega⟩
      obtain ⟨q1, q2⟩ := go ds h2
      exact ⟨q1, Nat.succ_le_succ q2⟩
theorem sz_shaped {k : Nat} {d : PyData} (h : Sz k d) (hk : k ≤ 64) : SeqAt.shaped d = true := by
  obtain ⟨q1, q2⟩ := sz_lay h
  show (d.canLay0 && decide (d.depth ≤ 64)) = true
  rw [q1, decide_eq_true (by omega)]; rfl
theorem dpAll_ix {K : PySem.W.Frag} {H : Hp} : ∀ {xs : List V} {ds : List PyData}, DpAll K H xs ds → ∀ {i : Nat} {x : V}, xs[i]? = some x → ∃ d, ds[i]? = some d ∧ Dp K H x d
  | [], _, _, _, _, h => by simp at h
  | _ :: _, [], h, _, _, _ => by cases h
  | x :: xs, d :: ds, h, 0, _, e => by
    cases h with
    | cons a b => simp at e; subst e; exact ⟨d, rfl, a⟩
  | x :: xs, d :: ds, h, i + 1, _, e => by
    cases h with
    | cons a b => exact dpAll_ix b (by simpa using e)
/-- two values with the same data are equal -/
theorem al_dp {K : PySem.W.Frag} : ∀ (k : Nat) {d : PyData} {x y : V} {H : Hp}, Sz k d → Dp K H x d → Dp K H y d → Al K k H x y
  | 0, _, x, y, H, h, hx, hy => by
    rcases h with ⟨i, rfl⟩ | rfl
    · cases hx; cases hy; exact .int _ _ _
    · cases hx; cases hy; exact .non _ _
  | k + 1, _, x, y, H, h, hx, hy => by
    rcases h with ⟨i, rfl⟩ | rfl | ⟨ds, rfl, h1, h2⟩
    · cases hx; cases hy; exact .int _ _ _
    · cases hx; cases hy; exact .non _ _
    · cases hx with
      | @tup a xs _ ha hxs =>
      cases hy with
      | @tup b ys _ hb hys =>
      have l1 := Toy.DpAll.len hxs
      have l2 := Toy.DpAll.len hys
      refine .tup ha hb (by omega) (by omega) fun i u v e1 e2 H' s => ?_
      obtain ⟨d1, g1, g2⟩ := dpAll_ix hxs e1
      obtain ⟨d2, g3, g4⟩ := dpAll_ix hys e2
      rw [g1] at g3
      cases g3
      exact al_dp k (h2 d1 (List.mem_of_getElem? g1)) (Dp.same s _ _ g2) (Dp.same s _ _ g4)
def termD (f : Int) (u : Tm) : PyData := .tuple [numD f u.1, rD u.2]
def polyD (f : Int) (ts : List Tm) : PyData := .tuple (ts.map (termD f))
theorem TermV.dp {K : PySem.W.Frag} {H : Hp} {f : Int} {v : V} {u : Tm} (h : TermV K H f v u) : Dp K H v (termD f u) := by
  obtain ⟨tp, M, nv, rfl, h1, h2, h3⟩ := h
  exact .tup h1 (.cons h2.dp (.cons (dp_ints (.inl (.inl h3))) .nil))
theorem dpAll_mk {K : PySem.W.Frag} {H : Hp} : ∀ {xs : List V} {ds : List PyData}, xs.length = ds.length → (∀ (i : Nat) (x : V) (d : PyData), xs[i]? = some x → ds[i]? = some d → Dp K H x d) → DpAll K H xs ds
  | [], [], _, _ => .nil
  | [], _ :: _, h, _ => by simp at h
  | _ :: _, [], h, _ => by simp at h
  | x :: xs, d :: ds, h, g => .cons (g 0 x d rfl rfl) (dpAll_mk (by simpa using h) fun i x d e1 e2 => g (i + 1) x d (by simpa using e1) (by simpa using e2))
theorem PolyV.dp {K : PySem.W.Frag} {H : Hp} {f : Int} {v : V} {ts : List Tm} (h : PolyV K H f v ts) : Dp K H v (polyD f ts) := by
  obtain ⟨pa, vs, rfl, h1, h2, h3⟩ := h
  refine .tup h1 (dpAll_mk (by rw [List.length_map]; exact h2) fun i x d e1 e2 => ?_)
  rw [List.getElem?_map] at e2
  obtain ⟨u, e3, rfl⟩ := Option.map_eq_some_iff.mp e2
  exact (h3 i x u e1 e3).dp
theorem sz_term {f : Int} {u : Tm} (h : u.2.length ≤ 100000) : Sz 2 (termD f u) := sz_tup (by show 2 ≤ 100000; decide) fun e he => by
  simp only [List.mem_cons, List.not_mem_nil, or_false] at he
  rcases he with rfl | rfl
  · exact sz_num f _
  · exact sz_rD h
theorem sz_poly {f : Int} {ts : List Tm} (h : ts.length ≤ 100000) (hm : ∀ u ∈ ts, u.2.length ≤ 100000) : Sz 3 (polyD f ts) := sz_tup (by rw [List.length_map]; exact h) fun e he => by
  obtain ⟨u, hu, rfl⟩ := List.mem_map.mp he
  exact sz_term (hm u hu)

/-! ### polynomials by integer terms: a polynomial is l / B -/
def mulN (f : Int) (a b : Int × Int) : Int × Int := if f = 0 then lowQ (a.1 * b.1) (a.2 * b.2) else ((a.1 * b.1) % f, 1)
abbrev IT := List (Int × List Int)
def coefI (l : IT) (m : List Int) : Int := (l.map fun t => if t.2 = m then t.1 else 0).sum
theorem coefI_nil (m : List Int) : coefI [] m = 0 := rfl
theorem coefI_cons (t : Int × List Int) (l : IT) (m : List Int) : coefI (t :: l) m = (if t.2 = m then t.1 else 0) + coefI l m := rfl
theorem coefI_app (a b : IT) (m : List Int) : coefI (a ++ b) m = coefI a m + coefI b m := by
  unfold coefI
  rw [List.map_append, List.sum_append]
theorem coefI_zero {l : IT} {m : List Int} (h : ∀ t ∈ l, t.2 ≠ m) : coefI l m = 0 := by
  induction l with
  | nil => rfl
  | cons t l ih =>
    rw [coefI_cons, if_neg (h t List.mem_cons_self), ih fun u hu => h u (List.mem_cons_of_mem _ hu)]; rfl
/-- a number in its only form, of any size -/
def NumN (f : Int) (x : Int × Int) : Prop := (f = 0 ∧ 0 < x.2 ∧ Nat.gcd x.1.natAbs x.2.natAbs = 1) ∨ (f ≠ 0 ∧ 0 ≤ x.1 ∧ x.1 < f ∧ x.2 = 1)
theorem NumOk.n {f : Int} {x : Int × Int} (h : NumOk f x) : NumN f x := by
  by_cases hf : f = 0
  · subst hf
    obtain ⟨_, h1, _, h2⟩ := numOk_q.1 h
    exact .inl ⟨rfl, h1, h2⟩
  · obtain ⟨h1, h2, h3⟩ := (numOk_m hf).1 h
    exact .inr ⟨hf, h1, h2, h3⟩
/-- x is c / B -/
def NIs (f : Int) (x : Int × Int) (c B : Int) : Prop := f ∣ x.1 * B - c * x.2
theorem nis_uniq {f : Int} {x y : Int × Int} {c d B C : Int} (hx : NumN f x) (hy : NumN f y) (hB : 0 < B) (hC : 0 < C) (hf1 : f ≠ 0 → B = 1 ∧ C = 1) (h1 : NIs f x c B) (h2 : NIs f y d C) (h : f ∣ c * C - d * B) : x = y := by
  unfold NIs at h1 h2
  rcases hx with ⟨hf, x1, x2⟩ | ⟨hf, x1, x2, x3⟩
  · subst hf
    rcases hy with ⟨_, y1, y2⟩ | ⟨z, _⟩
    · have e1 := Int.zero_dvd.mp h1
      have e2 := Int.zero_dvd.mp h2
      have e3 := Int.zero_dvd.mp h
      refine low_uniq x1 y1 x2 y2 ?_
      have hBC : B * C ≠ 0 := Int.mul_ne_zero (by omega) (by omega)
      refine Int.eq_of_mul_eq_mul_right hBC ?_
      grind
    · exact absurd rfl z
  · rcases hy with ⟨z, _⟩ | ⟨_, y1, y2, y3⟩
    · exact absurd z hf
    · obtain ⟨rfl, rfl⟩ := hf1 hf
      obtain ⟨u, v⟩ := x
      obtain ⟨u', v'⟩ := y
      simp only at *
      subst x3 y3
      have h3 : f ∣ u - u' := by
        have : u - u' = (u * 1 - c * 1) - (u' * 1 - d * 1) + (c * 1 - d * 1) := by omega
        rw [this]
        exact Int.dvd_add (Int.dvd_sub h1 h2) h
      have h4 : u - u' = 0 := by
        obtain ⟨k, hk⟩ := h3
        have hfp : 0 < f := by omega
        rcases Int.lt_trichotomy k 0 with h | h | h
        · have : f * k ≤ f * (-1) := Int.mul_le_mul_of_nonneg_left (by omega) (by omega)
          omega
        · rw [hk, h]; simp
        · have : f * 1 ≤ f * k := Int.mul_le_mul_of_nonneg_left (by omega) (by omega)
          omega
      have : u = u' := by omega
      rw [this]
theorem nis_zero {f B : Int} : NIs f (0, 1) 0 B := by
  unfold NIs
  simp
theorem nis_dvd {f : Int} {x : Int × Int} {c d B : Int} (h1 : NIs f x c B) (h : f ∣ c - d) : NIs f x d B := by
  unfold NIs at *
  have : x.1 * B - d * x.2 = (x.1 * B - c * x.2) + (c - d) * x.2 := by grind
  rw [this]
  exact Int.dvd_add h1 (Int.dvd_trans h (Int.dvd_mul_right _ _))
theorem addN_n {f : Int} (hF : IsF f) {x y : Int × Int} (hx : NumN f x) (hy : NumN f y) : NumN f (addN f x y) := by
  unfold addN
  rcases hx with ⟨hf, x1, x2⟩ | ⟨hf, x1, x2, x3⟩
  · subst hf
    rw [if_pos rfl]
    rcases hy with ⟨_, y1, y2⟩ | ⟨z, _⟩
    · obtain ⟨a1, a2, _⟩ := low_spec (x.1 * y.2 + y.1 * x.2) (d := x.2 * y.2) (Int.mul_ne_zero (by omega) (by omega))
      exact .inl ⟨rfl, a1, a2⟩
    · exact absurd rfl z
  · have := hF.pos hf
    rw [if_neg hf]
    exact .inr ⟨hf, Int.emod_nonneg _ (by omega), Int.emod_lt_of_pos _ (by omega), rfl⟩
theorem addN_is {f : Int} {x y : Int × Int} {c d B : Int} (hx : NumN f x) (hy : NumN f y) (hB : f ≠ 0 → B = 1) (h1 : NIs f x c B) (h2 : NIs f y d B) : NIs f (addN f x y) (c + d) B := by
  unfold NIs at *
  unfold addN
  rcases hx with ⟨hf, x1, x2⟩ | ⟨hf, x1, x2, x3⟩
  · subst hf
    rw [if_pos rfl]
    rcases hy with ⟨_, y1, y2⟩ | ⟨z, _⟩
    · have e1 := Int.zero_dvd.mp h1
      have e2 := Int.zero_dvd.mp h2
      have hne : x.2 * y.2 ≠ 0 := Int.mul_ne_zero (by omega) (by omega)
      obtain ⟨a1, a2, a3, _⟩ := low_spec (x.1 * y.2 + y.1 * x.2) (d := x.2 * y.2) hne
      generalize lowQ (x.1 * y.2 + y.1 * x.2) (x.2 * y.2) = z at *
      refine Int.zero_dvd.mpr ?_
      have e : (z.1 * B - (c + d) * z.2) * (x.2 * y.2) = 0 := by grind
      rcases Int.mul_eq_zero.mp e with e | e
      · exact e
      · exact absurd e hne
    · exact absurd rfl z
  · rcases hy with ⟨z, _⟩ | ⟨_, y1, y2, y3⟩
    · exact absurd z hf
    · rw [if_neg hf]
      have hB1 := hB hf
      subst hB1
      simp only
      rw [x3] at h1
      rw [y3] at h2
      have e : (x.1 + y.1) % f * 1 - (c + d) * 1 = ((x.1 * 1 - c * 1) + (y.1 * 1 - d * 1)) - f * ((x.1 + y.1) / f) := by
        have := Int.emod_add_mul_ediv (x.1 + y.1) f
        omega
      rw [e]
      exact Int.dvd_sub (Int.dvd_add h1 h2) (Int.dvd_mul_right _ _)
/-- terms and integer terms alike -/
def T2 (f : Int) (B : Int) (ts : List Tm) (l : IT) : Prop := Paired (fun t e => t.2 = e.2 ∧ NumN f t.1 ∧ NIs f t.1 e.1 B) ts l
def lookA (al : Al2) (m : List Int) : Int × Int := (getM al m).getD (0, 1)
theorem numN_zero {f : Int} (hF : IsF f) : NumN f (0, 1) := by
  by_cases hf : f = 0
  · exact .inl ⟨hf, by decide, by decide⟩
  · have := hF.pos hf
    exact .inr ⟨hf, by decide, by show 0 < f; omega, rfl⟩
theorem addN_zero' {f : Int} {x : Int × Int} (h : NumN f x) : addN f (0, 1) x = x := by
  rcases h with ⟨hf, g1, g2⟩ | ⟨hf, h1, h2, h3⟩
  · subst hf
    unfold addN
    rw [if_pos rfl]
    have e1 : (0 : Int) * x.2 + x.1 * 1 = x.1 := by omega
    have e2 : (1 : Int) * x.2 = x.2 := by omega
    show lowQ (0 * x.2 + x.1 * 1) (1 * x.2) = x
    rw [e1, e2, low_self g1 g2]
  · unfold addN
    rw [if_neg hf]
    show ((0 + x.1) % f, 1) = x
    rw [Int.zero_add, Int.emod_eq_of_lt h1 h2, ← h3]
theorem look_add {f : Int} {al : Al2} {t : Tm} (hn : NumN f t.1) (m : List Int) : lookA (addT f al t) m = if m = t.2 then addN f (lookA al t.2) t.1 else lookA al m := by
  have e : addT f al t = putM al t.2 (addN f (lookA al t.2) t.1) := by
    unfold addT lookA
    cases hg : getM al t.2 with
    | none => show putM al t.2 t.1 = putM al t.2 (addN f (0, 1) t.1); rw [addN_zero' hn]
    | some y => rfl
  unfold lookA
  rw [e, getM_put]
  by_cases c : m = t.2
  · rw [if_pos c, if_pos c]; rfl
  · rw [if_neg c, if_neg c]
theorem fold_is {f : Int} (hF : IsF f) {B : Int} (hB : f ≠ 0 → B = 1) : ∀ (ts : List Tm) (l : IT) (al : Al2) (c : List Int → Int), T2 f B ts l → (∀ m, NumN f (lookA al m) ∧ NIs f (lookA al m) (c m) B) →
    ∀ m, NumN f (lookA (ts.foldl (addT f) al) m) ∧ NIs f (lookA (ts.foldl (addT f) al) m) (c m + coefI l m) B
  | [], [], al, c, _, h, m => by
    rw [coefI_nil, Int.add_zero]; exact h m
  | [], _ :: _, _, _, h, _, _ => by cases h
  | _ :: _, [], _, _, h, _, _ => by cases h
  | t :: ts, e :: l, al, c, h, g, m => by
    obtain ⟨⟨h1, h2, h3⟩, hr⟩ : (t.2 = e.2 ∧ NumN f t.1 ∧ NIs f t.1 e.1 B) ∧ T2 f B ts l := by
      cases h with
      | cons a b => exact ⟨a, b⟩
    have := fold_is hF hB ts l (addT f al t) (fun m => c m + (if e.2 = m then e.1 else 0)) hr (fun m => ?_) m
    · rw [List.foldl_cons, coefI_cons]
      rw [show c m + ((if e.2 = m then e.1 else 0) + coefI l m) = c m + (if e.2 = m then e.1 else 0) + coefI l m by omega]
      exact this
    · rw [look_add h2]
      by_cases hm : m = t.2
      · rw [if_pos hm, if_pos (by rw [hm, h1])]
        obtain ⟨g1, g2⟩ := g m
        rw [hm] at g1 g2
        rw [hm]
        exact ⟨addN_n hF g1 h2, addN_is g1 h2 hB g2 h3⟩
      · rw [if_neg hm, if_neg (fun z => hm (by rw [h1, z])), Int.add_zero]
        exact g m
theorem sum_is {f : Int} (hF : IsF f) {B : Int} (hB : f ≠ 0 → B = 1) {ts : List Tm} {l : IT} (h : T2 f B ts l) (m : List Int) : NumN f (lookA (sumL f ts) m) ∧ NIs f (lookA (sumL f ts) m) (coefI l m) B := by
  have := fold_is hF hB ts l [] (fun _ => 0) h (fun m => ⟨numN_zero hF, nis_zero⟩) m
  rwa [Int.zero_add] at this

/-! ### products and derivatives of integer terms -/
def addM (a b : List Int) : List Int := List.zipWith (· + ·) a b
def subM (a b : List Int) : List Int := List.zipWith (· - ·) a b
def IL (n : Nat) (l : IT) : Prop := ∀ t ∈ l, t.2.length = n
theorem addM_len {n : Nat} {a b : List Int} (ha : a.length = n) (hb : b.length = n) : (addM a b).length = n := by
  unfold addM; rw [List.length_zipWith]; omega
theorem subM_len {n : Nat} {a b : List Int} (ha : a.length = n) (hb : b.length = n) : (subM a b).length = n := by
  unfold subM; rw [List.length_zipWith]; omega
theorem add_sub : ∀ {a b m : List Int}, a.length = m.length → b.length = m.length → (addM a b = m ↔ a = subM m b)
  | [], [], [], _, _ => by simp [addM, subM]
  | [], _, _ :: _, h, _ => by simp at h
  | _ :: _, _, [], h, _ => by simp at h
  | [], _ :: _, [], _, h => by simp at h
  | _ :: _, [], _ :: _, _, h => by simp at h
  | x :: a, y :: b, z :: m, ha, hb => by
    have ih := add_sub (a := a) (b := b) (m := m) (by simpa using ha) (by simpa using hb)
    show (x + y) :: addM a b = z :: m ↔ x :: a = (z - y) :: subM m b
    rw [List.cons.injEq, List.cons.injEq, ih]
    constructor <;> rintro ⟨h1, h2⟩ <;> exact ⟨by omega, h2⟩
theorem addM_comm : ∀ (a b : List Int), addM a b = addM b a
  | [], [] => rfl
  | [], _ :: _ => rfl
  | _ :: _, [] => rfl
  | x :: a, y :: b => by
    show (x + y) :: addM a b = (y + x) :: addM b a
    rw [addM_comm a b, Int.add_comm]
theorem subM_swap : ∀ (m a b : List Int), subM (subM m a) b = subM (subM m b) a
  | [], _, _ => by cases ‹List Int› <;> simp [subM]
  | _ :: _, [], [] => rfl
  | _ :: _, [], _ :: _ => rfl
  | _ :: _, _ :: _, [] => rfl
  | z :: m, x :: a, y :: b => by
    show (z - x - y) :: subM (subM m a) b = (z - y - x) :: subM (subM m b) a
    rw [subM_swap m a b]
    congr 1
    omega
def mulT1 (t : Int × List Int) (b : IT) : IT := b.map fun u => (t.1 * u.1, addM t.2 u.2)
def mulI (a b : IT) : IT := a.flatMap fun t => mulT1 t b
theorem mulI_nil (b : IT) : mulI [] b = [] := rfl
theorem mulI_cons (t : Int × List Int) (a b : IT) : mulI (t :: a) b = mulT1 t b ++ mulI a b := rfl
theorem il_mul {n : Nat} {a b : IT} (ha : IL n a) (hb : IL n b) : IL n (mulI a b) := fun t ht => by
  unfold mulI at ht
  obtain ⟨u, hu, h⟩ := List.mem_flatMap.mp ht
  obtain ⟨v, hv, rfl⟩ := List.mem_map.mp h
  exact addM_len (ha u hu) (hb v hv)
theorem coef_mulT1 {n : Nat} {t : Int × List Int} (ht : t.2.length = n) {m : List Int} (hm : m.length = n) : ∀ {b : IT}, IL n b → coefI (mulT1 t b) m = t.1 * coefI b (subM m t.2)
  | [], _ => by show (0 : Int) = t.1 * 0; omega
  | u :: b, hb => by
    have ih := coef_mulT1 ht hm (b := b) fun v hv => hb v (List.mem_cons_of_mem _ hv)
    show coefI ((t.1 * u.1, addM t.2 u.2) :: mulT1 t b) m = _
    rw [coefI_cons, coefI_cons, ih]
    have hu := hb u List.mem_cons_self
    have e : (addM t.2 u.2 = m) ↔ u.2 = subM m t.2 := by rw [addM_comm]; exact add_sub (by omega) (by omega)
    by_cases c : u.2 = subM m t.2
    · rw [if_pos c, if_pos (e.2 c)]; grind
    · rw [if_neg c, if_neg (fun z => c (e.1 z))]; grind
/-- the sum over the first factor -/
theorem coef_mul {n : Nat} {m : List Int} (hm : m.length = n) {b : IT} (hb : IL n b) : ∀ {a : IT}, IL n a → coefI (mulI a b) m = (a.map fun t => t.1 * coefI b (subM m t.2)).sum
  | [], _ => rfl
  | t :: a, ha => by
    rw [mulI_cons, coefI_app, coef_mulT1 (ha t List.mem_cons_self) hm hb, coef_mul hm hb fun v hv => ha v (List.mem_cons_of_mem _ hv)]
    rfl
theorem sum_mapZ {α : Type} (f g : α → Int) : ∀ (l : List α), (l.map fun x => f x + g x).sum = (l.map f).sum + (l.map g).sum
  | [] => rfl
  | x :: l => by
    rw [List.map_cons, List.map_cons, List.map_cons, List.sum_cons, List.sum_cons, List.sum_cons, sum_mapZ f g l]
    omega
theorem sum_mulZ {α : Type} (c : Int) (f : α → Int) : ∀ (l : List α), (l.map fun x => c * f x).sum = c * (l.map f).sum
  | [] => by show (0 : Int) = c * 0; omega
  | x :: l => by
    rw [List.map_cons, List.map_cons, List.sum_cons, List.sum_cons, sum_mulZ c f l]
    grind
theorem sum_zero {α : Type} : ∀ (l : List α), (l.map fun _ => (0 : Int)).sum = 0
  | [] => rfl
  | x :: l => by rw [List.map_cons, List.sum_cons, sum_zero l]; rfl
theorem sum_swap {α β : Type} (F : α → β → Int) : ∀ (a : List α) (b : List β), (a.map fun x => (b.map fun y => F x y).sum).sum = (b.map fun y => (a.map fun x => F x y).sum).sum
  | [], b => (sum_zero b).symm
  | x :: a, b => by
    rw [List.map_cons, List.sum_cons, sum_swap F a b, ← sum_mapZ]
    rfl
theorem sum_congr {α : Type} {f g : α → Int} {l : List α} (h : ∀ x ∈ l, f x = g x) : (l.map f).sum = (l.map g).sum := by rw [List.map_congr_left h]
theorem coef_ind (b : IT) (m : List Int) : coefI b m = (b.map fun u => u.1 * (if u.2 = m then 1 else 0)).sum := by
  unfold coefI
  exact sum_congr fun u _ => by split <;> grind
theorem mul_comm_c {n : Nat} {a b : IT} (ha : IL n a) (hb : IL n b) {m : List Int} (hm : m.length = n) : coefI (mulI a b) m = coefI (mulI b a) m := by
  rw [coef_mul hm hb ha, coef_mul hm ha hb]
  have e1 : ∀ t ∈ a, t.1 * coefI b (subM m t.2) = (b.map fun u => t.1 * u.1 * (if addM t.2 u.2 = m then 1 else 0)).sum := fun t ht => by
    rw [coef_ind, ← sum_mulZ]
    refine sum_congr fun u hu => ?_
    have e : (addM t.2 u.2 = m) ↔ u.2 = subM m t.2 := by rw [addM_comm]; exact add_sub (by have := hb u hu; omega) (by have := ha t ht; omega)
    by_cases c : u.2 = subM m t.2
    · rw [if_pos c, if_pos (e.2 c)]; grind
    · rw [if_neg c, if_neg (fun z => c (e.1 z))]; grind
  have e2 : ∀ u ∈ b, u.1 * coefI a (subM m u.2) = (a.map fun t => t.1 * u.1 * (if addM t.2 u.2 = m then 1 else 0)).sum := fun u hu => by
    rw [coef_ind, ← sum_mulZ]
    refine sum_congr fun t ht => ?_
    have e : (addM t.2 u.2 = m) ↔ t.2 = subM m u.2 := add_sub (by have := ha t ht; omega) (by have := hb u hu; omega)
    by_cases c : t.2 = subM m u.2
    · rw [if_pos c, if_pos (e.2 c)]; grind
    · rw [if_neg c, if_neg (fun z => c (e.1 z))]; omega
  rw [sum_congr e1, sum_congr e2]
  exact sum_swap _ a b
theorem mul_swap_c {n : Nat} {a b c : IT} (ha : IL n a) (hb : IL n b) (hc : IL n c) {m : List Int} (hm : m.length = n) : coefI (mulI (mulI a b) c) m = coefI (mulI (mulI a c) b) m := by
  have e : ∀ {b c : IT}, IL n b → IL n c → coefI (mulI (mulI a b) c) m = (c.map fun v => (b.map fun u => v.1 * u.1 * coefI a (subM (subM m v.2) u.2)).sum).sum := fun {b c} hb hc => by
    rw [mul_comm_c (il_mul ha hb) hc hm, coef_mul hm (il_mul ha hb) hc]
    refine sum_congr fun v hv => ?_
    have hmv := subM_len hm (hc v hv)
    rw [mul_comm_c ha hb hmv, coef_mul hmv ha hb, ← sum_mulZ]
    exact sum_congr fun u _ => by grind
  rw [e hb hc, e hc hb, sum_swap]
  refine sum_congr fun u _ => sum_congr fun v _ => ?_
  rw [subM_swap]
  grind
/-- what is the same in the second factor -/
theorem mul_same {n : Nat} {f : Int} {a b c : IT} {k j : Int} (ha : IL n a) (hb : IL n b) (hc : IL n c) (h : ∀ m, m.length = n → f ∣ coefI b m * k - coefI c m * j) {m : List Int} (hm : m.length = n) : f ∣ coefI (mulI a b) m * k - coefI (mulI a c) m * j := by
  rw [coef_mul hm hb ha, coef_mul hm hc ha]
  have e : (a.map fun t => t.1 * coefI b (subM m t.2)).sum * k - (a.map fun t => t.1 * coefI c (subM m t.2)).sum * j = (a.map fun t => t.1 * (coefI b (subM m t.2) * k - coefI c (subM m t.2) * j)).sum := by
    rw [Int.mul_comm _ k, Int.mul_comm _ j, ← sum_mulZ, ← sum_mulZ]
    have : ∀ l : List (Int × List Int), (l.map fun t => k * (t.1 * coefI b (subM m t.2))).sum - (l.map fun t => j * (t.1 * coefI c (subM m t.2))).sum = (l.map fun t => t.1 * (coefI b (subM m t.2) * k - coefI c (subM m t.2) * j)).sum := by
      intro l
      induction l with
      | nil => rfl
      | cons t l ih =>
        simp only [List.map_cons, List.sum_cons]
        rw [← ih]
        grind
    exact this a
  rw [e]
  have : ∀ l : List (Int × List Int), (∀ t ∈ l, t.2.length = n) → f ∣ (l.map fun t => t.1 * (coefI b (subM m t.2) * k - coefI c (subM m t.2) * j)).sum := by
    intro l
    induction l with
    | nil => intro _; exact Int.dvd_zero _
    | cons t l ih =>
      intro hl
      simp only [List.map_cons, List.sum_cons]
      exact Int.dvd_add (Int.dvd_trans (h _ (subM_len hm (hl t List.mem_cons_self))) (Int.dvd_mul_left _ _)) (ih fun u hu => hl u (List.mem_cons_of_mem _ hu))
  exact this a ha
/-! derivatives -/
def atM (m : List Int) (i : Nat) : Int := m.getD i 0
def movM (m : List Int) (i : Nat) (by_ : Int) : List Int := m.set i (atM m i + by_)
theorem movM_len (m : List Int) (i : Nat) (k : Int) : (movM m i k).length = m.length := List.length_set
theorem atM_mov {m : List Int} {i : Nat} (h : i < m.length) (k : Int) : atM (movM m i k) i = atM m i + k := by
  unfold movM atM
  rw [List.getD_eq_getElem?_getD, List.getElem?_set_self h]; rfl
theorem atM_mov_ne {m : List Int} {i j : Nat} (h : i ≠ j) (k : Int) : atM (movM m i k) j = atM m j := by
  unfold movM atM
  rw [List.getD_eq_getElem?_getD, List.getElem?_set_ne h, List.getD_eq_getElem?_getD]
theorem mov_mov {m : List Int} {i : Nat} (h : i < m.length) (k j : Int) (e : k + j = 0) : movM (movM m i k) i j = m := by
  unfold movM
  rw [List.set_set]
  have : atM (m.set i (atM m i + k)) i = atM m i + k := atM_mov h k
  rw [this]
  have e2 : atM m i + k + j = atM m i := by omega
  rw [e2]
  unfold atM
  rw [List.getD_eq_getElem?_getD, List.getElem?_eq_getElem h]
  simp
theorem mov_eq {t m : List Int} {i : Nat} (ht : i < t.length) (hm : i < m.length) : movM t i (-1) = m ↔ t = movM m i 1 := by
  constructor
  · rintro rfl
    exact (mov_mov ht (-1) 1 (by omega)).symm
  · rintro rfl
    exact mov_mov hm 1 (-1) (by omega)
def derI (i : Nat) (l : IT) : IT := l.map fun t => (t.1 * atM t.2 i, movM t.2 i (-1))
theorem il_der {n i : Nat} {l : IT} (h : IL n l) : IL n (derI i l) := fun t ht => by
  obtain ⟨u, hu, rfl⟩ := List.mem_map.mp ht
  rw [movM_len]; exact h u hu
theorem coef_der {n i : Nat} (hi : i < n) {m : List Int} (hm : m.length = n) : ∀ {l : IT}, IL n l → coefI (derI i l) m = (atM m i + 1) * coefI l (movM m i 1)
  | [], _ => by show (0 : Int) = _ * 0; omega
  | t :: l, h => by
    have ih := coef_der hi hm (l := l) fun v hv => h v (List.mem_cons_of_mem _ hv)
    show coefI ((t.1 * atM t.2 i, movM t.2 i (-1)) :: derI i l) m = _
    rw [coefI_cons, coefI_cons, ih]
    have ht := h t List.mem_cons_self
    have e := mov_eq (t := t.2) (m := m) (i := i) (by omega) (by omega)
    by_cases c : t.2 = movM m i 1
    · rw [if_pos c, if_pos (e.2 c)]
      have : atM t.2 i = atM m i + 1 := by rw [c]; exact atM_mov (by omega) 1
      rw [this]; grind
    · rw [if_neg c, if_neg (fun z => c (e.1 z))]; grind
theorem mov_add : ∀ {a b : List Int} {i : Nat} {k : Int}, a.length = b.length → movM (addM a b) i k = addM (movM a i k) b
  | [], [], _, _, _ => rfl
  | [], _ :: _, _, _, h => by simp at h
  | _ :: _, [], _, _, h => by simp at h
  | x :: a, y :: b, 0, k, _ => by
    show (x + y + k) :: addM a b = (x + k + y) :: addM a b
    congr 1; omega
  | x :: a, y :: b, i + 1, k, h => by
    have ih := mov_add (a := a) (b := b) (i := i) (k := k) (by simpa using h)
    show (x + y) :: movM (addM a b) i k = (x + y) :: addM (movM a i k) b
    rw [ih]
theorem at_add : ∀ {a b : List Int} {i : Nat}, a.length = b.length → atM (addM a b) i = atM a i + atM b i
  | [], [], _, _ => rfl
  | [], _ :: _, _, h => by simp at h
  | _ :: _, [], _, h => by simp at h
  | x :: a, y :: b, 0, _ => rfl
  | x :: a, y :: b, i + 1, h => at_add (a := a) (b := b) (i := i) (by simpa using h)
theorem der_app (i : Nat) (a b : IT) : derI i (a ++ b) = derI i a ++ derI i b := List.map_append
/-- the rule of products -/
theorem der_mul {n i : Nat} {b : IT} (hb : IL n b) (m : List Int) : ∀ {a : IT}, IL n a → coefI (derI i (mulI a b)) m = coefI (mulI (derI i a) b) m + coefI (mulI a (derI i b)) m
  | [], _ => rfl
  | t :: a, ha => by
    have ih := der_mul (i := i) hb m (a := a) fun v hv => ha v (List.mem_cons_of_mem _ hv)
    have one : ∀ {b : IT}, IL n b → coefI (derI i (mulT1 t b)) m = coefI (mulT1 (t.1 * atM t.2 i, movM t.2 i (-1)) b) m + coefI (mulT1 t (derI i b)) m := by
      intro b
      induction b with
      | nil => intro _; rfl
      | cons u b ih =>
        intro hb
        have ih := ih fun v hv => hb v (List.mem_cons_of_mem _ hv)
        have hl : t.2.length = u.2.length := by rw [ha t List.mem_cons_self, hb u List.mem_cons_self]
        show coefI ((t.1 * u.1 * atM (addM t.2 u.2) i, movM (addM t.2 u.2) i (-1)) :: derI i (mulT1 t b)) m = coefI ((t.1 * atM t.2 i * u.1, addM (movM t.2 i (-1)) u.2) :: mulT1 (t.1 * atM t.2 i, movM t.2 i (-1)) b) m + coefI ((t.1 * (u.1 * atM u.2 i), addM t.2 (movM u.2 i (-1))) :: mulT1 t (derI i b)) m
        rw [coefI_cons, coefI_cons, coefI_cons, ih, at_add hl, mov_add hl]
        have e2 : addM t.2 (movM u.2 i (-1)) = addM (movM t.2 i (-1)) u.2 := by
          rw [addM_comm, ← mov_add hl.symm, addM_comm, mov_add hl]
        rw [e2]
        by_cases c : addM (movM t.2 i (-1)) u.2 = m
        · rw [if_pos c, if_pos c, if_pos c]; grind
        · rw [if_neg c, if_neg c, if_neg c]; omega
    show coefI (derI i (mulT1 t b ++ mulI a b)) m = coefI (mulT1 (t.1 * atM t.2 i, movM t.2 i (-1)) b ++ mulI (derI i a) b) m + coefI (mulT1 t (derI i b) ++ mulI a (derI i b)) m
    rw [der_app, coefI_app, coefI_app, coefI_app, ih, one hb]
    omega
theorem der_der {n i j : Nat} (hi : i < n) (hj : j < n) {l : IT} (h : IL n l) {m : List Int} (hm : m.length = n) : coefI (derI i (derI j l)) m = coefI (derI j (derI i l)) m := by
  rw [coef_der hi hm (il_der h), coef_der hj (by rw [movM_len]; exact hm) h, coef_der hj hm (il_der h), coef_der hi (by rw [movM_len]; exact hm) h]
  by_cases c : i = j
  · subst c; rfl
  · have e : movM (movM m i 1) j 1 = movM (movM m j 1) i 1 := by
      unfold movM
      have h1 : atM (m.set i (atM m i + 1)) j = atM m j := atM_mov_ne c 1
      have h2 : atM (m.set j (atM m j + 1)) i = atM m i := atM_mov_ne (fun z => c z.symm) 1
      rw [h1, h2, List.set_comm _ _ c]
    rw [e, atM_mov_ne c, atM_mov_ne (fun z => c z.symm)]
    grind
/-! powers -/
def oneI (n : Nat) : IT := [(1, List.replicate n 0)]
def powI (n : Nat) (l : IT) : Nat → IT
  | 0 => oneI n
  | k + 1 => mulI (powI n l k) l
theorem il_pow {n : Nat} {l : IT} (h : IL n l) : ∀ k, IL n (powI n l k)
  | 0 => fun t ht => by
    rw [powI, oneI, List.mem_singleton] at ht
    rw [ht, List.length_replicate]
  | k + 1 => il_mul (il_pow h k) h
theorem der_pow {n i : Nat} (hi : i < n) {l : IT} (h : IL n l) : ∀ (k : Nat) {m : List Int}, m.length = n → coefI (derI i (powI n l (k + 1))) m = (k + 1 : Int) * coefI (mulI (powI n l k) (derI i l)) m
  | 0, m, hm => by
    show coefI (derI i (mulI (oneI n) l)) m = _
    rw [der_mul (a := oneI n) h m (il_pow h 0)]
    have e : coefI (mulI (derI i (oneI n)) l) m = 0 := by
      rw [coef_mul (a := derI i (oneI n)) hm h (il_der (l := oneI n) (il_pow h 0))]
      have ea : atM (List.replicate n 0) i = 0 := by
        unfold atM
        rw [List.getD_eq_getElem?_getD, List.getElem?_replicate, if_pos hi]; rfl
      show ((1 * atM (List.replicate n 0) i) * _ + 0 : Int) = 0
      rw [ea]; omega
    rw [e]
    show 0 + coefI (mulI (oneI n) (derI i l)) m = (0 + 1 : Int) * coefI (mulI (oneI n) (derI i l)) m
    omega
  | k + 1, m, hm => by
    show coefI (derI i (mulI (powI n l (k + 1)) l)) m = _
    have hp := il_pow h (k + 1)
    have hpk := il_pow h k
    rw [der_mul h m hp]
    have e : coefI (mulI (derI i (powI n l (k + 1))) l) m = (k + 1 : Int) * coefI (mulI (powI n l (k + 1)) (derI i l)) m := by
      rw [mul_comm_c (il_der hp) h hm, coef_mul hm (il_der hp) h]
      have e1 : ∀ t ∈ l, t.1 * coefI (derI i (powI n l (k + 1))) (subM m t.2) = (k + 1 : Int) * (t.1 * coefI (mulI (powI n l k) (derI i l)) (subM m t.2)) := fun t ht => by
        rw [der_pow hi h k (subM_len hm (h t ht))]
        grind
      rw [sum_congr e1, sum_mulZ, ← coef_mul hm (il_mul hpk (il_der h)) h, ← mul_comm_c (il_mul hpk (il_der h)) h hm]
      rw [mul_swap_c hpk (il_der h) h hm]
      rfl
    rw [e]
    have : ((k + 1 : Nat) : Int) = (k : Int) + 1 := by omega
    rw [this]
    grind

/-! ### polynomials in their only form, and the integer terms they stand for -/
structure Can (f : Int) (n : Nat) (o : Ord) (P : List Tm) : Prop where
  ok : ∀ u ∈ P, TermOk f n u ∧ u.1.1 ≠ 0
  nd : (P.map (·.2)).Nodup
  pr : P.Pairwise fun a b => codeN n o b.2 ≤ codeN n o a.2
theorem can_sort {f : Int} {n : Nat} {o : Ord} {l : List Tm} (hok : ∀ u ∈ l, TermOk f n u ∧ u.1.1 ≠ 0) (hd : (l.map (·.2)).Nodup) : Can f n o (sortT n o l) :=
  ⟨fun u hu => hok u ((sortT_perm n o l).mem_iff.mp hu), ((sortT_perm n o l).map (·.2)).nodup_iff.mpr hd, sortT_pair n o l⟩
theorem Can.same {f : Int} {n : Nat} {o : Ord} {P : List Tm} (h : Can f n o P) (h1 : 1 ≤ n) (h4 : n ≤ 4) (ho : OrdOk n o) : sortT n o P = P := by
  refine perm_pair_eq (fun u : Tm => codeN n o u.2) (sortT_perm n o P) (sortT_pair n o P) h.pr fun x hx y hy e => ?_
  have hx' := (sortT_perm n o P).mem_iff.mp hx
  have hy' := (sortT_perm n o P).mem_iff.mp hy
  have e2 := code_inj (h.ok x hx').1.2 (h.ok y hy').1.2 h1 h4 ho e
  have := getM_mem (al := P.map swT) (by rw [List.map_map]; exact h.nd) (e := swT x) (List.mem_map_of_mem hx')
  have t := getM_mem (al := P.map swT) (by rw [List.map_map]; exact h.nd) (e := swT y) (List.mem_map_of_mem hy')
  have : some x.1 = some y.1 := by rw [← (show getM (P.map swT) x.2 = some x.1 from this), ← (show getM (P.map swT) y.2 = some y.1 from t), e2]
  exact Prod.ext (Option.some.inj this) e2
theorem Can.poly {f : Int} {n : Nat} {o : Ord} {P : List Tm} (h : Can f n o P) (h1 : 1 ≤ n) (h4 : n ≤ 4) (ho : OrdOk n o) (hl : P.length ≤ 500) : PolyOk f n (rowsL n o) P := by
  rw [← h.same h1 h4 ho]
  exact poly_ok h1 h4 ho hl h.ok h.nd
abbrev lk (P : List Tm) (m : List Int) : Int × Int := lookA (P.map swT) m
theorem lk_mem {P : List Tm} (h : (P.map (·.2)).Nodup) {u : Tm} (hu : u ∈ P) : lk P u.2 = u.1 := by
  have := getM_mem (al := P.map swT) (by rw [List.map_map]; exact h) (e := swT u) (List.mem_map_of_mem hu)
  unfold lk lookA
  rw [show getM (P.map swT) u.2 = some u.1 from this]
  rfl
theorem lk_none {P : List Tm} {m : List Int} (h : ∀ u ∈ P, u.2 ≠ m) : lk P m = (0, 1) := by
  unfold lk lookA
  cases e : getM (P.map swT) m with
  | none => rfl
  | some x =>
    obtain ⟨u, hu, q⟩ := List.mem_map.mp (mem_getM e)
    unfold swT at q
    exact absurd (Prod.mk.inj q).1 (h u hu)
theorem lk_cases {P : List Tm} (h : (P.map (·.2)).Nodup) (m : List Int) : (∃ u ∈ P, u.2 = m ∧ lk P m = u.1) ∨ ((∀ u ∈ P, u.2 ≠ m) ∧ lk P m = (0, 1)) := by
  by_cases c : ∃ u ∈ P, u.2 = m
  · obtain ⟨u, hu, rfl⟩ := c
    exact .inl ⟨u, hu, rfl, lk_mem h hu⟩
  · have : ∀ u ∈ P, u.2 ≠ m := fun u hu z => c ⟨u, hu, z⟩
    exact .inr ⟨this, lk_none this⟩
theorem nd_map {α β : Type} {g : α → β} {l : List α} (h : (l.map g).Nodup) : l.Nodup := (List.pairwise_map.mp h).imp fun h z => h (by rw [z])
theorem can_uniq {f : Int} {n : Nat} {o : Ord} {P Q : List Tm} (h1 : 1 ≤ n) (h4 : n ≤ 4) (ho : OrdOk n o) (hP : Can f n o P) (hQ : Can f n o Q) (h : ∀ m, m.length = n → lk P m = lk Q m) : P = Q := by
  have one : ∀ {P Q : List Tm}, Can f n o P → Can f n o Q → (∀ m, m.length = n → lk P m = lk Q m) → ∀ u ∈ P, u ∈ Q := fun {P Q} hP hQ h u hu => by
    have e := h u.2 (hP.ok u hu).1.2.1.1
    rw [lk_mem hP.nd hu] at e
    rcases lk_cases hQ.nd u.2 with ⟨v, hv, a, b⟩ | ⟨_, b⟩
    · have : u = v := Prod.ext (by rw [e, b]) a.symm
      rw [this]; exact hv
    · rw [b] at e
      exact absurd (by rw [e]) (hP.ok u hu).2
  have ndP : P.Nodup := nd_map hP.nd
  have ndQ : Q.Nodup := nd_map hQ.nd
  have pm : P.Perm Q := (List.perm_ext_iff_of_nodup ndP ndQ).2 fun u => ⟨one hP hQ h u, one hQ hP (fun m hm => (h m hm).symm) u⟩
  rw [← hP.same h1 h4 ho, ← hQ.same h1 h4 ho]
  exact sort_same h1 h4 ho pm (fun u hu => (hP.ok u hu).1.2) hP.nd
theorem numN_lk {f : Int} (hF : IsF f) {n : Nat} {P : List Tm} (hd : (P.map (·.2)).Nodup) (h : ∀ u ∈ P, NumN f u.1) (m : List Int) : NumN f (lk P m) := by
  rcases lk_cases hd m with ⟨u, hu, _, b⟩ | ⟨_, b⟩
  · rw [b]; exact h u hu
  · rw [b]; exact numN_zero hF
/-- P is l / B -/
def Rep (f : Int) (n : Nat) (B : Int) (P : List Tm) (l : IT) : Prop := IL n l ∧ ∀ m, m.length = n → NIs f (lk P m) (coefI l m) B
theorem rep_uniq {f : Int} (hF : IsF f) {n : Nat} {o : Ord} {P Q : List Tm} {l k : IT} {B C : Int} (h1 : 1 ≤ n) (h4 : n ≤ 4) (ho : OrdOk n o) (hP : Can f n o P) (hQ : Can f n o Q) (hB : 0 < B) (hC : 0 < C) (hf : f ≠ 0 → B = 1 ∧ C = 1)
    (rP : Rep f n B P l) (rQ : Rep f n C Q k) (h : ∀ m, m.length = n → f ∣ coefI l m * C - coefI k m * B) : P = Q :=
  can_uniq h1 h4 ho hP hQ fun m hm => nis_uniq (numN_lk (n := n) hF hP.nd (fun u hu => (hP.ok u hu).1.1.n) m) (numN_lk (n := n) hF hQ.nd (fun u hu => (hQ.ok u hu).1.1.n) m) hB hC hf (rP.2 m hm) (rQ.2 m hm) (h m hm)
theorem rep_dvd {f : Int} {n : Nat} {P : List Tm} {l k : IT} {B : Int} (r : Rep f n B P l) (hk : IL n k) (h : ∀ m, m.length = n → f ∣ coefI l m - coefI k m) : Rep f n B P k :=
  ⟨hk, fun m hm => nis_dvd (r.2 m hm) (h m hm)⟩
/-- the denominators divide B -/
theorem nis_den {f : Int} {x : Int × Int} {c B : Int} (hx : NumN f x) (h : NIs f x c B) : x.2 ∣ B := by
  rcases hx with ⟨rfl, x1, x2⟩ | ⟨_, _, _, x3⟩
  · unfold NIs at h
    have e := Int.zero_dvd.mp h
    have h2 : x.2 ∣ x.1 * B := ⟨c, by grind⟩
    have cop : Nat.Coprime x.2.natAbs x.1.natAbs := by
      show Nat.gcd _ _ = 1
      rw [Nat.gcd_comm]; exact x2
    have h3 : x.2.natAbs ∣ x.1.natAbs * B.natAbs := by
      rw [← Int.natAbs_mul]
      exact Int.natAbs_dvd_natAbs.mpr h2
    exact Int.natAbs_dvd_natAbs.mp (cop.dvd_of_dvd_mul_left h3)
  · rw [x3]
    exact Int.one_dvd B
/-- a polynomial's own integer terms -/
def ownI (B : Int) (P : List Tm) : IT := P.map fun t => (t.1.1 * (B / t.1.2), t.2)
theorem il_own {f : Int} {n : Nat} {B : Int} {P : List Tm} (h : ∀ u ∈ P, TermOk f n u) : IL n (ownI B P) := fun t ht => by
  obtain ⟨u, hu, rfl⟩ := List.mem_map.mp ht
  exact (h u hu).2.1.1
theorem nis_own {f : Int} {x : Int × Int} {B : Int} (hd : x.2 ∣ B) (h0 : x.2 ≠ 0) : NIs f x (x.1 * (B / x.2)) B := by
  unfold NIs
  obtain ⟨k, rfl⟩ := hd
  rw [Int.mul_ediv_cancel_left _ h0]
  have : x.1 * (x.2 * k) - x.1 * k * x.2 = 0 := by grind
  rw [this]
  exact Int.dvd_zero f
theorem NumN.pos {f : Int} {x : Int × Int} (h : NumN f x) : 0 < x.2 := by
  rcases h with ⟨_, h, _⟩ | ⟨_, _, _, h⟩ <;> omega
theorem t2_own {f : Int} {B : Int} : ∀ {P : List Tm}, (∀ u ∈ P, NumN f u.1 ∧ u.1.2 ∣ B) → T2 f B P (ownI B P)
  | [], _ => .nil
  | u :: P, h => .cons ⟨rfl, (h u List.mem_cons_self).1, nis_own (h u List.mem_cons_self).2 (by have := (h u List.mem_cons_self).1.pos; omega)⟩ (t2_own fun v hv => h v (List.mem_cons_of_mem _ hv))
theorem coef_own {B : Int} : ∀ {P : List Tm}, (P.map (·.2)).Nodup → ∀ m, coefI (ownI B P) m = (lk P m).1 * (B / (lk P m).2)
  | [], _, m => by
    show (0 : Int) = 0 * _
    omega
  | u :: P, h, m => by
    have hd : (P.map (·.2)).Nodup := (List.nodup_cons.mp h).2
    have ih := coef_own (B := B) hd m
    show coefI ((u.1.1 * (B / u.1.2), u.2) :: ownI B P) m = _
    rw [coefI_cons, ih]
    by_cases c : u.2 = m
    · rw [if_pos c]
      have e1 : lk (u :: P) m = u.1 := by rw [← c]; exact lk_mem h List.mem_cons_self
      have e2 : lk P m = (0, 1) := lk_none fun v hv z => (List.nodup_cons.mp h).1 (by show u.2 ∈ _; rw [c, ← z]; exact List.mem_map_of_mem (f := fun x : Tm => x.2) hv)
      rw [e1, e2]
      show _ + 0 * _ = _
      omega
    · rw [if_neg c]
      have e1 : lk (u :: P) m = lk P m := by
        unfold lk lookA
        rw [List.map_cons]
        show (if u.2 = m then _ else _ : Option (Int × Int)).getD _ = _
        rw [if_neg c]
      rw [e1]
      omega
/-- what a polynomial stands for is what its own terms say -/
theorem rep_own {f : Int} {n : Nat} {o : Ord} (hF : IsF f) {P : List Tm} {l : IT} {B : Int} (hP : Can f n o P) (r : Rep f n B P l) (hB : f ≠ 0 → B = 1) : (∀ u ∈ P, u.1.2 ∣ B) ∧ ∀ m, m.length = n → f ∣ coefI (ownI B P) m - coefI l m := by
  refine ⟨fun u hu => ?_, fun m hm => ?_⟩
  · have := r.2 u.2 (hP.ok u hu).1.2.1.1
    rw [lk_mem hP.nd hu] at this
    exact nis_den (hP.ok u hu).1.1.n this
  · have hn := numN_lk (n := n) hF hP.nd (fun u hu => (hP.ok u hu).1.1.n) m
    have := r.2 m hm
    rw [coef_own hP.nd]
    obtain ⟨k, hk⟩ := nis_den hn this
    unfold NIs at this
    have p := hn.pos
    rcases hn with ⟨rfl, _, _⟩ | ⟨hf, _, _, x3⟩
    · have e := Int.zero_dvd.mp this
      refine Int.zero_dvd.mpr ?_
      rw [hk, Int.mul_ediv_cancel_left _ (by omega)]
      rw [hk] at e
      have : ((lk P m).1 * k - coefI l m) * (lk P m).2 = 0 := by grind
      rcases Int.mul_eq_zero.mp this with h | h
      · exact h
      · omega
    · have b1 := hB hf
      rw [x3, b1] at this
      rw [x3, b1]
      simpa using this
theorem own_rep {f : Int} {n : Nat} {o : Ord} {P : List Tm} {B : Int} (hP : Can f n o P) (hd : ∀ u ∈ P, u.1.2 ∣ B) : Rep f n B P (ownI B P) := by
  refine ⟨il_own fun u hu => (hP.ok u hu).1, fun m hm => ?_⟩
  rw [coef_own hP.nd]
  rcases lk_cases hP.nd m with ⟨u, hu, _, b⟩ | ⟨_, b⟩
  · rw [b]; exact nis_own (hd u hu) (by have := (hP.ok u hu).1.1.n.pos; omega)
  · rw [b]; exact nis_own (Int.one_dvd _) (by decide)

/-! ### sums of integer terms: what they need, what they give -/
def bd (l : IT) : Nat := (l.map fun t => t.1.natAbs).sum
theorem bd_cons (t : Int × List Int) (l : IT) : bd (t :: l) = t.1.natAbs + bd l := rfl
theorem bd_app (a b : IT) : bd (a ++ b) = bd a + bd b := by
  unfold bd
  rw [List.map_append, List.sum_append]
theorem coef_bd : ∀ (l : IT) (m : List Int), (coefI l m).natAbs ≤ bd l
  | [], _ => Nat.le_refl _
  | t :: l, m => by
    have := coef_bd l m
    rw [coefI_cons, bd_cons]
    split <;> omega
theorem bd_take : ∀ (l : IT) (k : Nat), bd (l.take k) ≤ bd l
  | [], k => by rw [List.take_nil]; exact Nat.le_refl _
  | t :: l, 0 => Nat.zero_le _
  | t :: l, k + 1 => by
    have := bd_take l k
    rw [List.take_succ_cons, bd_cons, bd_cons]
    omega
theorem bd_mulT1 (t : Int × List Int) : ∀ (b : IT), bd (mulT1 t b) = t.1.natAbs * bd b
  | [] => rfl
  | u :: b => by
    have := bd_mulT1 t b
    show bd ((t.1 * u.1, addM t.2 u.2) :: mulT1 t b) = _
    rw [bd_cons, bd_cons, this, Int.natAbs_mul, Nat.mul_add]
theorem bd_mul (b : IT) : ∀ (a : IT), bd (mulI a b) = bd a * bd b
  | [] => by show 0 = 0 * _; omega
  | t :: a => by rw [mulI_cons, bd_app, bd_mulT1, bd_mul b a, bd_cons, Nat.add_mul]
theorem numOk_of {f : Int} {x : Int × Int} {c B : Int} (hx : NumN f x) (h : NIs f x c B) (hB : 0 < B) (h1 : c.natAbs < NBn) (h2 : B.natAbs < NBn) : NumOk f x := by
  have hd := nis_den hx h
  have hp := hx.pos
  rcases hx with ⟨rfl, x1, x2⟩ | ⟨hf, x1, x2, x3⟩
  · refine numOk_q.2 ⟨?_, x1, ?_, x2⟩
    · obtain ⟨k, rfl⟩ := hd
      have e := Int.zero_dvd.mp h
      have e2 : (x.1 * k - c) * x.2 = 0 := by grind
      have e3 : x.1 * k = c := by
        rcases Int.mul_eq_zero.mp e2 with h | h
        · omega
        · omega
      have k0 : k ≠ 0 := fun z => by rw [z] at hB; omega
      have : x.1.natAbs ≤ c.natAbs := by
        rw [← e3, Int.natAbs_mul]
        exact Nat.le_mul_of_pos_right _ (by omega)
      omega
    · have := Int.natAbs_dvd_natAbs.mpr hd
      have := Nat.le_of_dvd (by omega) this
      omega
  · exact (numOk_m hf).2 ⟨x1, x2, x3⟩
theorem t2_take {f B : Int} : ∀ {ts : List Tm} {l : IT} (k : Nat), T2 f B ts l → T2 f B (ts.take k) (l.take k)
  | [], [], k, _ => by rw [List.take_nil, List.take_nil]; exact .nil
  | [], _ :: _, _, h => by cases h
  | _ :: _, [], _, h => by cases h
  | t :: ts, e :: l, 0, _ => .nil
  | t :: ts, e :: l, k + 1, h => by
    cases h with
    | cons a b => exact .cons a (t2_take k b)
theorem t2_len {f B : Int} {ts : List Tm} {l : IT} (h : T2 f B ts l) : ts.length = l.length := Paired.length h
theorem look_of {al : Al2} (hn : (al.map (·.1)).Nodup) {e : List Int × (Int × Int)} (h : e ∈ al) : lookA al e.1 = e.2 := by
  unfold lookA
  rw [getM_mem hn h]
  rfl
theorem sumOk_t2 {f : Int} (hF : IsF f) {B : Int} (hB : f ≠ 0 → B = 1) (hp : 0 < B) (hb : B.natAbs < NBn) {ts : List Tm} {l : IT} (h : T2 f B ts l) (hl : bd l < NBn) : SumOk f ts := fun k e he => by
  have nd : (((ts.take k).foldl (addT f) []).map (·.1)).Nodup := sum_nodup f (ts.take k)
  obtain ⟨a, b⟩ := sum_is hF hB (t2_take k h) e.1
  rw [show lookA (sumL f (ts.take k)) e.1 = e.2 from look_of nd he] at a b
  exact numOk_of a b hp (Nat.lt_of_le_of_lt (coef_bd _ _) (Nat.lt_of_le_of_lt (bd_take l k) hl)) hb
theorem numOk_zero {f : Int} {x : Int × Int} (h : NumOk f x) (z : x.1 = 0) : x = (0, 1) := by
  by_cases hf : f = 0
  · subst hf
    obtain ⟨_, h1, _, h2⟩ := numOk_q.1 h
    rw [z] at h2
    have : Nat.gcd (Int.natAbs 0) x.2.natAbs = x.2.natAbs := Nat.gcd_zero_left _
    rw [this] at h2
    exact Prod.ext z (by show x.2 = 1; omega)
  · obtain ⟨_, _, h3⟩ := (numOk_m hf).1 h
    exact Prod.ext z h3
theorem lk_perm {P Q : List Tm} (h : P.Perm Q) (hd : (P.map (·.2)).Nodup) (m : List Int) : lk P m = lk Q m := by
  have hq : (Q.map (·.2)).Nodup := (h.map (·.2)).nodup_iff.mp hd
  rcases lk_cases hd m with ⟨u, hu, a, b⟩ | ⟨a, b⟩
  · rw [b, ← a, lk_mem hq (h.mem_iff.mp hu)]
  · rw [b, lk_none fun u hu => a u (h.mem_iff.mpr hu)]
theorem lk_keep {f : Int} {al : Al2} (hn : (al.map (·.1)).Nodup) (hk : ∀ e ∈ al, NumOk f e.2) (m : List Int) : lk (keepOf al) m = lookA al m := by
  rcases lk_cases (keep_nodup hn) m with ⟨u, hu, a, b⟩ | ⟨a, b⟩
  · rw [b, ← a]
    unfold lookA
    rw [keep_get hn hu]
    rfl
  · rw [b]
    unfold lookA
    cases e : getM al m with
    | none => rfl
    | some x =>
      have hm := mem_getM e
      by_cases z : x.1 = 0
      · have : x = (0, 1) := numOk_zero (hk _ hm) z
        rw [this]; rfl
      · refine absurd rfl (a (x, m) ?_)
        unfold keepOf
        exact List.mem_map.mpr ⟨(m, x), List.mem_filter.mpr ⟨hm, decide_eq_true z⟩, rfl⟩
theorem keepOf_len (al : Al2) : (keepOf al).length ≤ al.length := by
  unfold keepOf
  rw [List.length_map]
  exact List.length_filter_le _ _
/-- a sum of terms -/
theorem rep_sum {f : Int} (hF : IsF f) {n : Nat} {o : Ord} (h1 : 1 ≤ n) (h4 : n ≤ 4) (ho : OrdOk n o) {B : Int} (hB : f ≠ 0 → B = 1) (hp : 0 < B) (hb : B.natAbs < NBn) {ts : List Tm} {l : IT} (h : T2 f B ts l) (hl : bd l < NBn) (hm : ∀ u ∈ ts, Mon n u.2) :
    SumOk f ts ∧ Can f n o (polyL f n (rowsL n o) ts) ∧ Rep f n B (polyL f n (rowsL n o) ts) l ∧ (polyL f n (rowsL n o) ts).length ≤ ts.length := by
  have sk := sumOk_t2 hF hB hp hb h hl
  have sk' : ∀ e ∈ sumL f ts, NumOk f e.2 := fun e he => by
    have := sk ts.length e
    rw [List.take_length] at this
    exact this he
  have nd := sum_nodup f ts
  have key := sum_key (f := f) (p := fun m => Mon n m) hm
  have can : Can f n o (polyL f n (rowsL n o) ts) := can_sort (kept_ok fun e he => ⟨key e he, sk' e he⟩) (keep_nodup nd)
  refine ⟨sk, can, ⟨?_, fun m hmn => ?_⟩, ?_⟩
  · have : ∀ {ts : List Tm} {l : IT}, T2 f B ts l → (∀ u ∈ ts, Mon n u.2) → IL n l := fun {ts l} h => by
      induction h with
      | nil => intro _ t ht; cases ht
      | cons a b ih =>
        intro hm t ht
        rcases List.mem_cons.mp ht with rfl | ht
        · rw [← a.1]; exact (hm _ List.mem_cons_self).1.1
        · exact ih (fun u hu => hm u (List.mem_cons_of_mem _ hu)) t ht
    exact this h hm
  · have e : lk (polyL f n (rowsL n o) ts) m = lookA (sumL f ts) m := by
      rw [lk_perm (poly_perm f n (rowsL n o) ts) can.nd m]
      exact lk_keep nd sk' m
    rw [e]
    exact (sum_is hF hB h m).2
  · rw [(poly_perm f n (rowsL n o) ts).length_eq]
    exact Nat.le_trans (keepOf_len _) (sum_len f ts)
/-! numbers -/
theorem powM_one {f : Int} (hf : 2 ≤ f) : ∀ k, powM 1 f k = 1
  | 0 => rfl
  | k + 1 => by
    show powM 1 f k * 1 % f = 1
    rw [powM_one hf k]
    exact Int.emod_eq_of_lt (by omega) (by omega)
theorem mkN_n {f : Int} (hF : IsF f) {c D : Int} (hD : D ≠ 0) : NumN f (mkN f c D) := by
  unfold mkN
  by_cases hf : f = 0
  · rw [if_pos hf]
    obtain ⟨a1, a2, _⟩ := low_spec c hD
    exact .inl ⟨hf, a1, a2⟩
  · have := hF.pos hf
    rw [if_neg hf]
    exact .inr ⟨hf, Int.emod_nonneg _ (by omega), Int.emod_lt_of_pos _ (by omega), rfl⟩
theorem mkN_is {f : Int} (hF : IsF f) {c D : Int} (hD : D ≠ 0) (h1 : f ≠ 0 → D = 1) : NIs f (mkN f c D) c D := by
  unfold mkN NIs
  by_cases hf : f = 0
  · rw [if_pos hf]
    obtain ⟨_, _, a3, _⟩ := low_spec c hD
    subst hf
    refine Int.zero_dvd.mpr ?_
    omega
  · have hp := hF.pos hf
    rw [if_neg hf, h1 hf]
    have e : invP (1 % f) f = 1 := by
      unfold invP
      rw [Int.emod_eq_of_lt (by omega) (by omega)]
      exact powM_one hp _
    rw [e]
    show f ∣ c * 1 % f * 1 - c * 1
    have := Int.emod_add_mul_ediv (c * 1) f
    exact ⟨-(c * 1 / f), by grind⟩
theorem mulN_n {f : Int} (hF : IsF f) {x y : Int × Int} (hx : NumN f x) (hy : NumN f y) : NumN f (mulN f x y) := by
  unfold mulN
  by_cases hf : f = 0
  · rw [if_pos hf]
    obtain ⟨a1, a2, _⟩ := low_spec (x.1 * y.1) (d := x.2 * y.2) (Int.mul_ne_zero (by have := hx.pos; omega) (by have := hy.pos; omega))
    exact .inl ⟨hf, a1, a2⟩
  · have := hF.pos hf
    rw [if_neg hf]
    exact .inr ⟨hf, Int.emod_nonneg _ (by omega), Int.emod_lt_of_pos _ (by omega), rfl⟩
theorem mulN_is {f : Int} {x y : Int × Int} {c d B C : Int} (hx : NumN f x) (hy : NumN f y) (hB : f ≠ 0 → B = 1 ∧ C = 1) (h1 : NIs f x c B) (h2 : NIs f y d C) : NIs f (mulN f x y) (c * d) (B * C) := by
  unfold NIs at *
  unfold mulN
  by_cases hf : f = 0
  · subst hf
    rw [if_pos rfl]
    have e1 := Int.zero_dvd.mp h1
    have e2 := Int.zero_dvd.mp h2
    have hne : x.2 * y.2 ≠ 0 := Int.mul_ne_zero (by have := hx.pos; omega) (by have := hy.pos; omega)
    obtain ⟨_, _, a3, _⟩ := low_spec (x.1 * y.1) (d := x.2 * y.2) hne
    generalize lowQ (x.1 * y.1) (x.2 * y.2) = z at *
    refine Int.zero_dvd.mpr ?_
    have e : (z.1 * (B * C) - c * d * z.2) * (x.2 * y.2) = 0 := by
      have a : z.1 * (x.2 * y.2) * (B * C) = x.1 * y.1 * z.2 * (B * C) := by rw [a3]
      have b : x.1 * B = c * x.2 := by omega
      have b2 : y.1 * C = d * y.2 := by omega
      have c1 : x.1 * y.1 * z.2 * (B * C) = (x.1 * B) * (y.1 * C) * z.2 := by grind
      rw [b, b2] at c1
      grind
    rcases Int.mul_eq_zero.mp e with e | e
    · exact e
    · exact absurd e hne
  · obtain ⟨rfl, rfl⟩ := hB hf
    rw [if_neg hf]
    have x2 : x.2 = 1 := by
      rcases hx with ⟨z, _⟩ | ⟨_, _, _, q⟩
      · exact absurd z hf
      · exact q
    have y2 : y.2 = 1 := by
      rcases hy with ⟨z, _⟩ | ⟨_, _, _, q⟩
      · exact absurd z hf
      · exact q
    rw [x2] at h1
    rw [y2] at h2
    simp only [Int.mul_one] at *
    show f ∣ x.1 * y.1 % f - c * d
    have e : x.1 * y.1 % f - c * d = (x.1 - c) * y.1 + c * (y.1 - d) - f * (x.1 * y.1 / f) := by
      have := Int.emod_add_mul_ediv (x.1 * y.1) f
      grind
    rw [e]
    exact Int.dvd_sub (Int.dvd_add (Int.dvd_trans h1 (Int.dvd_mul_right _ _)) (Int.dvd_trans h2 (Int.dvd_mul_left _ _))) (Int.dvd_mul_right _ _)

/-! ### tables: integer terms of distinct monomials -/
def NdT (T : IT) : Prop := (T.map (·.2)).Nodup
def getI (T : IT) (m : List Int) : Option Int := (T.find? fun t => decide (t.2 = m)).map (·.1)
def putI (T : IT) (m : List Int) (x : Int) : IT :=
  if (T.any fun t => decide (t.2 = m)) = true then T.map (fun t => if t.2 = m then (x, t.2) else t) else T ++ [(x, m)]
theorem coef_none {T : IT} {m : List Int} (h : (T.any fun t => decide (t.2 = m)) = false) : coefI T m = 0 :=
  coefI_zero fun t ht z => by
    have := List.any_eq_false.mp h t ht
    simp [z] at this
theorem nd_cons {t : Int × List Int} {T : IT} (h : NdT (t :: T)) : NdT T ∧ ∀ u ∈ T, u.2 ≠ t.2 := by
  have := List.nodup_cons.mp h
  exact ⟨this.2, fun u hu z => this.1 (by show t.2 ∈ _; rw [← z]; exact List.mem_map_of_mem (f := fun x : Int × List Int => x.2) hu)⟩
theorem getI_coef : ∀ {T : IT}, NdT T → ∀ m, (getI T m).getD 0 = coefI T m
  | [], _, _ => rfl
  | t :: T, h, m => by
    obtain ⟨hd, hn⟩ := nd_cons h
    rw [coefI_cons]
    unfold getI
    rw [List.find?_cons]
    by_cases c : t.2 = m
    · rw [if_pos c]
      simp only [c, decide_true]
      rw [coefI_zero fun u hu => by rw [← c]; exact hn u hu]
      show t.1 = t.1 + 0
      omega
    · rw [if_neg c]
      simp only [c, decide_false]
      have := getI_coef hd m
      unfold getI at this
      rw [this]; omega
theorem coef_map {T : IT} {m k : List Int} {x : Int} (h : NdT T) (hm : (T.any fun t => decide (t.2 = m)) = true) : coefI (T.map fun t => if t.2 = m then (x, t.2) else t) k = if m = k then x else coefI T k := by
  induction T with
  | nil => simp at hm
  | cons t T ih =>
    obtain ⟨hd, hn⟩ := nd_cons h
    rw [List.map_cons, coefI_cons, coefI_cons]
    by_cases c : t.2 = m
    · have e : (T.map fun t => if t.2 = m then (x, t.2) else t) = T := by
        rw [show (T.map fun t => if t.2 = m then (x, t.2) else t) = T.map id from List.map_congr_left fun u hu => by rw [if_neg (by rw [← c]; exact hn u hu)]; rfl, List.map_id]
      rw [e, if_pos c]
      by_cases d : m = k
      · rw [if_pos d]
        show (if t.2 = k then x else 0) + _ = _
        rw [if_pos (by rw [c, d]), coefI_zero fun u hu => by rw [← d, ← c]; exact hn u hu]; omega
      · rw [if_neg d]
        show (if t.2 = k then x else 0) + _ = _
        rw [if_neg (by rw [c]; exact d), if_neg (by rw [c]; exact d)]
    · have hm' : (T.any fun t => decide (t.2 = m)) = true := by
        rw [List.any_cons] at hm
        simpa [c] using hm
      rw [if_neg c, ih hd hm']
      by_cases d : m = k
      · rw [if_pos d, if_pos d, if_neg (by rw [← d]; exact c)]; omega
      · rw [if_neg d, if_neg d]
theorem coef_put {T : IT} (h : NdT T) (m k : List Int) (x : Int) : coefI (putI T m x) k = if m = k then x else coefI T k := by
  unfold putI
  by_cases a : (T.any fun t => decide (t.2 = m)) = true
  · rw [if_pos a]; exact coef_map h a
  · rw [if_neg a, coefI_app, coefI_cons]
    show _ + ((if m = k then x else 0) + 0) = _
    by_cases d : m = k
    · rw [if_pos d, if_pos d, ← d, coef_none (Bool.eq_false_iff.mpr a)]; omega
    · rw [if_neg d, if_neg d]; omega
theorem put_keys (T : IT) (m : List Int) (x : Int) : (putI T m x).map (·.2) = if (T.any fun t => decide (t.2 = m)) = true then T.map (·.2) else T.map (·.2) ++ [m] := by
  unfold putI
  split
  · rw [List.map_map]
    exact List.map_congr_left fun t _ => by
      show (if t.2 = m then (x, t.2) else t).2 = t.2
      split <;> rfl
  · rw [List.map_append]; rfl
theorem put_nd {T : IT} (h : NdT T) (m : List Int) (x : Int) : NdT (putI T m x) := by
  unfold NdT
  rw [put_keys]
  split
  · exact h
  · rename_i a
    refine List.nodup_append.mpr ⟨h, by simp, fun a' ha b hb => ?_⟩
    rw [List.mem_singleton] at hb
    subst hb
    intro z
    obtain ⟨t, ht, e⟩ := List.mem_map.mp ha
    refine a (List.any_eq_true.mpr ⟨t, ht, decide_eq_true ?_⟩)
    rw [← z]; exact e
theorem put_len (T : IT) (m : List Int) (x : Int) : (putI T m x).length ≤ T.length + 1 := by
  unfold putI
  split
  · rw [List.length_map]; omega
  · rw [List.length_append]; exact Nat.le_refl _
theorem mem_put {T : IT} {m : List Int} {x : Int} {t : Int × List Int} (h : t ∈ putI T m x) : t ∈ T ∨ t = (x, m) := by
  unfold putI at h
  split at h
  · obtain ⟨u, hu, e⟩ := List.mem_map.mp h
    split at e
    · rename_i c
      exact .inr (by rw [← e, c])
    · exact .inl (by rw [← e]; exact hu)
  · rcases List.mem_append.mp h with h | h
    · exact .inl h
    · exact .inr (List.mem_singleton.mp h)
/-- adding one term -/
def accI (T : IT) (t : Int × List Int) : IT := putI T t.2 ((getI T t.2).getD 0 + t.1)
theorem acc_coef {T : IT} (h : NdT T) (t : Int × List Int) (k : List Int) : coefI (accI T t) k = coefI T k + (if t.2 = k then t.1 else 0) := by
  unfold accI
  rw [coef_put h, getI_coef h]
  by_cases c : t.2 = k
  · rw [if_pos c, if_pos c, c]
  · rw [if_neg c, if_neg c]; omega
theorem fold_nd : ∀ (l : IT) {T : IT}, NdT T → NdT (l.foldl accI T)
  | [], _, h => h
  | t :: l, _, h => fold_nd l (put_nd h _ _)
theorem fold_coef : ∀ (l : IT) {T : IT}, NdT T → ∀ k, coefI (l.foldl accI T) k = coefI T k + coefI l k
  | [], _, _, k => by show _ = _ + (0 : Int); rw [List.foldl_nil]; omega
  | t :: l, T, h, k => by
    rw [List.foldl_cons, fold_coef l (T := accI T t) (put_nd h _ _), acc_coef h, coefI_cons]
    omega
theorem fold_len' : ∀ (l : IT) (T : IT), (l.foldl accI T).length ≤ T.length + l.length
  | [], _ => Nat.le_refl _
  | t :: l, T => by
    have := fold_len' l (accI T t)
    have h := put_len T t.2 ((getI T t.2).getD 0 + t.1)
    have e : (accI T t).length ≤ T.length + 1 := h
    rw [List.foldl_cons, List.length_cons]
    omega
theorem fold_keys {p : List Int → Prop} : ∀ (l : IT) {T : IT}, (∀ t ∈ T, p t.2) → (∀ t ∈ l, p t.2) → ∀ t ∈ l.foldl accI T, p t.2
  | [], _, h, _ => h
  | u :: l, T, h, g => fold_keys l (fun t ht => by
      rcases mem_put ht with ht | ht
      · exact h t ht
      · rw [ht]; exact g u List.mem_cons_self) fun t ht => g t (List.mem_cons_of_mem _ ht)
theorem nd_coef_mem {T : IT} (h : NdT T) {t : Int × List Int} (ht : t ∈ T) : coefI T t.2 = t.1 := by
  induction T with
  | nil => cases ht
  | cons u T ih =>
    obtain ⟨hd, hn⟩ := nd_cons h
    rw [coefI_cons]
    rcases List.mem_cons.mp ht with rfl | ht
    · rw [if_pos rfl, coefI_zero fun v hv => hn v hv]; omega
    · rw [if_neg (fun z => hn t ht z.symm), ih hd ht]; omega
/-- the numbers in a table of sums -/
theorem fold_num (l : IT) {t : Int × List Int} (ht : t ∈ l.foldl accI []) : t.1.natAbs ≤ bd l := by
  have nd : NdT (l.foldl accI []) := fold_nd l (T := []) .nil
  rw [← nd_coef_mem nd ht, fold_coef l (T := []) .nil]
  have := coef_bd l t.2
  show (0 + coefI l t.2).natAbs ≤ _
  omega
def prodT (a b : IT) : IT := (mulI a b).foldl accI []
theorem prod_nd (a b : IT) : NdT (prodT a b) := fold_nd _ (T := []) .nil
theorem prod_coef (a b : IT) (k : List Int) : coefI (prodT a b) k = coefI (mulI a b) k := by
  unfold prodT
  rw [fold_coef _ (T := []) .nil]
  show 0 + _ = _
  omega
/-- zeros left out, numbers of a prime field made small -/
def setT (f : Int) (T : IT) : IT := if f = 0 then T.filter fun t => decide (t.1 ≠ 0) else (T.filter fun t => decide (t.1 % f ≠ 0)).map fun t => (t.1 % f, t.2)
theorem set_mem {f : Int} {T : IT} {t : Int × List Int} (h : t ∈ setT f T) : ∃ u ∈ T, u.2 = t.2 ∧ t.1 = (if f = 0 then u.1 else u.1 % f) ∧ t.1 ≠ 0 := by
  unfold setT at h
  split at h
  · rename_i hf
    have := List.mem_filter.mp h
    exact ⟨t, this.1, rfl, by rw [if_pos hf], of_decide_eq_true this.2⟩
  · rename_i hf
    obtain ⟨u, hu, rfl⟩ := List.mem_map.mp h
    have := List.mem_filter.mp hu
    exact ⟨u, this.1, rfl, by rw [if_neg hf], of_decide_eq_true this.2⟩
theorem set_keys_sub (f : Int) (T : IT) : ((setT f T).map (·.2)).Sublist (T.map (·.2)) := by
  unfold setT
  split
  · exact List.filter_sublist.map _
  · rw [List.map_map]
    exact (List.filter_sublist (p := fun t : Int × List Int => decide (t.1 % f ≠ 0)) (l := T)).map (·.2)
theorem set_nd {f : Int} {T : IT} (h : NdT T) : NdT (setT f T) := List.Nodup.sublist (set_keys_sub f T) h
theorem set_len (f : Int) (T : IT) : (setT f T).length ≤ T.length := by
  have := (set_keys_sub f T).length_le
  rwa [List.length_map, List.length_map] at this
theorem coef_filter {T : IT} {q : Int × List Int → Bool} (h : ∀ t ∈ T, q t = false → t.1 = 0) (m : List Int) : coefI (T.filter q) m = coefI T m := by
  induction T with
  | nil => rfl
  | cons t T ih =>
    have ih := ih fun u hu => h u (List.mem_cons_of_mem _ hu)
    rw [List.filter_cons]
    split
    · rw [coefI_cons, coefI_cons, ih]
    · rename_i c
      rw [coefI_cons, ih, h t List.mem_cons_self (by simpa using c)]
      split <;> omega
theorem set_coef (f : Int) (T : IT) (m : List Int) : f ∣ coefI T m - coefI (setT f T) m := by
  unfold setT
  split
  · rw [coef_filter fun t _ h => by simpa using h]
    exact ⟨0, by omega⟩
  · induction T with
    | nil => exact ⟨0, by show (0 : Int) - 0 = _; omega⟩
    | cons t T ih =>
      rw [List.filter_cons, coefI_cons]
      by_cases c : t.1 % f = 0
      · have : (decide (t.1 % f ≠ 0)) = false := by simp [c]
        rw [this]
        show f ∣ _ - coefI (List.map _ (List.filter _ T)) m
        have e : (if t.2 = m then t.1 else 0) + coefI T m - coefI (List.map (fun t => (t.1 % f, t.2)) (List.filter (fun t => decide (t.1 % f ≠ 0)) T)) m = (if t.2 = m then t.1 else 0) + (coefI T m - coefI (List.map (fun t => (t.1 % f, t.2)) (List.filter (fun t => decide (t.1 % f ≠ 0)) T)) m) := by omega
        rw [e]
        refine Int.dvd_add ?_ ih
        split
        · exact Int.dvd_of_emod_eq_zero c
        · exact ⟨0, by omega⟩
      · have : (decide (t.1 % f ≠ 0)) = true := by simp [c]
        rw [this]
        show f ∣ _ - coefI ((t.1 % f, t.2) :: List.map (fun t => (t.1 % f, t.2)) (List.filter (fun t => decide (t.1 % f ≠ 0)) T)) m
        rw [coefI_cons]
        have e : (if t.2 = m then t.1 else 0) + coefI T m - ((if t.2 = m then t.1 % f else 0) + coefI (List.map (fun t => (t.1 % f, t.2)) (List.filter (fun t => decide (t.1 % f ≠ 0)) T)) m) = (if t.2 = m then t.1 - t.1 % f else 0) + (coefI T m - coefI (List.map (fun t => (t.1 % f, t.2)) (List.filter (fun t => decide (t.1 % f ≠ 0)) T)) m) := by
          split <;> omega
        rw [e]
        refine Int.dvd_add ?_ ih
        split
        · have := Int.emod_add_mul_ediv t.1 f
          exact ⟨t.1 / f, by omega⟩
        · exact ⟨0, by omega⟩

/-! ### out of tables: polynomials -/
def unpL (f : Int) (n : Nat) (o : Ord) (T : IT) (B : Int) : List Tm := sortT n o ((setT f T).map fun t => (mkN f t.1 B, t.2))
theorem mkN_ne {f : Int} (hF : IsF f) {c B : Int} (hB : 0 < B) (h1 : f ≠ 0 → B = 1) (hc : c ≠ 0) (hr : f ≠ 0 → 0 ≤ c ∧ c < f) : (mkN f c B).1 ≠ 0 := by
  unfold mkN
  by_cases hf : f = 0
  · rw [if_pos hf]
    obtain ⟨a1, _, a3, _⟩ := low_spec c (d := B) (by omega)
    intro z
    rw [z] at a3
    have : c * (lowQ c B).2 = 0 := by omega
    rcases Int.mul_eq_zero.mp this with h | h <;> omega
  · have hp := hF.pos hf
    rw [if_neg hf, h1 hf]
    have e : invP (1 % f) f = 1 := by
      unfold invP
      rw [Int.emod_eq_of_lt (by omega) (by omega)]
      exact powM_one hp _
    rw [e]
    show c * 1 % f ≠ 0
    have := hr hf
    rw [Int.mul_one, Int.emod_eq_of_lt this.1 this.2]
    exact hc
theorem set_range {f : Int} (hF : IsF f) {T : IT} {t : Int × List Int} (h : t ∈ setT f T) : t.1 ≠ 0 ∧ (f ≠ 0 → 0 ≤ t.1 ∧ t.1 < f) ∧ ∃ u ∈ T, u.2 = t.2 ∧ t.1.natAbs ≤ u.1.natAbs + 31 := by
  obtain ⟨u, hu, e1, e2, e3⟩ := set_mem h
  have h31 := hF.lt
  refine ⟨e3, fun hf => ?_, u, hu, e1, ?_⟩
  · have := hF.pos hf
    rw [if_neg hf] at e2
    rw [e2]
    exact ⟨Int.emod_nonneg _ (by omega), Int.emod_lt_of_pos _ (by omega)⟩
  · by_cases hf : f = 0
    · rw [if_pos hf] at e2
      rw [e2]; omega
    · have := hF.pos hf
      rw [if_neg hf] at e2
      have := Int.emod_nonneg u.1 (show f ≠ 0 by omega)
      have := Int.emod_lt_of_pos u.1 (show 0 < f by omega)
      omega
theorem rep_unp {f : Int} (hF : IsF f) {n : Nat} {o : Ord} {B : Int} (hB : f ≠ 0 → B = 1) (hp : 0 < B) (hb : B.natAbs < NBn) {T : IT} (hT : NdT T) (hm : ∀ t ∈ T, Mon n t.2) (hl : ∀ t ∈ T, t.1.natAbs + 31 < NBn) :
    Can f n o (unpL f n o T B) ∧ Rep f n B (unpL f n o T B) T ∧ (unpL f n o T B).length ≤ T.length := by
  have nd : NdT (setT f T) := set_nd hT
  have ndl : (((setT f T).map fun t => ((mkN f t.1 B, t.2) : Tm)).map (·.2)).Nodup := by rw [List.map_map]; exact nd
  have can : Can f n o (unpL f n o T B) := can_sort (fun u hu => by
    obtain ⟨t, ht, rfl⟩ := List.mem_map.mp hu
    obtain ⟨a, b, u, hu, e, c⟩ := set_range hF ht
    refine ⟨⟨numOk_of (mkN_n hF (by omega)) (mkN_is hF (by omega) hB) hp (Nat.lt_of_le_of_lt c (hl u hu)) hb, ?_⟩, mkN_ne hF hp hB a b⟩
    show Mon n t.2
    rw [← e]; exact hm u hu) ndl
  refine ⟨can, ⟨fun t ht => (hm t ht).1.1, fun m hmn => ?_⟩, ?_⟩
  · have e : lk (unpL f n o T B) m = lk ((setT f T).map fun t => ((mkN f t.1 B, t.2) : Tm)) m := lk_perm (sortT_perm n o _) can.nd m
    rw [e]
    refine nis_dvd (c := coefI (setT f T) m) ?_ (by
      have := set_coef f T m
      have e : coefI (setT f T) m - coefI T m = -(coefI T m - coefI (setT f T) m) := by omega
      rw [e]
      exact Int.dvd_neg.mpr this)
    rcases lk_cases ndl m with ⟨u, hu, a, b⟩ | ⟨a, b⟩
    · obtain ⟨t, ht, rfl⟩ := List.mem_map.mp hu
      rw [b, ← a]
      show NIs f (mkN f t.1 B) (coefI (setT f T) t.2) B
      rw [nd_coef_mem nd ht]
      exact mkN_is hF (by omega) hB
    · rw [b, coefI_zero fun t ht z => a _ (List.mem_map_of_mem (f := fun t => ((mkN f t.1 B, t.2) : Tm)) ht) z]
      exact nis_zero
  · unfold unpL
    rw [(sortT_perm n o _).length_eq, List.length_map]
    exact set_len f T
/-! products -/
def lcmD (b : Nat) (P : List Tm) : Nat := P.foldl (fun b t => Nat.lcm b t.1.2.natAbs) b
theorem lcmD_dvd : ∀ (P : List Tm) (b : Nat), b ∣ lcmD b P ∧ ∀ u ∈ P, u.1.2.natAbs ∣ lcmD b P
  | [], b => ⟨Nat.dvd_refl _, fun u hu => by cases hu⟩
  | t :: P, b => by
    obtain ⟨h1, h2⟩ := lcmD_dvd P (Nat.lcm b t.1.2.natAbs)
    refine ⟨Nat.dvd_trans (Nat.dvd_lcm_left _ _) h1, fun u hu => ?_⟩
    rcases List.mem_cons.mp hu with rfl | hu
    · exact Nat.dvd_trans (Nat.dvd_lcm_right _ _) h1
    · exact h2 u hu
theorem lcmD_min {D : Nat} : ∀ (P : List Tm) (b : Nat), b ∣ D → (∀ u ∈ P, u.1.2.natAbs ∣ D) → lcmD b P ∣ D
  | [], _, h, _ => h
  | t :: P, b, h, g => lcmD_min P _ (Nat.lcm_dvd h (g t List.mem_cons_self)) fun u hu => g u (List.mem_cons_of_mem _ hu)
/-- the least common denominator -/
def belowZ (P : List Tm) : Int := ((lcmD 1 P : Nat) : Int)
theorem below_dvd {P : List Tm} {u : Tm} (hu : u ∈ P) : u.1.2 ∣ belowZ P := by
  have := (lcmD_dvd P 1).2 u hu
  unfold belowZ
  exact Int.natAbs_dvd.mp (Int.ofNat_dvd.mpr this)
theorem below_min {P : List Tm} {B : Int} (h : ∀ u ∈ P, u.1.2 ∣ B) : belowZ P ∣ B := by
  have := lcmD_min (D := B.natAbs) P 1 (Nat.one_dvd _) fun u hu => Int.natAbs_dvd_natAbs.mpr (h u hu)
  unfold belowZ
  exact Int.dvd_natAbs.mp (Int.ofNat_dvd.mpr this)
theorem below_pos {P : List Tm} (h : ∀ u ∈ P, 0 < u.1.2) : 0 < belowZ P := by
  have : ∀ (P : List Tm) (b : Nat), 0 < b → (∀ u ∈ P, 0 < u.1.2) → 0 < lcmD b P := fun P => by
    induction P with
    | nil => intro b hb _; exact hb
    | cons t P ih => intro b hb h; exact ih _ (Nat.lcm_pos hb (by have := h t List.mem_cons_self; omega)) fun u hu => h u (List.mem_cons_of_mem _ hu)
  unfold belowZ
  have := this P 1 (by decide) h
  omega
theorem Can.npos {f : Int} {n : Nat} {o : Ord} {P : List Tm} (h : Can f n o P) : ∀ u ∈ P, 0 < u.1.2 := fun u hu => (h.ok u hu).1.1.n.pos
theorem below_one {f : Int} {n : Nat} {o : Ord} {P : List Tm} (h : Can f n o P) (hf : f ≠ 0) : belowZ P = 1 := by
  have h1 := below_min (P := P) (B := 1) fun u hu => by
    rw [((numOk_m hf).1 (h.ok u hu).1.1).2.2]; exact Int.dvd_refl 1
  have h2 := below_pos h.npos
  have := Int.le_of_dvd (by decide) h1
  omega
theorem nis_scale {f : Int} {x : Int × Int} {c B : Int} (h : NIs f x c B) (k : Int) : NIs f x (c * k) (B * k) := by
  unfold NIs at *
  have : x.1 * (B * k) - c * k * x.2 = (x.1 * B - c * x.2) * k := by grind
  rw [this]
  exact Int.dvd_trans h (Int.dvd_mul_right _ _)
theorem own_scale {f : Int} {n : Nat} {o : Ord} (hF : IsF f) {P : List Tm} {l : IT} {B k : Int} (hP : Can f n o P) (r : Rep f n (belowZ P * k) P l) (hB : f ≠ 0 → belowZ P * k = 1) {m : List Int} (hm : m.length = n) : f ∣ coefI (ownI (belowZ P) P) m * k - coefI l m * 1 := by
  have h := (rep_own hF hP r hB).2 m hm
  rw [coef_own hP.nd] at h ⊢
  have hd : (lk P m).2 ∣ belowZ P := by
    rcases lk_cases hP.nd m with ⟨u, hu, _, b⟩ | ⟨_, b⟩
    · rw [b]; exact below_dvd hu
    · rw [b]; exact Int.one_dvd _
  have h0 : (lk P m).2 ≠ 0 := by have := (numN_lk (n := n) hF hP.nd (fun u hu => (hP.ok u hu).1.1.n) m).pos; omega
  obtain ⟨j, hj⟩ := hd
  rw [hj] at h ⊢
  rw [Int.mul_assoc, Int.mul_ediv_cancel_left _ h0] at h
  rw [Int.mul_ediv_cancel_left _ h0, Int.mul_one, Int.mul_assoc]
  exact h
/-- the product of two polynomials -/
theorem rep_times {f : Int} (hF : IsF f) {n : Nat} {o : Ord} {P Q R : List Tm} {l k : IT} {B C : Int} (hP : Can f n o P) (hQ : Can f n o Q) (rP : Rep f n B P l) (rQ : Rep f n C Q k) (hB : f ≠ 0 → B = 1 ∧ C = 1)
    (rR : Rep f n (belowZ P * belowZ Q) R (mulI (ownI (belowZ P) P) (ownI (belowZ Q) Q))) : Rep f n (B * C) R (mulI l k) := by
  obtain ⟨i, hi⟩ := below_min (rep_own hF hP rP fun z => (hB z).1).1
  obtain ⟨j, hj⟩ := below_min (rep_own hF hQ rQ fun z => (hB z).2).1
  have ip := il_own (B := belowZ P) fun u hu => (hP.ok u hu).1
  have iq := il_own (B := belowZ Q) fun u hu => (hQ.ok u hu).1
  refine ⟨il_mul rP.1 rQ.1, fun m hm => ?_⟩
  have e1 : f ∣ coefI (mulI (ownI (belowZ P) P) (ownI (belowZ Q) Q)) m * j - coefI (mulI (ownI (belowZ P) P) k) m * 1 :=
    mul_same ip iq rQ.1 (fun m hm => own_scale (B := C) hF hQ (by rw [← hj]; exact rQ) (by rw [← hj]; exact fun z => (hB z).2) hm) hm
  have e2 : f ∣ coefI (mulI k (ownI (belowZ P) P)) m * i - coefI (mulI k l) m * 1 :=
    mul_same rQ.1 ip rP.1 (fun m hm => own_scale (B := B) hF hP (by rw [← hi]; exact rP) (by rw [← hi]; exact fun z => (hB z).1) hm) hm
  rw [mul_comm_c rQ.1 ip hm, mul_comm_c rQ.1 rP.1 hm] at e2
  have := nis_scale (rR.2 m hm) (i * j)
  have eB : B * C = belowZ P * belowZ Q * (i * j) := by rw [hi, hj]; grind
  rw [eB]
  refine nis_dvd this ?_
  have : coefI (mulI (ownI (belowZ P) P) (ownI (belowZ Q) Q)) m * (i * j) - coefI (mulI l k) m = (coefI (mulI (ownI (belowZ P) P) (ownI (belowZ Q) Q)) m * j - coefI (mulI (ownI (belowZ P) P) k) m * 1) * i + (coefI (mulI (ownI (belowZ P) P) k) m * i - coefI (mulI l k) m * 1) := by grind
  rw [this]
  exact Int.dvd_add (Int.dvd_trans e1 (Int.dvd_mul_right _ _)) e2
theorem prod_keys {p q r : List Int → Prop} {a b : IT} (ha : ∀ t ∈ a, p t.2) (hb : ∀ t ∈ b, q t.2) (h : ∀ x y, p x → q y → r (addM x y)) : ∀ t ∈ prodT a b, r t.2 :=
  fold_keys _ (fun t ht => by cases ht) fun t ht => by
    unfold mulI at ht
    obtain ⟨u, hu, h1⟩ := List.mem_flatMap.mp ht
    obtain ⟨v, hv, rfl⟩ := List.mem_map.mp h1
    exact h _ _ (ha u hu) (hb v hv)
theorem mulI_len : ∀ (a b : IT), (mulI a b).length = a.length * b.length
  | [], b => by show 0 = 0 * _; omega
  | t :: a, b => by
    rw [mulI_cons, List.length_append, mulI_len a b, List.length_cons, Nat.add_mul, Nat.one_mul]
    show (List.map _ b).length + _ = _
    rw [List.length_map]; omega
theorem prod_len (a b : IT) : (prodT a b).length ≤ a.length * b.length := by
  have := fold_len' (mulI a b) []
  rw [mulI_len] at this
  simpa [prodT] using this
/-! derivatives -/
def derT (f : Int) (i : Nat) (P : List Tm) : List Tm := P.filterMap fun t => if 0 < atM t.2 i then some (mulN f t.1 (mkN f (atM t.2 i) 1), movM t.2 i (-1)) else none
def derF (i : Nat) (l : IT) : IT := l.filterMap fun t => if 0 < atM t.2 i then some (t.1 * atM t.2 i, movM t.2 i (-1)) else none
theorem t2_der {f B : Int} (hF : IsF f) (hB : f ≠ 0 → B = 1) (i : Nat) : ∀ {ts : List Tm} {l : IT}, T2 f B ts l → T2 f B (derT f i ts) (derF i l)
  | [], [], _ => .nil
  | [], _ :: _, h => by cases h
  | _ :: _, [], h => by cases h
  | t :: ts, e :: l, h => by
    cases h with
    | cons a b =>
      have ih := t2_der hF hB i b
      obtain ⟨a1, a2, a3⟩ := a
      unfold derT derF
      rw [List.filterMap_cons, List.filterMap_cons, a1]
      by_cases c : 0 < atM e.2 i
      · rw [if_pos c, if_pos c]
        refine .cons ⟨rfl, mulN_n hF a2 (mkN_n hF (by decide)), ?_⟩ ih
        have := mulN_is (C := 1) a2 (mkN_n hF (c := atM e.2 i) (D := 1) (by decide)) (fun z => ⟨hB z, rfl⟩) a3 (mkN_is hF (by decide) fun _ => rfl)
        rw [Int.mul_one] at this
        exact this
      · rw [if_neg c, if_neg c]
        exact ih
theorem coef_derF {i : Nat} : ∀ {l : IT}, (∀ t ∈ l, 0 ≤ atM t.2 i) → ∀ m, coefI (derF i l) m = coefI (derI i l) m
  | [], _, _ => rfl
  | t :: l, h, m => by
    have ih := coef_derF (i := i) (l := l) (fun u hu => h u (List.mem_cons_of_mem _ hu)) m
    unfold derF at ih ⊢
    show _ = coefI ((t.1 * atM t.2 i, movM t.2 i (-1)) :: derI i l) m
    rw [List.filterMap_cons, coefI_cons]
    by_cases c : 0 < atM t.2 i
    · rw [if_pos c]
      show coefI (_ :: _) m = _
      rw [coefI_cons, ih]
    · rw [if_neg c]
      have z : atM t.2 i = 0 := by have := h t List.mem_cons_self; omega
      show coefI _ m = _
      rw [ih, z, Int.mul_zero]
      show _ = (if _ = m then (0 : Int) else 0) + _
      split <;> omega
theorem at_mem {m : List Int} {i : Nat} (h : i < m.length) : atM m i ∈ m := by
  unfold atM
  rw [List.getD_eq_getElem?_getD, List.getElem?_eq_getElem h]
  exact List.getElem_mem h
theorem sum_set : ∀ {m : List Int} {i : Nat} (x : Int), i < m.length → (m.set i x).sum = m.sum - atM m i + x
  | [], _, _, h => by simp at h
  | a :: m, 0, x, _ => by
    show x + m.sum = a + m.sum - a + x
    omega
  | a :: m, i + 1, x, h => by
    have := sum_set (m := m) (i := i) x (by simpa using h)
    show a + (m.set i x).sum = a + m.sum - atM m i + x
    omega
theorem mon_mov {n i : Nat} {m : List Int} (h : Mon n m) (hi : i < n) (hp : 0 < atM m i) : Mon n (movM m i (-1)) := by
  obtain ⟨⟨h1, h2⟩, h3⟩ := h
  refine ⟨⟨by rw [movM_len]; exact h1, fun e he => ?_⟩, ?_⟩
  · have := h2 _ (at_mem (m := m) (i := i) (by omega))
    rcases List.mem_or_eq_of_mem_set he with he | he
    · exact h2 e he
    · omega
  · unfold movM
    rw [sum_set _ (by omega)]; omega
theorem der_mon {f : Int} {n i : Nat} (hi : i < n) {P : List Tm} (h : ∀ u ∈ P, Mon n u.2) : ∀ u ∈ derT f i P, Mon n u.2 := fun u hu => by
  obtain ⟨t, ht, e⟩ := List.mem_filterMap.mp hu
  split at e
  · rename_i c
    cases e
    exact mon_mov (h t ht) hi c
  · cases e
theorem bd_derF {i : Nat} {M : Nat} : ∀ {l : IT}, (∀ t ∈ l, (atM t.2 i).natAbs ≤ M) → bd (derF i l) ≤ bd l * M
  | [], _ => by show 0 ≤ _; omega
  | t :: l, h => by
    have ih := bd_derF (i := i) (M := M) (l := l) fun u hu => h u (List.mem_cons_of_mem _ hu)
    unfold derF at ih ⊢
    rw [List.filterMap_cons, bd_cons, Nat.add_mul]
    have h1 := Nat.mul_le_mul_left t.1.natAbs (h t List.mem_cons_self)
    split
    · omega
    · rename_i x e
      split at e
      · cases e
        rw [bd_cons]
        show (t.1 * atM t.2 i).natAbs + _ ≤ _
        rw [Int.natAbs_mul]
        omega
      · cases e
/-- the derivative of a polynomial -/
theorem rep_der {f : Int} (hF : IsF f) {n i : Nat} {o : Ord} (h1 : 1 ≤ n) (h4 : n ≤ 4) (ho : OrdOk n o) (hi : i < n) {B : Int} (hB : f ≠ 0 → B = 1) (hp : 0 < B) (hb : B.natAbs < NBn) {P : List Tm} {l : IT} (hP : Can f n o P) (r : Rep f n B P l) (hl : bd (ownI B P) * 60 < NBn) :
    SumOk f (derT f i P) ∧ Can f n o (polyL f n (rowsL n o) (derT f i P)) ∧ Rep f n B (polyL f n (rowsL n o) (derT f i P)) (derI i l) ∧ (polyL f n (rowsL n o) (derT f i P)).length ≤ P.length := by
  obtain ⟨d1, d2⟩ := rep_own hF hP r hB
  have hmon : ∀ u ∈ P, Mon n u.2 := fun u hu => (hP.ok u hu).1.2
  have own_at : ∀ t ∈ ownI B P, 0 ≤ atM t.2 i ∧ atM t.2 i ≤ 60 := fun t ht => by
    obtain ⟨u, hu, rfl⟩ := List.mem_map.mp ht
    have := hmon u hu
    exact this.1.2 _ (at_mem (by have := this.1.1; omega))
  have t2 := t2_der hF hB i (t2_own (B := B) (P := P) fun u hu => ⟨(hP.ok u hu).1.1.n, d1 u hu⟩)
  have hbd := bd_derF (i := i) (M := 60) (l := ownI B P) fun t ht => by have := own_at t ht; omega
  obtain ⟨a, b, c, d⟩ := rep_sum hF h1 h4 ho hB hp hb t2 (by omega) (der_mon hi hmon)
  refine ⟨a, b, rep_dvd c (il_der r.1) fun m hm => ?_, Nat.le_trans d (List.length_filterMap_le _ _)⟩
  rw [coef_derF (fun t ht => (own_at t ht).1), coef_der hi hm (il_own fun u hu => (hP.ok u hu).1), coef_der hi hm r.1]
  have := d2 (movM m i 1) (by rw [movM_len]; exact hm)
  have e : (atM m i + 1) * coefI (ownI B P) (movM m i 1) - (atM m i + 1) * coefI l (movM m i 1) = (coefI (ownI B P) (movM m i 1) - coefI l (movM m i 1)) * (atM m i + 1) := by grind
  rw [e]
  exact Int.dvd_trans this (Int.dvd_mul_right _ _)
/-- the sum of two polynomials -/
theorem rep_plus {f : Int} (hF : IsF f) {n : Nat} {o : Ord} (h1 : 1 ≤ n) (h4 : n ≤ 4) (ho : OrdOk n o) {B : Int} (hB : f ≠ 0 → B = 1) (hp : 0 < B) (hb : B.natAbs < NBn) {P Q : List Tm} {l k : IT} (hP : Can f n o P) (hQ : Can f n o Q) (rP : Rep f n B P l) (rQ : Rep f n B Q k) (hl : bd (ownI B P) + bd (ownI B Q) < NBn) :
    SumOk f (P ++ Q) ∧ Can f n o (polyL f n (rowsL n o) (P ++ Q)) ∧ Rep f n B (polyL f n (rowsL n o) (P ++ Q)) (l ++ k) ∧ (polyL f n (rowsL n o) (P ++ Q)).length ≤ P.length + Q.length := by
  obtain ⟨d1, d2⟩ := rep_own hF hP rP hB
  obtain ⟨g1, g2⟩ := rep_own hF hQ rQ hB
  have t2 : T2 f B (P ++ Q) (ownI B (P ++ Q)) := t2_own fun u hu => by
    rcases List.mem_append.mp hu with hu | hu
    · exact ⟨(hP.ok u hu).1.1.n, d1 u hu⟩
    · exact ⟨(hQ.ok u hu).1.1.n, g1 u hu⟩
  have eo : ownI B (P ++ Q) = ownI B P ++ ownI B Q := List.map_append
  rw [eo] at t2
  obtain ⟨a, b, c, d⟩ := rep_sum hF h1 h4 ho hB hp hb t2 (by rw [bd_app]; exact hl) fun u hu => by
    rcases List.mem_append.mp hu with hu | hu
    · exact (hP.ok u hu).1.2
    · exact (hQ.ok u hu).1.2
  refine ⟨a, b, rep_dvd c (fun t ht => by
    rcases List.mem_append.mp ht with ht | ht
    · exact rP.1 t ht
    · exact rQ.1 t ht) fun m hm => ?_, by rw [List.length_append] at d; exact d⟩
  rw [coefI_app, coefI_app]
  have e : coefI (ownI B P) m + coefI (ownI B Q) m - (coefI l m + coefI k m) = (coefI (ownI B P) m - coefI l m) + (coefI (ownI B Q) m - coefI k m) := by omega
  rw [e]
  exact Int.dvd_add (d2 m hm) (g2 m hm)

/-! ### products of numbers, checks, shifted monomials -/
section
variable {P : Program} {w : World} {K : PySem.W.Frag} {mg : Str → Option Value} {base : Heap}
def sp_multiply_numbers : Sp := fun vs H Q _ => ∃ f va vb a b, vs = [.int f, va, vb] ∧ IsF f ∧ NumV H f va a ∧ NumV H f vb b ∧ NumOk f a ∧ NumOk f b ∧ ∀ v H', NumV H' f v (mulN f a b) → Same H H' → Q v H'
theorem ok_multiply_numbers (T : Txt K mg) : FnOk P w K mg base CX0 3 T.multiply_numbers.f T.multiply_numbers.fd P_multiply_numbers sp_multiply_numbers := by
  refine T.multiply_numbers.F.ok sc_multiply_numbers (fun vs H Q E h => ?_) (fun cdv A outer s H vs Q E hr h => ?_)
  · obtain ⟨f, va, vb, a, b, rfl, _⟩ := h; rfl
  · obtain ⟨f, va, vb, a, b, rfl, hF, na, nb, oa, ob, k⟩ := h
    refine ⟨_, (pss_cons (ps_if (pt_truth (pv 0) (by intro _; rfl)) (pss_one (ps_ret (pe_op op_mod (pe_op op_mulW (pv 1) (pv 2)) (pv 0)))) pss_nil)
  (pss_one (ps_ret (pe_call (ok_make_number T) (hr.mono (by decide)) rfl T.make_number.g T.make_number.F.kp (b_make_number T) .nil pass0 (pa_cons pe_int (pa_cons (pe_op op_mulW (pe_ix (r := rIxT K) ix_tup (pv 1) pe_int (fun _ _ => rfl)) (pe_ix (r := rIxT K) ix_tup (pv 2) pe_int (fun _ _ => rfl))) (pa_cons (pe_op op_mulW (pe_ix (r := rIxT K) ix_tup (pv 1) pe_int (fun _ _ => rfl)) (pe_ix (r := rIxT K) ix_tup (pv 2) pe_int (fun _ _ => rfl))) pa_nil))))))), ?_⟩
    obtain ⟨a1, a2, a3⟩ := oa.small hF
    obtain ⟨b1, b2, b3⟩ := ob.small hF
    unfold mulN at k
    walk_at "rd"
    refine iteN0 (fun hf => ?_) (fun hf => ?_)
    · rw [if_neg hf] at k
      obtain ⟨rfl, _⟩ := na.m hf
      obtain ⟨rfl, _⟩ := nb.m hf
      have h2 := hF.pos hf
      walk_at "rd"
      refine ⟨ss_mul a1 b1, ?_⟩
      walk_at "rd"
      exact k _ _ (.inr ⟨hf, rfl, rfl⟩) (Same.refl _)
    · subst hf
      rw [if_pos rfl] at k
      obtain ⟨p, rfl, hp⟩ := na.q
      obtain ⟨q, rfl, hq⟩ := nb.q
      walk_at "rd"
      refine ⟨ss_mul a1 b1, ?_⟩
      walk_at "rd"
      refine ⟨ss_mul a2 b2, ?_⟩
      walk_at "rd"
      exact ⟨0, _, _, rfl, .inl rfl, Nat.lt_of_lt_of_le (ss_lt a1 b1) (by have := s3_bb; omega), Nat.lt_of_lt_of_le (ss_lt a2 b2) (by have := s3_bb; omega), fun _ => Int.mul_ne_zero a3 b3, fun v H' n s => k v H' n s⟩
def sp_law_mul : Sp := sp_multiply_numbers
theorem ok_law_mul (T : Txt K mg) : FnOk P w K mg base CX0 3 T.law_mul.f T.law_mul.fd P_law_mul sp_law_mul := by
  refine T.law_mul.F.ok sc_law_mul (fun vs H Q E h => ?_) (fun cdv A outer s H vs Q E hr h => ?_)
  · obtain ⟨f, va, vb, a, b, rfl, _⟩ := h; rfl
  · obtain ⟨f, va, vb, a, b, rfl, hF, na, nb, oa, ob, k⟩ := h
    have h31 := hF.lt
    obtain ⟨a1, a2, a3⟩ := oa.small hF
    obtain ⟨b1, b2, b3⟩ := ob.small hF
    refine ⟨_, (pss_cons (ps_if (pt_cmpR op_gt (pv 0) pe_int (nomark _)) (pss_one (ps_ret (pe_op op_mod (pe_callTy call_int1 rfl T.n_int bo_int (pa_cons (pe_op op_mulW (pv 1) (pv 2)) pa_nil)) (pv 0)))) pss_nil)
  (pss_one (ps_ret (pe_call (ok_law_num T) (hr.mono (by decide)) rfl T.law_num.g T.law_num.F.kp (b_law_num T) .nil pass0 (pa_cons pe_int (pa_cons (pe_op op_mulW (pe_ix (r := rIxT K) ix_tup (pv 1) pe_int (fun _ _ => rfl)) (pe_ix (r := rIxT K) ix_tup (pv 2) pe_int (fun _ _ => rfl))) (pa_cons (pe_op op_mulW (pe_ix (r := rIxT K) ix_tup (pv 1) pe_int (fun _ _ => rfl)) (pe_ix (r := rIxT K) ix_tup (pv 2) pe_int (fun _ _ => rfl))) pa_nil))))))), ?_⟩
    walk_at "rd"
    refine iteD (fun h1 => ?_) (fun h1 => ?_)
    · have nf : f ≠ 0 := by omega
      obtain ⟨rfl, e1⟩ := na.m nf
      obtain ⟨rfl, e2⟩ := nb.m nf
      walk_at "rd"
      refine ⟨ss_mul a1 b1, ?_⟩
      walk_at "rd"
      unfold mulN at k
      rw [if_neg nf] at k
      exact k _ _ (.inr ⟨nf, rfl, rfl⟩) (Same.refl _)
    · have f0 : f = 0 := by omega
      subst f0
      obtain ⟨p, rfl, hp⟩ := na.q
      obtain ⟨q, rfl, hq⟩ := nb.q
      walk_at "rd"
      refine ⟨ss_mul a1 b1, ?_⟩
      walk_at "rd"
      refine ⟨ss_mul a2 b2, ?_⟩
      walk_at "rd"
      refine ⟨0, _, _, rfl, .inl rfl, Nat.lt_of_lt_of_le (ss_lt a1 b1) (by have := s3_bb; omega), Nat.lt_of_lt_of_le (ss_lt a2 b2) (by have := s3_bb; omega), ?_, fun v H' n s => k v H' ?_ s⟩
      · unfold isZ
        rw [if_pos rfl]
        exact decide_eq_false (Int.mul_ne_zero a3 b3)
      · unfold mkN at n
        rw [if_pos rfl] at n
        unfold mulN
        rw [if_pos rfl]
        exact n
/-- numerator and denominator -/
def sp_as_fraction : Sp := fun vs H Q _ => ∃ f va a, vs = [.int f, va] ∧ NumV H f va a ∧ ∀ p H', H' p = some (.tup [.int a.1, .int a.2]) → Same H H' → Q (.ref p) H'
theorem ok_as_fraction (T : Txt K mg) : FnOk P w K mg base CX0 1 T.as_fraction.f T.as_fraction.fd P_as_fraction sp_as_fraction := by
  refine T.as_fraction.F.ok sc_as_fraction (fun vs H Q E h => ?_) (fun cdv A outer s H vs Q E hr h => ?_)
  · obtain ⟨f, va, a, rfl, _⟩ := h; rfl
  · obtain ⟨f, va, a, rfl, na, k⟩ := h
    refine ⟨_, (pss_one (ps_ret (pe_ifExp (pt_truth (pv 0) (by intro _; rfl)) (pe_tup (pa_cons (pv 1) (pa_cons pe_int pa_nil))) (pv 1)))), ?_⟩
    walk_at "rd"
    refine iteN0 (fun hf => ?_) (fun hf => ?_)
    · obtain ⟨rfl, e⟩ := na.m hf
      walk_at "rd"
      refine ⟨two_line, fun p hp => ?_⟩
      refine k p _ ?_ (same_upd hp)
      rw [e]
      exact upd_same
    · subst hf
      obtain ⟨p, rfl, hp⟩ := na.q
      walk_at "rd"
      exact k p H hp (Same.refl _)
def sp_check_integer_in : Sp := fun vs H Q _ => ∃ i lo hi : Int, vs = [.int i, .int lo, .int hi] ∧ lo ≤ i ∧ i ≤ hi ∧ Q .non H
theorem ok_check_integer_in (T : Txt K mg) : FnOk P w K mg base CX0 3 T.check_integer_in.f T.check_integer_in.fd P_check_integer_in sp_check_integer_in := by
  refine T.check_integer_in.F.ok sc_check_integer_in (fun vs H Q E h => ?_) (fun cdv A outer s H vs Q E hr h => ?_)
  · obtain ⟨i, lo, hi, rfl, _⟩ := h; rfl
  · obtain ⟨i, lo, hi, rfl, h1, h2, k⟩ := h
    refine ⟨_, (pss_one (ps_if (pt_not (pt_val (pe_call (ok_is_integer_in T) (hr.mono (by decide)) rfl T.is_integer_in.g T.is_integer_in.F.kp (b_is_integer_in T) .nil pass0 (pa_cons (pv 0) (pa_cons (pv 1) (pa_cons (pv 2) pa_nil)))))) (pss_one ps_never) pss_nil)), ?_⟩
    walk_at "rd"
    refine ⟨i, lo, hi, rfl, ?_⟩
    rw [decide_eq_true h1, decide_eq_true h2]
    walk_at "rd"
    exact k
def sp_check_variable (C : Addr) (K : PySem.W.Frag) : Sp := fun vs H Q _ => ∃ (a : Addr) (n : Nat) (rs : List (List Int)) (i : Nat), vs = [.ref a, .int i] ∧ CodO C K H a n rs ∧ i < n ∧ Q .non H
theorem ok_check_variable (T : Txt K mg) : FnOk P w K mg base CX0 3 T.check_variable.f T.check_variable.fd P_check_variable (sp_check_variable T.Coding.C K) := by
  refine T.check_variable.F.ok sc_check_variable (fun vs H Q E h => ?_) (fun cdv A outer s H vs Q E hr h => ?_)
  · obtain ⟨a, n, rs, i, rfl, _⟩ := h; rfl
  · obtain ⟨a, n, rs, i, rfl, hc, hi, k⟩ := h
    obtain ⟨dx, L, fs, rv, c1, c2, _⟩ := id hc
    refine ⟨_, (pss_one (ps_if (pt_not (pt_val (pe_call (ok_is_integer_in T) (hr.mono (by decide)) rfl T.is_integer_in.g T.is_integer_in.F.kp (b_is_integer_in T) .nil pass0 (pa_cons (pv 1) (pa_cons pe_int (pa_cons (pe_op op_sub (pe_fld (pv 0) rfl) pe_int) pa_nil)))))) (pss_one ps_never) pss_nil)), ?_⟩
    walk_at "rd"
    refine ⟨_, _, _, _, _, rfl, c1, T.Coding.cls, T.Coding.n_many, c2, ?_⟩
    walk_at "rd"
    refine ⟨i, 0, n - 1, rfl, ?_⟩
    rw [decide_eq_true (show (0 : Int) ≤ i by omega), decide_eq_true (show (i : Int) ≤ n - 1 by omega)]
    walk_at "rd"
    exact k
def sp_check_two_polynomials (C : Addr) (t : TabsAt) (K : PySem.W.Frag) : Sp := fun vs H Q _ => ∃ (f : Int) (n : Nat) (o : Ord) (v pw qw : V) (ps qs : List Tm), vs = [v, pw, qw] ∧ RgV K H v f n o ∧ PolyV K H f pw ps ∧ PolyV K H f qw qs ∧ PolyOk f n (rowsL n o) ps ∧ PolyOk f n (rowsL n o) qs ∧ TS t H ∧
  ∀ a H', Ex t H H' → CodO C K H' a n (rowsL n o) → CodF C H' a f → Q (.ref a) H'
theorem ok_check_two_polynomials (T : Txt K mg) {t : TabsAt} (B : TBs T base t) : FnOk P w K mg base CX0 20 T.check_two_polynomials.f T.check_two_polynomials.fd P_check_two_polynomials (sp_check_two_polynomials T.Coding.C t K) := by
  refine T.check_two_polynomials.F.ok sc_check_two_polynomials (fun vs H Q E h => ?_) (fun cdv A outer s H vs Q E hr h => ?_)
  · obtain ⟨f, n, o, v, pw, qw, ps, qs, rfl, _⟩ := h; rfl
  · obtain ⟨f, n, o, v, pw, qw, ps, qs, rfl, hv, hp, hq, op, oq, tsH, k⟩ := h
    have hrs := rows_ok hv.h1 hv.h4 hv.ho
    refine ⟨_, (pss_cons (ps_set (i := 3) sc_check_two_polynomials.nd rfl (Or.inl rfl) (pe_call (ok_check_ring T B) (hr.mono (by decide)) rfl T.check_ring.g T.check_ring.F.kp (b_check_ring T) .nil pass0 (pa_cons (pv 0) pa_nil)))
  (pss_cons (ps_expr (pe_call (ok_check_polynomial T B) (hr.mono (by decide)) rfl T.check_polynomial.g T.check_polynomial.F.kp (b_check_polynomial T) .nil pass0 (pa_cons (pv 3) (pa_cons (pv 1) pa_nil))))
  (pss_cons (ps_expr (pe_call (ok_check_polynomial T B) (hr.mono (by decide)) rfl T.check_polynomial.g T.check_polynomial.F.kp (b_check_polynomial T) .nil pass0 (pa_cons (pv 3) (pa_cons (pv 2) pa_nil))))
  (pss_one (ps_ret (pv 3)))))), ?_⟩
    walk_at "rd"
    refine ⟨f, n, o, v, rfl, hv.hf, hv.h1, hv.h4, hv.ho, hv.hd, tsH, fun a' H1 x1 c' => ?_⟩
    walk_at "rd"
    refine ⟨a', f, n, rowsL n o, pw, ps, rfl, hv.h4, hrs, c'.1, c'.2, hp.ex x1.keep, op, x1.ts, fun H2 x2 => ?_⟩
    walk_at "rd"
    have x12 := x1.trans x2
    refine ⟨a', f, n, rowsL n o, qw, qs, rfl, hv.h4, hrs, CodO.ex x2 c'.1, c'.2.ex x2.keep, hq.ex x12.keep, oq, x2.ts, fun H3 x3 => ?_⟩
    walk_at "rd"
    exact k a' H3 (x12.trans x3) (CodO.ex x3 (CodO.ex x2 c'.1)) ((c'.2.ex x2.keep).ex x3.keep)
end

/-! ### exponents out of a number -/
section
variable {P : Program} {w : World} {K : PySem.W.Frag} {mg : Str → Option Value} {base : Heap}
theorem set_cut : ∀ {ms : List Int} {i : Nat} (x : Int), i < ms.length → ms.take i ++ [x] ++ ms.drop (i + 1) = ms.set i x
  | [], _, _, h => by simp at h
  | m :: ms, 0, x, _ => by simp
  | m :: ms, i + 1, x, h => by
    have := set_cut (ms := ms) (i := i) x (by simpa using h)
    simp only [List.take_succ_cons, List.cons_append, List.drop_succ_cons, List.set_cons_succ, this]
def sp_shifted (K : PySem.W.Frag) : Sp := fun vs H Q _ => ∃ (M : Addr) (ms : List Int) (i : Nat) (x : Int), vs = [.ref M, .int i, .int x] ∧ SqT K H M (ms.map V.int) ∧ ms.length ≤ 4 ∧ i < ms.length ∧ ∀ p H', H' p = some (.tup ((movM ms i x).map V.int)) → Same H H' → Q (.ref p) H'
theorem ok_shifted (T : Txt K mg) : FnOk P w K mg base CX0 1 T.shifted.f T.shifted.fd P_shifted (sp_shifted K) := by
  refine T.shifted.F.ok sc_shifted (fun vs H Q E h => ?_) (fun cdv A outer s H vs Q E hr h => ?_)
  · obtain ⟨M, ms, i, x, rfl, _⟩ := h; rfl
  · obtain ⟨M, ms, i, x, rfl, hM, h4, hi, k⟩ := h
    refine ⟨_, (pss_one (ps_ret (pe_op (r := rCatA K) op_catA (pe_op (r := rCatA K) op_catA (pe_slice (r := rSlT K) sl_tup (pv 0) po_none (po_some (pv 1))) (pe_tup (pa_cons (pe_op op_add (pe_ix (r := rIxT K) ix_tup (pv 0) (pv 1) (fun _ _ => rfl)) (pv 2)) pa_nil))) (pe_slice (r := rSlT K) sl_tup (pv 0) (po_some (pe_op op_add (pv 1) pe_int)) po_none)))), ?_⟩
    walk_at "rd"
    have le : (ms.map V.int).length = ms.length := List.length_map ..
    refine ⟨M, ms.map V.int, rfl, hM, fun z => ?_, fun p hp => ?_⟩
    · have := z.2
      rw [HT.sIx_nat, le] at this
      omega
    rw [cut_to (ms.map V.int) i (by omega), ← List.map_take]
    have s1 := same_upd (o := .tup ((ms.take i).map V.int)) hp
    have M1 := Toy.Same.tup s1 hM
    walk_at "rd"
    have at1 : atI (ms.map V.int) (i : Int) = some (.int ms[i]) := atI_nat (by rw [List.getElem?_map, List.getElem?_eq_getElem hi]; rfl)
    refine ⟨M, ms.map V.int, i, .int ms[i], rfl, rfl, M1, at1, ?_⟩
    walk_at "rd"
    refine ⟨(show 1 ≤ sizeLine by decide), fun p2 hp2 => ?_⟩
    obtain ⟨G, eG⟩ : ∃ G, G = upd (upd H p (.tup ((ms.take i).map V.int))) p2 (.tup [.int (ms[i] + x)]) := ⟨_, rfl⟩
    have s2 : Same (upd H p (.tup ((ms.take i).map V.int))) G := by rw [eG]; exact same_upd hp2
    have G2 : G p2 = some (.tup ([ms[i] + x].map V.int)) := by rw [eG]; exact upd_same
    have G1 : G p = some (.tup ((ms.take i).map V.int)) := s2 _ _ upd_same
    have GM := Toy.Same.tup s2 M1
    have sG := Same.trans s1 s2
    rw [← (show G = _ from eG)]
    have l1 : (ms.take i).length = i := by rw [List.length_take]; omega
    have fin : ∀ r G', G' r = some (.tup ((ms.take i ++ [ms[i] + x]).map V.int)) → Same H G' →
        tSl (rSlT K) (tVar 0) (tPart (tOp (rI0 fun i j => V.int (i + j)) (tVar 1) (tC (V.int 1)))) tNoPart (L2.start N_shifted [V.ref M, V.int ↑i, V.int x]) G' fun y H2 => rCatA K (V.ref r) y H2 Q := fun r G' hr s' => by
      walk_at "rd"
      refine ⟨M, ms.map V.int, rfl, Toy.Same.tup s' hM, fun z => ?_, fun p3 hp3 => ?_⟩
      · have := z.1
        rw [show ((i : Int) + 1) = ((i + 1 : Nat) : Int) by omega, HT.sIx_nat, le] at this
        omega
      rw [show ((i : Int) + 1) = ((i + 1 : Nat) : Int) by omega, cut_from (ms.map V.int) (i + 1) (by omega), ← List.map_drop]
      have s3 := same_upd (o := .tup ((ms.drop (i + 1)).map V.int)) hp3
      have e : (ms.take i ++ [ms[i] + x]).map V.int ++ (ms.drop (i + 1)).map V.int = (movM ms i x).map V.int := by
        rw [← List.map_append, set_cut _ hi]
        unfold movM atM
        rw [List.getD_eq_getElem?_getD, List.getElem?_eq_getElem hi]
        rfl
      refine ⟨r, p3, _, _, rfl, rfl, .inl (.inl (s3 _ _ hr)), .inl (.inl upd_same), by rw [List.length_map, List.length_map, List.length_append, l1, List.length_drop]; show i + 1 + _ ≤ _; rw [sizeLine_eq]; omega, fun z => ?_, fun _ z => ?_, fun _ _ p4 hp4 => ?_⟩
      · simp at z
      · refine k r _ ?_ (Same.trans s' s3)
        rw [s3 _ _ hr, ← e, z, List.append_nil]
      · rw [e]
        exact k p4 _ upd_same (Same.trans s' (Same.trans s3 (same_upd hp4)))
    refine ⟨p, p2, _, _, rfl, rfl, .inl (.inl G1), .inl (.inl G2), by rw [List.length_map, List.length_map, l1]; show i + 1 ≤ _; rw [sizeLine_eq]; omega, fun z => ?_, fun _ z => ?_, fun _ _ p4 hp4 => ?_⟩
    · have z : ms.take i = [] := List.map_eq_nil_iff.mp z
      exact fin p2 G (by rw [G2, z]; rfl) sG
    · simp at z
    · exact fin p4 _ (by rw [upd_same, List.map_append]) (Same.trans sG (same_upd hp4))
end

/-! ### exponents out of a number -/
section
variable {P : Program} {w : World} {K : PySem.W.Frag} {mg : Str → Option Value} {base : Heap}
theorem b_Coding_exponents (T : Txt K mg) : Binds K T.fdx P_Coding_exponents [] := T.Fx.binds fun _ _ _ _ _ _ us hl => match us, hl with | [_, _], _ => rfl
theorem mki_eq : V.int MKi = V.int (2 ^ 48 - 1) := rfl
theorem code_digit {n i : Nat} {rs : List (List Int)} {ms : List Int} (h4 : n ≤ 4) (hm : Mon n ms) (hi : i < n) : codeR n rs ms / 2 ^ (48 * (n - 1 - i)) % 2 ^ 48 = ms.getD i 0 := by
  obtain ⟨⟨hl, hbd⟩, _⟩ := hm
  have e : n = 1 ∨ n = 2 ∨ n = 3 ∨ n = 4 := by omega
  unfold codeR unitsL
  rcases e with rfl | rfl | rfl | rfl
  · match ms, hl with
    | [a], _ =>
      have ha := hbd a (by simp)
      simp only [dotZ, unitN, List.range, List.range.loop, List.map, Nat.reduceSub, Nat.reduceMul, Nat.reduceAdd, Int.reducePow]
      generalize (List.foldl (fun t row => t * PLi + row.getD 0 0) 0 rs : Int) = X0
      have e : a * (X0 * 281474976710656 + 1) + 0 = (a * X0) * 281474976710656 + (a * 1) := by grind
      rw [e]
      generalize a * X0 = Y
      rcases (show i = 0 by omega) with rfl
      all_goals simp only [Nat.reduceSub, Nat.reduceMul, Int.reducePow, List.getD_cons_zero, List.getD_cons_succ]
      all_goals omega
  · match ms, hl with
    | [a, b], _ =>
      have ha := hbd a (by simp)
      have hb := hbd b (by simp)
      simp only [dotZ, unitN, List.range, List.range.loop, List.map, Nat.reduceSub, Nat.reduceMul, Nat.reduceAdd, Int.reducePow]
      generalize (List.foldl (fun t row => t * PLi + row.getD 0 0) 0 rs : Int) = X0
      generalize (List.foldl (fun t row => t * PLi + row.getD 1 0) 0 rs : Int) = X1
      have e : a * (X0 * 79228162514264337593543950336 + 281474976710656) + (b * (X1 * 79228162514264337593543950336 + 1) + 0) = (a * X0 + b * X1) * 79228162514264337593543950336 + (a * 281474976710656 + b * 1) := by grind
      rw [e]
      generalize a * X0 + b * X1 = Y
      rcases (show i = 0 ∨ i = 1 by omega) with rfl | rfl
      all_goals simp only [Nat.reduceSub, Nat.reduceMul, Int.reducePow, List.getD_cons_zero, List.getD_cons_succ]
      all_goals omega
  · match ms, hl with
    | [a, b, c], _ =>
      have ha := hbd a (by simp)
      have hb := hbd b (by simp)
      have hc := hbd c (by simp)
      simp only [dotZ, unitN, List.range, List.range.loop, List.map, Nat.reduceSub, Nat.reduceMul, Nat.reduceAdd, Int.reducePow]
      generalize (List.foldl (fun t row => t * PLi + row.getD 0 0) 0 rs : Int) = X0
      generalize (List.foldl (fun t row => t * PLi + row.getD 1 0) 0 rs : Int) = X1
      generalize (List.foldl (fun t row => t * PLi + row.getD 2 0) 0 rs : Int) = X2
      have e : a * (X0 * 22300745198530623141535718272648361505980416 + 79228162514264337593543950336) + (b * (X1 * 22300745198530623141535718272648361505980416 + 281474976710656) + (c * (X2 * 22300745198530623141535718272648361505980416 + 1) + 0)) = (a * X0 + b * X1 + c * X2) * 22300745198530623141535718272648361505980416 + (a * 79228162514264337593543950336 + b * 281474976710656 + c * 1) := by grind
      rw [e]
      generalize a * X0 + b * X1 + c * X2 = Y
      rcases (show i = 0 ∨ i = 1 ∨ i = 2 by omega) with rfl | rfl | rfl
      all_goals simp only [Nat.reduceSub, Nat.reduceMul, Int.reducePow, List.getD_cons_zero, List.getD_cons_succ]
      all_goals omega
  · match ms, hl with
    | [a, b, c, d], _ =>
      have ha := hbd a (by simp)
      have hb := hbd b (by simp)
      have hc := hbd c (by simp)
      have hd := hbd d (by simp)
      simp only [dotZ, unitN, List.range, List.range.loop, List.map, Nat.reduceSub, Nat.reduceMul, Nat.reduceAdd, Int.reducePow]
      generalize (List.foldl (fun t row => t * PLi + row.getD 0 0) 0 rs : Int) = X0
      generalize (List.foldl (fun t row => t * PLi + row.getD 1 0) 0 rs : Int) = X1
      generalize (List.foldl (fun t row => t * PLi + row.getD 2 0) 0 rs : Int) = X2
      generalize (List.foldl (fun t row => t * PLi + row.getD 3 0) 0 rs : Int) = X3
      have e : a * (X0 * 6277101735386680763835789423207666416102355444464034512896 + 22300745198530623141535718272648361505980416) + (b * (X1 * 6277101735386680763835789423207666416102355444464034512896 + 79228162514264337593543950336) + (c * (X2 * 6277101735386680763835789423207666416102355444464034512896 + 281474976710656) + (d * (X3 * 6277101735386680763835789423207666416102355444464034512896 + 1) + 0))) = (a * X0 + b * X1 + c * X2 + d * X3) * 6277101735386680763835789423207666416102355444464034512896 + (a * 22300745198530623141535718272648361505980416 + b * 79228162514264337593543950336 + c * 281474976710656 + d * 1) := by grind
      rw [e]
      generalize a * X0 + b * X1 + c * X2 + d * X3 = Y
      rcases (show i = 0 ∨ i = 1 ∨ i = 2 ∨ i = 3 by omega) with rfl | rfl | rfl | rfl
      all_goals simp only [Nat.reduceSub, Nat.reduceMul, Int.reducePow, List.getD_cons_zero, List.getD_cons_succ]
      all_goals omega
def sp_Coding_exponents (C : Addr) (K : PySem.W.Frag) : Sp := fun vs H Q _ => ∃ (a : Addr) (f : Int) (n : Nat) (rs : List (List Int)) (ms : List Int), vs = [.ref a, .int (codeR n rs ms)] ∧ n ≤ 4 ∧ RowsOk n rs ∧ Mon n ms ∧ CodO C K H a n rs ∧ CodF C H a f ∧ ∀ p H', H' p = some (.tup (ms.map V.int)) → Same H H' → Q (.ref p) H'
theorem ok_Coding_exponents (T : Txt K mg) : FnOk P w K mg base CX0 1 T.fx T.fdx P_Coding_exponents (sp_Coding_exponents T.Coding.C K) := by
  refine T.Fx.ok sc_Coding_exponents (fun vs H Q E h => ?_) (fun cdv A outer s H vs Q E hr h => ?_)
  · obtain ⟨a, f, n, rs, ms, rfl, _⟩ := h; rfl
  · obtain ⟨a, f, n, rs, ms, rfl, h4, hrs, hm, hc, hcf, k⟩ := h
    obtain ⟨dx, L, fs, rv, c1, c2, _⟩ := id hc
    obtain ⟨dx', fs', c1', _, S, n', d1, d2, d3, d4⟩ := id hcf
    obtain ⟨rfl, rfl⟩ : dx' = dx ∧ fs' = fs := by rw [c1] at c1'; cases c1'; exact ⟨rfl, rfl⟩
    obtain rfl : n = n' := by
      rw [c2] at d1
      have : (V.int (n : Int)) = V.int (n' : Int) := Option.some.inj d1
      injection this with this
      omega
    refine ⟨_, (pss_one (ps_ret (pe_callTy (r := rTupOf K) call_tuple_of rfl T.n_tuple bo_tuple (pa_cons (pe_lc (own := [("shift", 2)]) rfl sc_Coding_exponents.nd (pi_list (pe_fld (pv 0) rfl)) (blkOk_by (own := [("shift", 2)]) (N := N_Coding_exponents) (sc := defScope s_Coding_exponents) (by decide +kernel)) (fun _ _ _ _ _ => (pg_name (i := 2) sc_Coding_exponents.nd rfl (Or.inl rfl))) (fun _ _ _ _ _ => pts_nil) (fun _ _ _ _ _ => (pe_op op_andM (pe_op op_shrN (pv 1) (pv 2)) (pe_glob rfl T.g_MASK (v := .int MKi) ⟨_, rfl⟩)))) pa_nil)))), ?_⟩
    walk_at "rd"
    refine ⟨_, _, _, _, _, rfl, c1, T.Coding.cls, T.Coding.n_shifts, d2, ?_⟩
    refine ⟨S, rfl, ⟨_, .inl (.inl d3)⟩, fun D hD => ?_⟩
    refine lc_list (K := K) (a := S) (xs := (shiftsL n).map V.int) (MapAt H D fun k y _ => y = .int (ms.getD k 0)) (mapAt_0 hD) (fun i H7 _ q => .inl (.inl (by obtain ⟨_, q, _⟩ := q; exact q _ _ d3))) (fun i x H7 hx hQ => ?_) (fun H7 hQ => ?_)
    · have hi : i < n := by
        have := (List.getElem?_eq_some_iff.mp hx).1
        simpa [shiftsL] using this
      rw [List.getElem?_map, shiftsL, List.getElem?_map, List.getElem?_range hi] at hx
      obtain rfl := Option.some.inj hx
      walk_at "rd"
      refine mapAt_step hQ hD (by rw [sizeLine_eq]; omega) (Same.refl _) (fun _ _ _ _ h _ => h) ?_
      show V.int _ = V.int _
      rw [code_digit h4 hm hi]
    · obtain ⟨ys, s7, e7, n7, r7⟩ := hQ
      rw [List.length_map, shiftsL, List.length_map, List.length_range] at n7
      have ey : ys = ms.map V.int := by
        refine List.ext_getElem? fun i => ?_
        have hl := hm.1.1
        by_cases hi : i < ys.length
        · rw [List.getElem?_eq_getElem hi, r7 i ys[i] (List.getElem?_eq_getElem hi), List.getElem?_map, List.getElem?_eq_getElem (by omega), List.getD_eq_getElem?_getD, List.getElem?_eq_getElem (by omega)]
          rfl
        · rw [List.getElem?_eq_none (by omega), List.getElem?_eq_none (by rw [List.length_map]; omega)]
      subst ey
      refine ⟨D, _, rfl, .inl ⟨.inl (.inl e7), fun l hl => ?_⟩⟩
      exact k l _ upd_same (Same.trans s7 (same_upd hl))
end

/-! ### math.lcm -/
section
variable {X : Cx}
def rLcm : List V → Hp → VK → Prop := fun vs H Q => ∃ i j : Int, vs = [.int i, .int j] ∧ i.natAbs < 2 ^ 64 ∧ j.natAbs < 2 ^ 64 ∧ Q (.int ((Nat.lcm i.natAbs j.natAbs : Nat) : Int)) H
theorem lcm_size {i j : Nat} (hi : i < 2 ^ 64) (hj : j < 2 ^ 64) : ((Nat.lcm i j : Nat) : Int).natAbs.log2 < bitsLine := by
  rw [Int.natAbs_natCast]
  have h1 : Nat.lcm i j ≤ i * j := PySem.W.mc_lcm_le i j
  have h2 : i * j < 2 ^ 128 := by
    have : i * j ≤ (2 ^ 64 - 1) * (2 ^ 64 - 1) := Nat.mul_le_mul (by omega) (by omega)
    omega
  have h3 : (Nat.lcm i j).log2 ≤ 128 := by
    by_cases z : Nat.lcm i j = 0
    · rw [z]; decide
    · have := (Nat.log2_lt z).2 (show Nat.lcm i j < 2 ^ 128 by omega)
      omega
  have : 128 < bitsLine := by decide
  omega
theorem cr_lcm : CallR X (.builtin "math.lcm") rLcm := by
  intro pins s σ H vs us Q I r h
  obtain ⟨a, b, rfl, h1, h2, q⟩ := h
  obtain ⟨t, u, rfl⟩ := Vals.int2 r
  exact PySem.W.mg_lcm_v (c := ((Nat.lcm a.natAbs b.natAbs : Nat) : Int)) h1 h2 (by rw [PySem.W.mc_lcm_one]) (lcm_size h1 h2) ⟨.int _, H, I.tok _, ⟨_, rfl⟩, q⟩
end

/-! ### zip of a list and a tuple, walked by a loop -/
section
open PyProof.Rows
abbrev zlH1 (h : Heap) (l1 : Addr) : Heap := h.push { cls := .type "list_iterator", data := .fields #[.ref l1, .int 0 0] }
abbrev zlH2 (h : Heap) (l1 l2 : Addr) : Heap := (zlH1 h l1).push { cls := .type "tuple_iterator", data := .fields #[.ref l2, .int 0 0] }
abbrev zlH3 (h : Heap) (l1 l2 : Addr) : Heap := (zlH2 h l1 l2).push { cls := .type "tuple", data := .seq #[.ref h.objs.size, .ref (zlH1 h l1).objs.size] }
abbrev zlH4 (h : Heap) (l1 l2 : Addr) : Heap := (zlH3 h l1 l2).push { cls := .type "tuple", data := .seq #[.none, .none] }
abbrev zlH5 (h : Heap) (l1 l2 : Addr) : Heap := (zlH4 h l1 l2).push { cls := .type "zip", data := .fields #[.none, .bool false, .bool false, .ref (zlH2 h l1 l2).objs.size, .ref (zlH3 h l1 l2).objs.size] }
theorem meets_zipLT (l1 l2 : Addr) (xs ys : Array Value) :
    Meets (Builtin.«zip.__new__» ⟨[.type "zip", .ref l1, .ref l2], []⟩) (fun _ R s => s.heap.IsList l1 xs ∧ s.heap.IsTuple l2 ys ∧ R (.ok (.ret (.ref (zlH4 s.heap l1 l2).objs.size))) { s with heap := zlH5 s.heap l1 l2 }) :=
  .of_wp fun prog w A R s h => by
    obtain ⟨hp, g, d, tk, os⟩ := s
    obtain ⟨q1, q2, h⟩ := h
    have f0 := sub_zip
    have a1 : Heap.IsList (Shared.heap ⟨hp, g, d, tk, os⟩) l1 xs := q1
    have a2 : Heap.IsTuple (Shared.heap ⟨hp.push { cls := .type "list_iterator", data := .fields #[.ref l1, .int 0 0] }, g, d, tk, os⟩) l2 ys := Heap.IsTuple.push q2 _
    wp_walk using wpAny_pyIter_list a1, wpAny_pyIter_tuple a2
    exact ⟨_, rfl, h⟩
variable {prog : Program} {w : World} {A : Around} {E : Value → Shared → Prop} {s : Shared}
theorem call_zipLT {l1 l2 : Addr} {xs ys : Array Value} {Q : Value → Shared → Prop} (q1 : s.heap.IsList l1 xs) (q2 : s.heap.IsTuple l2 ys)
    (h : ∀ h', IsZip h' (s.heap.objs.size + 4) (s.heap.objs.size + 2) (s.heap.objs.size + 3) .none → IsTupOf2 h' (s.heap.objs.size + 2) (.ref s.heap.objs.size) (.ref (s.heap.objs.size + 1)) → IsTupOf2 h' (s.heap.objs.size + 3) .none .none →
      h'.IsListIter s.heap.objs.size l1 0 → h'.IsTupleIter (s.heap.objs.size + 1) l2 0 → h'.objs.size = s.heap.objs.size + 5 → Kp s.heap h' → Q (.ref (s.heap.objs.size + 4)) { s with heap := h' }) :
    wpAny (model prog w) A (call (.type "zip") [.ref l1, .ref l2]) Q E s := by
  refine callType_new F.called_zip (by decide) (F.typeCall_zip_2 _ _) (F.newCall_zip_2 _ _) (fun obj => F.args_object_init_3 obj _ _) F.entry_zip_new (meets_zipLT l1 l2 xs ys) ⟨q1, q2, ?_⟩
  have z1 : (zlH1 s.heap l1).objs.size = s.heap.objs.size + 1 := Heap.size_push ..
  have z2 : (zlH2 s.heap l1 l2).objs.size = s.heap.objs.size + 2 := by rw [Heap.size_push, z1]
  have z3 : (zlH3 s.heap l1 l2).objs.size = s.heap.objs.size + 3 := by rw [Heap.size_push, z2]
  have z4 : (zlH4 s.heap l1 l2).objs.size = s.heap.objs.size + 4 := by rw [Heap.size_push, z3]
  have z5 : (zlH5 s.heap l1 l2).objs.size = s.heap.objs.size + 5 := by rw [Heap.size_push, z4]
  have g5 : (zlH5 s.heap l1 l2).get? (zlH4 s.heap l1 l2).objs.size = some _ := Heap.get?_push_size _ rfl
  have g4 : (zlH5 s.heap l1 l2).get? (zlH3 s.heap l1 l2).objs.size = some _ := Heap.get?_push_of_some _ (Heap.get?_push_size _ rfl)
  have g3 : (zlH5 s.heap l1 l2).get? (zlH2 s.heap l1 l2).objs.size = some _ := Heap.get?_push_of_some _ (Heap.get?_push_of_some _ (Heap.get?_push_size _ rfl))
  have g2 : (zlH5 s.heap l1 l2).get? (zlH1 s.heap l1).objs.size = some _ := Heap.get?_push_of_some _ (Heap.get?_push_of_some _ (Heap.get?_push_of_some _ (Heap.get?_push_size _ rfl)))
  have g1 : (zlH5 s.heap l1 l2).get? s.heap.objs.size = some _ := Heap.get?_push_of_some _ (Heap.get?_push_of_some _ (Heap.get?_push_of_some _ (Heap.get?_push_of_some _ (Heap.get?_push_size _ rfl))))
  show _ ∧ _
  rw [z2, z3, z4] at g5
  rw [z3] at g4
  rw [z1, z2] at g3
  rw [z1] at g2
  have hQ := h (zlH5 s.heap l1 l2) g5 g3 g4 ⟨_, g1, rfl, rfl⟩ ⟨_, g2, rfl, rfl⟩ z5 fun c o e => Heap.get?_push_of_some _ (Heap.get?_push_of_some _ (Heap.get?_push_of_some _ (Heap.get?_push_of_some _ (Heap.get?_push_of_some _ e))))
  rw [← z4] at hQ
  exact ⟨⟨_, Heap.get?_push_size _ rfl, rfl⟩, hQ⟩
end
section
open PyProof.Rows
/-- the list at a and the tuple at b as they stand at each turn, the items in new pairs -/
def ItzLT (K : PySem.W.Frag) (a b : Addr) : It :=
  ⟨fun i H => ∃ (xs ys : List V) (x y : V), SqL K H a xs ∧ SqT K H b ys ∧ xs[i]? = some x ∧ ys[i]? = some y,
    fun i H v H' => ∃ T x y, v = .ref T ∧ H T = none ∧ H' = upd H T (.tup [x, y]) ∧ (∀ xs, SqL K H a xs → xs[i]? = some x) ∧ ∀ ys, SqT K H b ys → ys[i]? = some y,
    fun i H => ∃ xs ys : List V, SqL K H a xs ∧ SqT K H b ys ∧ i ≤ xs.length ∧ i ≤ ys.length ∧ (i = xs.length ∨ i = ys.length)⟩
theorem turn_zipLT {P : Program} {w : World} {K : PySem.W.Frag} {elts : List Expr} {kk : Nat} {tpos : Pos} {a b z TI TO i1 i2 : Addr} (D : ZipSep2 z TI TO i1 i2 [i1, a] [i2, b]) (n1 : a ≠ i1) (n2 : b ≠ i2) :
    Turn P w K (.Tuple elts kk tpos) (ItzLT K a b) [z, TI, TO, i1, i2] z (fun i h => IsZip h z TI TO .none ∧ IsPair h TI (.ref i1) (.ref i2) ∧ (∃ x y, IsPair h TO x y) ∧ h.IsListIter i1 a i ∧ h.IsTupleIter i2 b i) where
  mem := by simp
  obj := fun i h st c hc => by
    obtain ⟨hz, hTI, ⟨x, y, hTO⟩, ⟨o1, e1, _, d1⟩, ⟨o2, e2, _, d2⟩⟩ := st
    have e' : c = z ∨ c = TI ∨ c = TO ∨ c = i1 ∨ c = i2 := by simpa using hc
    rcases e' with q | q | q | q | q
    · rw [q]; exact ⟨_, hz, fun v q => nomatch q⟩
    · rw [q]; exact ⟨_, hTI, fun v q => nomatch q⟩
    · rw [q]; exact ⟨_, hTO, fun v q => nomatch q⟩
    · rw [q]; exact ⟨o1, e1, fun v q => by rw [d1] at q; cases q⟩
    · rw [q]; exact ⟨o2, e2, fun v q => by rw [d2] at q; cases q⟩
  keep := fun i h h' st k => by
    obtain ⟨hz, hTI, ⟨x, y, hTO⟩, h1, h2⟩ := st
    exact ⟨k z (by simp) _ hz, k TI (by simp) _ hTI, ⟨x, y, k TO (by simp) _ hTO⟩, h1.at fun o q => k i1 (by simp) o q, h2.at fun o q => k i2 (by simp) o q⟩
  item := by
    intro X hP hw hK hc i pins s σ H E I hf st hg
    subst hP hw hK
    obtain ⟨hz, hTI, ⟨x0, y0, hTO⟩, h1, h2⟩ := st
    obtain ⟨xs, ys, x, y, hqx, hqy, hx, hy⟩ := hg
    obtain ⟨its, rv, p, _⟩ := I.list hqx
    obtain ⟨its2, rv2, p2, _⟩ := I.tuple hqy
    have hlx : i < its.toArray.size := by
      rw [List.size_toArray, ← rv.length]; exact (List.getElem?_eq_some_iff.mp hx).1
    have hly : i < its2.toArray.size := by
      rw [List.size_toArray, ← rv2.length]; exact (List.getElem?_eq_some_iff.mp hy).1
    have hzl : z < s.heap.objs.size := Heap.lt_size hz
    refine wpAny_pyNext_zipD2_item D (Draws.list (A := X.A.in1) (I.ok.hd hc) i1 a n1 its.toArray) (Draws.tuple (A := X.A.in1) (I.ok.hd hc) i2 b n2 its2.toArray) hz hTI hTO ⟨h1, p.isList⟩ ⟨h2, p2⟩ hlx hly fun u u2 h' tk hu hu2 z' TO' st1' st2' hT hsz hk => ?_
    obtain ⟨v1, hv1, ru⟩ := rv.get hx
    obtain ⟨v2, hv2, ru2⟩ := rv2.get hy
    have e1 : v1 = u := by
      have hu : its.toArray[i]? = some u := hu
      rw [List.getElem?_toArray, hv1] at hu
      exact Option.some.inj hu
    have e2 : v2 = u2 := by
      have hu2 : its2.toArray[i]? = some u2 := hu2
      rw [List.getElem?_toArray, hv2] at hu2
      exact Option.some.inj hu2
    subst e1 e2
    refine ⟨_, rfl, wpAny_letOwnedTupleGo_zip (s := { s with heap := h', toks := tk }) z' fun h'' z'' sb => ?_⟩
    have hT2 : h''.get? s.heap.objs.size = some { cls := .type "tuple", data := .seq #[v1, v2] } := (sb.2 _ (Nat.ne_of_gt hzl)).trans hT
    have new : ObjOk X.prog X.w (upd H s.heap.objs.size (.tup [x, y])) h'' s.heap.objs.size (.tup [x, y]) :=
      ⟨by show 2 ≤ sizeLine; decide, [v1, v2], .cons ru (.cons ru2 .nil), ⟨_, hT2, rfl, _, rfl⟩⟩
    have I1 : Inv X pins σ (upd H s.heap.objs.size (.tup [x, y])) { s with heap := h'', toks := tk } :=
      I.turnedNew (t' := tk) (ch := [z, TI, TO, i1, i2]) (fun c o hb q => (sb.2 c (fun q' => hb (by simp [q']))).trans (hk c o (fun q' => hb (by simp [q'])) (fun q' => hb (by simp [q'])) (fun q' => hb (by simp [q'])) (fun q' => hb (by simp [q'])) q)) hf (Nat.le_refl _) new
    have zi1 : i1 ≠ z := fun e => D.zf1 (by rw [← e]; exact List.mem_cons_self)
    have zi2 : i2 ≠ z := fun e => D.zf2 (by rw [← e]; exact List.mem_cons_self)
    refine ⟨.ref s.heap.objs.size, _, I1, rfl, ⟨_, x, y, rfl, I.hok.fresh (Nat.le_refl _), rfl, fun l hl => by rw [I.list_inj hl hqx]; exact hx, fun l hl => by rw [I.tuple_inj hl hqy]; exact hy⟩, ⟨z'', ?_, ⟨v1, v2, ?_⟩, ?_, ?_⟩, fun c hcm => ?_⟩
    · exact (sb.2 _ D.TIz).trans (hk _ _ D.TIz D.TITO D.TIi1 D.TIi2 hTI)
    · exact (sb.2 _ D.TOz).trans TO'
    · exact st1'.1.at fun o q => (sb.2 _ zi1).trans q
    · exact st2'.1.at fun o q => (sb.2 _ zi2).trans q
    · have hlt : c < s.heap.objs.size := by
        have e' : c = z ∨ c = TI ∨ c = TO ∨ c = i1 ∨ c = i2 := by simpa using hcm
        rcases e' with q | q | q | q | q
        · rw [q]; exact hzl
        · rw [q]; exact Heap.lt_size hTI
        · rw [q]; exact Heap.lt_size hTO
        · rw [q]; obtain ⟨_, e1, _⟩ := h1; exact Heap.lt_size e1
        · rw [q]; obtain ⟨_, e2, _⟩ := h2; exact Heap.lt_size e2
      rw [upd_ne (Nat.ne_of_lt hlt)]
      exact (hf c hcm).1
  done := by
    intro X hP hw hK hc i pins s σ H E I hf st hg
    subst hP hw hK
    obtain ⟨hz, hTI, ⟨x0, y0, hTO⟩, h1, h2⟩ := st
    obtain ⟨xs, ys, hqx, hqy, g1, g2, hend⟩ := hg
    obtain ⟨its, rv, p, _⟩ := I.list hqx
    obtain ⟨its2, rv2, p2, _⟩ := I.tuple hqy
    have l1 := rv.length
    have l2 := rv2.length
    refine wpAny_pyNext_zipD2_end D (Draws.list (A := X.A.in1) (I.ok.hd hc) i1 a n1 its.toArray) (Draws.tuple (A := X.A.in1) (I.ok.hd hc) i2 b n2 its2.toArray) hz hTI hTO ⟨h1, p.isList⟩ ⟨h2, p2⟩ (by simp; omega) (by simp; omega) (by simp; omega) fun h' tk hk => ⟨rfl, I.turnedL (t' := tk) (ch := [z, TI, TO, i1, i2]) (fun c o hb q =>
      hk c o (fun q' => hb (by simp [q'])) (fun q' => hb (by simp [q'])) (fun q' => hb (by simp [q'])) (fun q' => hb (by simp [q'])) q) hf⟩
  self := fun A i s Q E st h => wpAny_pyIter_zip st.1 h
def iZipLT (K : PySem.W.Frag) (ta : TA) : TI := fun σ H R => ta σ H fun vs H1 => ∃ a b xs ys, vs = [.ref a, .ref b] ∧ SqL K H1 a xs ∧ SqT K H1 b ys ∧ R (ItzLT K a b) H1
theorem pi_zipLT {X : Cx} {e e2 : Expr} {ta : TA} {p pos tpos : Pos} {elts : List Expr} {kk : Nat} (hg : Gl X "zip") (hm : X.mg "zip" = none) (ha : PA X [e, e2] ta)
    (hs : starEach [e, e2] X.env = (false, eval e X.env) :: starEach [e2] X.env := by rfl) (hpl : (backTo pos (starEach [e2] X.env)).any (·.1) = false := by rfl) :
    PI X (.Tuple elts kk tpos) (.Call (.Name "zip" p) [e, e2] [] pos) (iZipLT X.K ta) := by
  refine ⟨fun pins s σ H R I h => ?_⟩
  refine Call_ (ld_blt I hg hm PyProof.Rows.boot_zip (PyProof.Rows.callWith_type1 (thn (ha.run pos pins s σ H _ I h) fun us s1 ⟨vs, H1, I1, r1, q1⟩ => ?_) hs hpl))
  obtain ⟨a, b, xs, ys, ex, hqx, hqy, q⟩ := q1
  subst ex
  cases r1 with
  | cons r rr =>
    cases rr with
    | cons r' rr =>
      cases rr
      cases r
      cases r'
      have fresh5 : ∀ c, c ∈ [s1.heap.objs.size + 4, s1.heap.objs.size + 2, s1.heap.objs.size + 3, s1.heap.objs.size, s1.heap.objs.size + 1] → FpOk X pins H1 c := fun c hcm => by
        have e' : c = s1.heap.objs.size + 4 ∨ c = s1.heap.objs.size + 2 ∨ c = s1.heap.objs.size + 3 ∨ c = s1.heap.objs.size ∨ c = s1.heap.objs.size + 1 := by simpa using hcm
        have hle : s1.heap.objs.size ≤ c := by
          rcases e' with z | z | z | z | z
          · rw [z]; exact Nat.le_add_right _ _
          · rw [z]; exact Nat.le_add_right _ _
          · rw [z]; exact Nat.le_add_right _ _
          · rw [z]; exact Nat.le_refl _
          · rw [z]; exact Nat.le_add_right _ _
        exact I1.fpOk hle (I1.hok.fresh hle)
      obtain ⟨its, rv, p1, _⟩ := I1.list hqx
      obtain ⟨its2, rv2, p2, _⟩ := I1.tuple hqy
      obtain ⟨o2, ho2, _⟩ := id p2
      have la := p1.lt
      have lb := Heap.lt_size ho2
      refine call_zipLT p1.isList (show s1.heap.IsTuple b its2.toArray from p2) fun h' hz hTI hTO h1 h2 hsz hk => wpAny_pyIter_zip hz ?_
      have I2 : Inv X pins σ H1 { s1 with heap := h' } := I1.kept (t' := s1.toks) hk
      exact ⟨s1.heap.objs.size + 4, [s1.heap.objs.size + 4, s1.heap.objs.size + 2, s1.heap.objs.size + 3, s1.heap.objs.size, s1.heap.objs.size + 1], _, _, H1, rfl, I2, turn_zipLT (zip_sep la lb) (Nat.ne_of_lt la) (Nat.ne_of_lt (Nat.lt_succ_of_lt lb)), ⟨hz, hTI, ⟨_, _, hTO⟩, h1, h2⟩, fresh5, q⟩
/-- a loop over zip of a list and a tuple of one length -/
theorem for_zipLT {K : PySem.W.Frag} {a b : Addr} {xs ys : List V} {g : TG} {tb : L2.TS} {D : Ends} {σ : L2.St} {H : Hp} (hl : xs.length = ys.length) (Pv : Nat → L2.St → Hp → Prop) (h0 : Pv 0 σ H) (hq : ∀ i σ H, Pv i σ H → SqL K H a xs ∧ SqT K H b ys)
    (hs : ∀ (i : Nat) (x y : V) (T : Addr) (σ : L2.St) (H : Hp), xs[i]? = some x → ys[i]? = some y → Pv i σ H → H T = none → g (.ref T) σ (upd H T (.tup [x, y])) fun σ2 H2 => tb { D with nx := Pv (i + 1), ct := Pv (i + 1), bk := D.nx } σ2 H2) (hd : ∀ σ H, Pv xs.length σ H → D.nx σ H) :
    ∃ W : Nat → Nat → L2.St → Hp → Prop, (∃ m, W 0 m σ H) ∧ ∀ i m σ H, W i m σ H →
      ((ItzLT K a b).stop i H ∧ D.nx σ H) ∨ ((ItzLT K a b).go i H ∧ ∃ N : L2.St → Hp → Prop, (∀ σ' H', N σ' H' → ∃ m', m' < m ∧ W (i + 1) m' σ' H') ∧ ∀ v H', (ItzLT K a b).yld i H v H' → g v σ H' fun σ2 H2 => tb { D with nx := N, ct := N, bk := D.nx } σ2 H2) := by
  refine ⟨fun i m σ H => m = xs.length - i ∧ i ≤ xs.length ∧ Pv i σ H, ⟨xs.length, rfl, Nat.zero_le _, h0⟩, ?_⟩
  rintro i m σ H ⟨rfl, hi, p⟩
  obtain ⟨qx, qy⟩ := hq i σ H p
  by_cases hlt : i < xs.length
  · have hx : xs[i]? = some xs[i] := List.getElem?_eq_getElem hlt
    have hlt2 : i < ys.length := by omega
    have hy : ys[i]? = some ys[i] := List.getElem?_eq_getElem hlt2
    refine .inr ⟨⟨xs, ys, _, _, qx, qy, hx, hy⟩, Pv (i + 1), fun σ' H' p' => ⟨xs.length - (i + 1), by omega, rfl, hlt, p'⟩, fun v H' y => ?_⟩
    obtain ⟨T, x', y', rfl, hT, rfl, f1, f2⟩ := y
    exact hs i x' y' T σ H (f1 xs qx) (f2 ys qy) p hT
  · have e : i = xs.length := by omega
    subst e
    exact .inl ⟨⟨xs, ys, qx, qy, Nat.le_refl _, by omega, .inl rfl⟩, hd σ H p⟩
end

/-! ### packed polynomials -/
def kvT (n : Nat) (rs : List (List Int)) (T : IT) : List (L2.Key × V) := T.map fun t => (Sum.inl (codeR n rs t.2), V.int t.1)
def CInj (n : Nat) (rs : List (List Int)) : Prop := ∀ a b, Mon n a → Mon n b → codeR n rs a = codeR n rs b → a = b
theorem kvT_put {n : Nat} {rs : List (List Int)} {m : List Int} {x : Int} (hj : CInj n rs) (hm : Mon n m) {T : IT} (hT : ∀ t ∈ T, Mon n t.2) : putK (kvT n rs T) (Sum.inl (codeR n rs m)) (V.int x) = kvT n rs (putI T m x) := by
  have one : ∀ t ∈ T, ((Sum.inl (codeR n rs t.2) : L2.Key) = Sum.inl (codeR n rs m)) ↔ t.2 = m := fun t ht => by
    constructor
    · intro h
      exact hj _ _ (hT t ht) hm (Sum.inl.inj h)
    · intro h; rw [h]
  have e : ((kvT n rs T).any fun kv => decide (kv.1 = Sum.inl (codeR n rs m))) = (T.any fun t => decide (t.2 = m)) := by
    unfold kvT
    rw [List.any_map]
    have : ∀ (S : IT), (∀ t ∈ S, t ∈ T) → (S.any ((fun kv : L2.Key × V => decide (kv.1 = Sum.inl (codeR n rs m))) ∘ fun t => (Sum.inl (codeR n rs t.2), V.int t.1))) = (S.any fun t => decide (t.2 = m)) := fun S => by
      induction S with
      | nil => intro _; rfl
      | cons t S ih =>
        intro h
        rw [List.any_cons, List.any_cons, ih fun u hu => h u (List.mem_cons_of_mem _ hu)]
        congr 1
        exact decide_eq_decide.mpr (one t (h t List.mem_cons_self))
    exact this T fun _ h => h
  unfold putK putI
  rw [e]
  split
  · unfold kvT
    rw [List.map_map, List.map_map]
    refine List.map_congr_left fun t ht => ?_
    show (if (Sum.inl (codeR n rs t.2) : L2.Key) = Sum.inl (codeR n rs m) then _ else _) = _
    by_cases c : t.2 = m
    · rw [if_pos ((one t ht).2 c)]
      show _ = (Sum.inl (codeR n rs (if t.2 = m then (x, t.2) else t).2), V.int (if t.2 = m then (x, t.2) else t).1)
      rw [if_pos c]
    · rw [if_neg fun z => c ((one t ht).1 z)]
      show _ = (Sum.inl (codeR n rs (if t.2 = m then (x, t.2) else t).2), V.int (if t.2 = m then (x, t.2) else t).1)
      rw [if_neg c]
  · unfold kvT
    rw [List.map_append]
    rfl
theorem kvT_val {n : Nat} {rs : List (List Int)} {m : List Int} (hj : CInj n rs) (hm : Mon n m) : ∀ {T : IT}, (∀ t ∈ T, Mon n t.2) → valV (kvT n rs T) (Sum.inl (codeR n rs m)) = (getI T m).map V.int
  | [], _ => rfl
  | t :: T, hT => by
    have ih := kvT_val hj hm (T := T) fun u hu => hT u (List.mem_cons_of_mem _ hu)
    unfold getI at ih ⊢
    rw [List.find?_cons]
    by_cases c : t.2 = m
    · simp only [c, decide_true]
      refine (valV_pos (p := (Sum.inl (codeR n rs t.2), V.int t.1)) ?_)
      show (Sum.inl (codeR n rs t.2) : L2.Key) = _
      rw [c]
    · simp only [c, decide_false]
      rw [← ih]
      exact valV_neg (p := (Sum.inl (codeR n rs t.2), V.int t.1)) fun z => c (hj _ _ (hT t List.mem_cons_self) hm (Sum.inl.inj z))
theorem kvT_len (n : Nat) (rs : List (List Int)) (T : IT) : (kvT n rs T).length = T.length := List.length_map ..
/-- v is the table T over B -/
def PkV (H : Hp) (n : Nat) (rs : List (List Int)) (v : V) (d : Addr) (T : IT) (B : Int) : Prop := ∃ p, v = .ref p ∧ H p = some (.tup [.ref d, .int B]) ∧ H d = some (.dK (kvT n rs T))
theorem PkV.same {H H' : Hp} {n : Nat} {rs : List (List Int)} {v : V} {d : Addr} {T : IT} {B : Int} (h : PkV H n rs v d T B) (s : Same H H') : PkV H' n rs v d T B := by
  obtain ⟨p, e, h1, h2⟩ := h
  exact ⟨p, e, s _ _ h1, s _ _ h2⟩
theorem put_new {T : IT} {m : List Int} {x : Int} (h : ∀ t ∈ T, t.2 ≠ m) : putI T m x = T ++ [(x, m)] := by
  unfold putI
  rw [if_neg]
  intro z
  obtain ⟨t, ht, e⟩ := List.any_eq_true.mp z
  exact h t ht (of_decide_eq_true e)
theorem none_back {H H' : Hp} {d : Addr} (s : Same H H') (h : H' d = none) : H d = none := by
  cases e : H d with
  | none => rfl
  | some o => rw [s _ _ e] at h; cases h
theorem same_put {H H' : Hp} {d : Addr} {o : HO} (h : H d = none) (s : Same H H') : Same H (upd H' d o) := fun b o' e => by
  have nb : b ≠ d := fun z => by
    subst z
    rw [h] at e; cases e
  exact (upd_ne nb).trans (s _ _ e)
theorem CodO.sm {C : Addr} {K : PySem.W.Frag} {H H' : Hp} {a : Addr} {n : Nat} {rs : List (List Int)} (h : CodO C K H a n rs) (s : Same H H') : CodO C K H' a n rs := by
  obtain ⟨dx, L, fs, rv, w1, w2, w3, w4, w5, w6, w7⟩ := h
  exact ⟨dx, L, fs, rv, s _ _ w1, w2, w3, Dp.same s _ _ w4, w5, s _ _ w6, w7⟩
section
variable {P : Program} {w : World} {K : PySem.W.Frag} {mg : Str → Option Value} {base : Heap}
/-- the numbers' denominators divide a small number -/
def DenOk (P : List Tm) : Prop := ∃ D : Nat, 0 < D ∧ D < 2 ^ 64 ∧ ∀ u ∈ P, u.1.2.natAbs ∣ D
def sp_packed (C : Addr) (K : PySem.W.Frag) : Sp := fun vs H Q _ => ∃ (a : Addr) (f : Int) (n : Nat) (rs : List (List Int)) (pw : V) (ps : List Tm), vs = [.ref a, pw] ∧ n ≤ 4 ∧ RowsOk n rs ∧ CInj n rs ∧ IsF f ∧ CodO C K H a n rs ∧ CodF C H a f ∧ PolyV K H f pw ps ∧ ps.length ≤ 500 ∧ (∀ u ∈ ps, TermOk f n u) ∧ (ps.map (·.2)).Nodup ∧ DenOk ps ∧
  ∀ v d H', PkV H' n rs v d (ownI (belowZ ps) ps) (belowZ ps) → H d = none → Same H H' → Q v H'
theorem ok_packed (T : Txt K mg) : FnOk P w K mg base CX0 9 T.packed.f T.packed.fd P_packed (sp_packed T.Coding.C K) := by
  refine T.packed.F.ok sc_packed (fun vs H Q E h => ?_) (fun cdv A outer s H vs Q E hr h => ?_)
  · obtain ⟨a, f, n, rs, pw, ps, rfl, _⟩ := h; rfl
  · obtain ⟨a, f, n, rs, pw, ps, rfl, h4, hrs, hj, hF, hc, hcf, hp, hlen, hok, hnd, ⟨D0, hD0, hD1, hD2⟩, k⟩ := h
    obtain ⟨pa, xs, rfl, hP, hvl, hT⟩ := id hp
    obtain ⟨dx, fs, c1, cf, _⟩ := id hcf
    refine ⟨_, (pss_cons (ps_setLc (i := 2) (own := [("number", 3), ("_", 4)]) rfl sc_packed.nd rfl rfl (sw_true rfl rfl rfl (by decide +kernel)) (pi_tup (pv 1)) (blkOk_by (own := [("number", 3), ("_", 4)]) (N := N_packed) (sc := defScope s_packed) (by decide +kernel)) (fun _ _ _ _ _ => (pg_tupK (K := K) (n := 2) rfl rfl (pgs_cons (pg_name (i := 3) sc_packed.nd rfl (Or.inl rfl)) (pgs_cons (pg_name (i := 4) sc_packed.nd rfl (Or.inl rfl)) pgs_nil)))) (fun _ _ _ _ _ => pts_nil) (fun _ _ _ _ _ => (pe_call (ok_as_fraction T) (hr.mono (by decide)) rfl T.as_fraction.g T.as_fraction.F.kp (b_as_fraction T) .nil pass0 (pa_cons (pe_fldK (K := K) rfl (pv 0) rfl) (pa_cons (pv 3) pa_nil)))))
  (pss_cons (ps_set (i := 5) sc_packed.nd rfl (Or.inl rfl) pe_int)
  (pss_cons (ps_for PassesOwn.never rfl (pi_list (pv 2)) (pg_tup rfl (pgs_cons (pg_name (i := 4) sc_packed.nd rfl (Or.inl rfl)) (pgs_cons (pg_name (i := 6) sc_packed.nd rfl (Or.inl rfl)) pgs_nil))) (pss_one (ps_set (i := 5) sc_packed.nd rfl (Or.inl rfl) (pe_callBfun cr_lcm rfl T.g_lcm (pa_cons (pv 5) (pa_cons (pv 6) pa_nil))))))
  (pss_cons (ps_set (i := 7) sc_packed.nd rfl (Or.inl rfl) pe_dnewK)
  (pss_cons (ps_for PassesOwn.never rfl (pi_zipLT rfl T.n_zip (pa_cons (pv 2) (pa_cons (pv 1) pa_nil))) (pg_tup rfl (pgs_cons (pg_tup rfl (pgs_cons (pg_name (i := 8) sc_packed.nd rfl (Or.inl rfl)) (pgs_cons (pg_name (i := 6) sc_packed.nd rfl (Or.inl rfl)) pgs_nil))) (pgs_cons (pg_tup rfl (pgs_cons (pg_name (i := 4) sc_packed.nd rfl (Or.inl rfl)) (pgs_cons (pg_name (i := 9) sc_packed.nd rfl (Or.inl rfl)) pgs_nil))) pgs_nil))) (pss_one (ps_dput (Nat.lt_of_le_of_lt (Nat.add_le_add_left (show 1 ≤ 64 by decide) _) hr.units) (pv 7) (pe_meth (pv 0) T.Coding.cls T.Coding.m_code (ok_Coding_code T) (hr.mono (by decide)) (b_Coding_code T) .nil pass0 (pa_cons (pv 9) pa_nil)) (pe_op op_mulW (pv 8) (pe_op op_fdivZ (pv 5) (pv 6))) rfl)))
  (pss_one (ps_ret (pe_tup (pa_cons (pv 7) (pa_cons (pv 5) pa_nil)))))))))), ?_⟩
    walk_at "rd"
    refine ⟨⟨xs, hP⟩, fun D hD => ?_⟩
    refine lc_tup (xs := xs) (MapAt H D fun j y H' => ∃ p tm, y = .ref p ∧ ps[j]? = some tm ∧ SqT K H' p [.int tm.1.1, .int tm.1.2]) (mapAt_0 hD) (fun j H1 _ hM => ?_) (fun j v H1 hv hM => ?_) (fun H1 hM => ?_)
    · obtain ⟨_, s1, _⟩ := hM
      exact Toy.Same.tup s1 hP
    · have hi : j < ps.length := by rw [← hvl]; exact (List.getElem?_eq_some_iff.mp hv).1
      have s1 : Same H H1 := let ⟨_, s1, _⟩ := hM; s1
      obtain ⟨tp, M, nv, rfl, h1, h2, h3⟩ := (hT j v ps[j] hv (List.getElem?_eq_getElem hi)).tq (tq_same s1)
      walk_at "rd"
      refine ⟨tp, _, rfl, h1, rfl, ?_⟩
      walk_at "rd"
      refine ⟨_, _, _, _, _, rfl, s1 _ _ c1, T.Coding.cls, T.Coding.n_field, cf, ?_⟩
      walk_at "rd"
      refine ⟨f, nv, ps[j].1, rfl, h2, fun p H2 hp2 s2 => ?_⟩
      refine mapAt_step hM hD (by rw [sizeLine_eq]; omega) s2 (fun i v H H' ⟨p, tm, e1, e2, e3⟩ tp => ⟨p, tm, e1, e2, tp.sqt e3⟩) ⟨p, ps[j], rfl, List.getElem?_eq_getElem hi, .inl (.inl hp2)⟩
    · obtain ⟨ys, s1, hDy, hly, hy⟩ := hM
      have hyn : ys.length = ps.length := by omega
      have hyt : ∀ {H' : Hp}, Same H1 H' → ∀ (i : Nat) (y : V), ys[i]? = some y → ∃ p tm, y = .ref p ∧ ps[i]? = some tm ∧ SqT K H' p [.int tm.1.1, .int tm.1.2] := fun {H'} s' i y e => by
        obtain ⟨p, tm, e1, e2, e3⟩ := hy i y e
        exact ⟨p, tm, e1, e2, Toy.Same.tup s' e3⟩
      have hpos : ∀ u ∈ ps, 0 < u.1.2 := fun u hu => (hok u hu).1.n.pos
      have lb : ∀ i, lcmD 1 (ps.take i) ∣ D0 := fun i => lcmD_min _ 1 (Nat.one_dvd _) fun u hu => hD2 u (List.mem_of_mem_take hu)
      have lt64 : ∀ i, lcmD 1 (ps.take i) < 2 ^ 64 := fun i => Nat.lt_of_le_of_lt (Nat.le_of_dvd hD0 (lb i)) hD1
      walk_at "rd"
      refine ⟨⟨ys, .inl (.inl hDy)⟩, ?_⟩
      refine for_list (K := K) (a := D) (xs := ys) (fun i σ H' => H' = H1 ∧ ∃ y z, σ = [some (.ref a), some (.ref pa), some (.ref D), none, y, some (.int ((lcmD 1 (ps.take i) : Nat) : Int)), z, none, none, none]) ⟨rfl, none, none, rfl⟩ (fun i σ H' _ q => by rw [q.1]; exact .inl (.inl hDy)) (fun i x σ H' hx q => ?_) (fun σ H' q => ?_)
      · obtain ⟨rfl, y, z, rfl⟩ := q
        obtain ⟨p, tm, rfl, e2, e3⟩ := hyt (Same.refl _) i x hx
        have htm := List.mem_of_getElem? e2
        have e64 : tm.1.2.natAbs < 2 ^ 64 := Nat.lt_of_le_of_lt (Nat.le_of_dvd hD0 (hD2 tm htm)) hD1
        walk_at "rd"
        refine ⟨p, _, rfl, e3, rfl, ?_⟩
        walk_at "rd"
        refine ⟨by rw [Int.natAbs_natCast]; exact lt64 i, e64, ?_⟩
        walk_at "rd"
        refine ⟨some (.int tm.1.1), some (.int tm.1.2), ?_⟩
        have hi : i < ps.length := (List.getElem?_eq_some_iff.mp e2).1
        have et : ps.take (i + 1) = ps.take i ++ [tm] := by rw [List.take_succ, e2]; rfl
        have el : lcmD 1 (ps.take (i + 1)) = Nat.lcm (lcmD 1 (ps.take i)) tm.1.2.natAbs := by rw [et]; unfold lcmD; rw [List.foldl_append]; rfl
        rw [el, Int.natAbs_natCast]
        rfl
      · obtain ⟨rfl, y0, z0, rfl⟩ := q
        rw [hyn, List.take_length]
        have hB : ((lcmD 1 ps : Nat) : Int) = belowZ ps := rfl
        have hB64 : belowZ ps < 2 ^ 64 := by
          have := lt64 ps.length
          rw [List.take_length] at this
          rw [← hB]; omega
        have hBp := below_pos hpos
        rw [hB]
        walk_at "rd"
        intro d hd
        walk_at "rd"
        refine ⟨D, pa, ys, xs, rfl, .inl (.inl (same_upd hd _ _ hDy)), Toy.Same.tup (Same.trans s1 (same_upd hd)) hP, ?_⟩
        have own_mon : ∀ t ∈ ownI (belowZ ps) ps, Mon n t.2 := fun t ht => by
          obtain ⟨u, hu, rfl⟩ := List.mem_map.mp ht
          exact (hok u hu).2
        have own_nd : NdT (ownI (belowZ ps) ps) := by
          unfold NdT ownI
          rw [List.map_map]
          exact hnd
        have own_len : (ownI (belowZ ps) ps).length = ps.length := List.length_map ..
        refine for_zipLT (K := K) (a := D) (b := pa) (xs := ys) (ys := xs) (by omega) (fun i σ H2 => (Same H H2 ∧ Same H' H2) ∧ H2 d = some (.dK (kvT n rs ((ownI (belowZ ps) ps).take i))) ∧ ∃ y z u v, σ = [some (.ref a), some (.ref pa), some (.ref D), none, y, some (.int (belowZ ps)), z, some (.ref d), u, v]) ⟨⟨Same.trans s1 (same_upd hd), same_upd hd⟩, upd_same, y0, z0, none, none, rfl⟩ (fun i σ H' q => ⟨.inl (.inl (q.1.2 _ _ hDy)), Toy.Same.tup q.1.1 hP⟩) (fun i x y Tp' σ H' hx hy' q hT' => ?_) (fun σ H' q => ?_)
        · obtain ⟨⟨sa, sb⟩, hd', y1, z1, u1, v1, rfl⟩ := q
          obtain ⟨p, tm, rfl, e2, e3⟩ := hyt (Same.refl _) i x hx
          have e3 := Toy.Same.tup (Same.trans sb (same_upd (o := .tup [.ref p, y]) hT')) e3
          have sc := Same.trans sa (same_upd (o := .tup [.ref p, y]) hT')
          obtain ⟨tp, M, nv, rfl, h1, h2, h3⟩ := (hT i y tm hy' e2).tq (tq_same sc)
          have htm := List.mem_of_getElem? e2
          have hi : i < ps.length := (List.getElem?_eq_some_iff.mp e2).1
          have e64 : tm.1.2.natAbs < 2 ^ 64 := Nat.lt_of_le_of_lt (Nat.le_of_dvd hD0 (hD2 tm htm)) hD1
          have hp1 := hpos tm htm
          obtain ⟨o1, o2⟩ := hok tm htm
          walk_at "rd"
          refine ⟨p, _, rfl, e3, rfl, ?_⟩
          walk_at "rd"
          refine ⟨tp, _, rfl, h1, rfl, ?_⟩
          walk_at "rd"
          have ed : (belowZ ps).fdiv tm.1.2 = belowZ ps / tm.1.2 := Int.fdiv_eq_ediv_of_nonneg _ (by omega)
          have q1 : (belowZ ps / tm.1.2).natAbs < SS := by
            have a1 : 0 ≤ belowZ ps / tm.1.2 := Int.ediv_nonneg (by omega) (by omega)
            have a2 : belowZ ps / tm.1.2 ≤ belowZ ps := Int.ediv_le_self _ (by omega)
            have : 2 ^ 64 ≤ SS := by decide +kernel
            omega
          refine ⟨by rw [ed]; exact ss_mul (o1.small hF).1 q1, ?_⟩
          rw [ed]
          walk_at "rd"
          obtain ⟨dx4, L4, fs4, rv4, k1, _, _, _, _, _, k7⟩ := id (CodO.sm hc sc)
          refine ⟨_, _, _, rfl, k1, k7, ?_⟩
          walk_at "rd"
          refine ⟨a, M, n, rs, tm.2, rfl, h4, hrs, o2.1, CodO.sm hc sc, .inl (.inl h3), ?_⟩
          refine ⟨d, _, rfl, DPut.k (k := Sum.inl (dotZ tm.2 (unitsL n rs))) ((upd_ne ?_).trans hd') ?_, ?_⟩
          · intro z
            rw [← z, hd'] at hT'; cases hT'
          · rw [kvT_len, List.length_take, sizeLine_eq]; omega
          have ei : (ownI (belowZ ps) ps)[i]? = some (tm.1.1 * (belowZ ps / tm.1.2), tm.2) := by
            unfold ownI
            rw [List.getElem?_map, e2]; rfl
          have et : (ownI (belowZ ps) ps).take (i + 1) = (ownI (belowZ ps) ps).take i ++ [(tm.1.1 * (belowZ ps / tm.1.2), tm.2)] := by rw [List.take_succ, ei]; rfl
          have ndi : NdT ((ownI (belowZ ps) ps).take (i + 1)) := by
            unfold NdT
            rw [List.map_take]
            exact own_nd.sublist (List.take_sublist _ _)
          have new : ∀ t ∈ (ownI (belowZ ps) ps).take i, t.2 ≠ tm.2 := fun t ht z => by
            rw [et] at ndi
            unfold NdT at ndi
            rw [List.map_append, List.nodup_append] at ndi
            exact ndi.2.2 _ (List.mem_map_of_mem (f := fun x : Int × List Int => x.2) ht) _ List.mem_cons_self z
          have ek : putK (kvT n rs ((ownI (belowZ ps) ps).take i)) (Sum.inl (dotZ tm.2 (unitsL n rs))) (V.int (tm.1.1 * (belowZ ps / tm.1.2))) = kvT n rs ((ownI (belowZ ps) ps).take (i + 1)) := by
            rw [et, ← put_new new]
            exact kvT_put hj o2 fun t ht => own_mon t (List.mem_of_mem_take ht)
          have hd0 : H d = none := none_back s1 hd
          refine ⟨⟨same_put hd0 sc, same_put hd (Same.trans sb (same_upd hT'))⟩, ?_, _, _, _, _, rfl⟩
          exact upd_same.trans (by rw [← ek])
        · obtain ⟨⟨sa, sb⟩, hd', y1, z1, u1, v1, rfl⟩ := q
          rw [hyn, ← own_len, List.take_length] at hd'
          walk_at "rd"
          refine ⟨two_line, fun p hp => ?_⟩
          exact k _ d _ ⟨p, rfl, upd_same, same_upd hp _ _ hd'⟩ (none_back s1 hd) (Same.trans sa (same_upd hp))
end

/-! ### settled tables -/
def tTru (K : PySem.W.Frag) (ta : TE) : TT := fun σ H Q => ta σ H fun x H' => ∃ k, TruV K x H' k ∧ Q k H'
theorem pt_truthK {X : Cx} {K : PySem.W.Frag} {a : Expr} {ta : TE} (hK : X.K = K) (ha : PE X a ta) (he : ∀ whole, isTrue a X.env whole = (do let v ← whole; standAt a.pos; holding [v] (truthy v))) :
    PT X a (tTru K ta) := by
  subst hK
  exact pt_truth ha he
theorem dc_it {J : It} {n : Nat} {G : Hp → Prop} {Y : Nat → Hp → V → Hp → Prop} (w : Walk J n G Y) {g : TG} {tt : TT} {tk tv : TE} {vs : List Nat} {σ : L2.St} {H1 : Hp} {D : Addr} {Qd : Hp → Prop} (Pv : Nat → Hp → Prop) (h0 : Pv 0 (upd H1 D (.dK []))) (hG : ∀ i H, i ≤ n → Pv i H → G H)
    (hs : ∀ i x H H', i < n → Pv i H → Y i H x H' → g x (wipe σ vs) H' fun σ2 H2 => wipe σ2 vs = wipe σ vs ∧ tt σ2 H2 fun b H3 =>
      if b = true then tk σ2 H3 fun y H4 => tv σ2 H4 fun z H5 => ∃ kvs k, y = kV k ∧ H5 D = some (.dK kvs) ∧ kvs.length < sizeLine ∧ Pv (i + 1) (upd H5 D (.dK (putK kvs k z))) else Pv (i + 1) H3) (hd : ∀ H, Pv n H → Qd H) :
    ∃ W : Nat → Nat → Hp → Prop, (∃ m, W 0 m (upd H1 D (.dK []))) ∧ ∀ i m H, W i m H →
      (J.stop i H ∧ Qd H) ∨ (J.go i H ∧ ∃ Nx : Hp → Prop, (∀ H', Nx H' → ∃ m', m' < m ∧ W (i + 1) m' H') ∧ ∀ x H', J.yld i H x H' → g x (wipe σ vs) H' fun σ2 H2 => wipe σ2 vs = wipe σ vs ∧ tt σ2 H2 fun b H3 =>
        if b = true then tk σ2 H3 fun y H4 => tv σ2 H4 fun z H5 => ∃ kvs k, y = kV k ∧ H5 D = some (.dK kvs) ∧ kvs.length < sizeLine ∧ Nx (upd H5 D (.dK (putK kvs k z))) else Nx H3) := by
  refine ⟨fun i m H => m = n - i ∧ i ≤ n ∧ Pv i H, ⟨n, by simp, Nat.zero_le _, h0⟩, ?_⟩
  rintro i m H ⟨rfl, hi, p⟩
  have q := hG i H hi p
  by_cases hlt : i < n
  · exact .inr ⟨w.goes i H hlt q, Pv (i + 1), fun H' p' => ⟨n - (i + 1), by omega, rfl, hlt, p'⟩, fun x H' y => hs i x H H' hlt p (w.yields i H x H' hlt q y)⟩
  · have e : i = n := by omega
    subst e
    exact .inl ⟨w.stops H q, hd H p⟩
theorem set_step (f : Int) {T : IT} {i : Nat} {t : Int × List Int} (h : T[i]? = some t) : setT f (T.take (i + 1)) = setT f (T.take i) ++ (if f = 0 then (if t.1 ≠ 0 then [t] else []) else (if t.1 % f ≠ 0 then [(t.1 % f, t.2)] else [])) := by
  rw [List.take_succ, h]
  unfold setT
  by_cases hf : f = 0
  · rw [if_pos hf, if_pos hf, if_pos hf, List.filter_append]
    congr 1
    show List.filter _ [t] = _
    by_cases c : t.1 ≠ 0
    · rw [if_pos c, List.filter_cons_of_pos (by simpa using c)]; rfl
    · rw [if_neg c, List.filter_cons_of_neg (by simpa using c)]; rfl
  · rw [if_neg hf, if_neg hf, if_neg hf, List.filter_append, List.map_append]
    congr 1
    show List.map _ (List.filter _ [t]) = _
    by_cases c : t.1 % f ≠ 0
    · rw [if_pos c, List.filter_cons_of_pos (by simpa using c)]; rfl
    · rw [if_neg c, List.filter_cons_of_neg (by simpa using c)]; rfl
theorem nd_take {T : IT} (h : NdT T) (i : Nat) : NdT (T.take i) := by
  unfold NdT
  rw [List.map_take]
  exact h.sublist (List.take_sublist _ _)
theorem nd_new {T : IT} (h : NdT T) {i : Nat} {t : Int × List Int} (e : T[i]? = some t) : ∀ u ∈ T.take i, u.2 ≠ t.2 := fun u hu z => by
  have := nd_take h (i + 1)
  rw [List.take_succ, e] at this
  unfold NdT at this
  rw [List.map_append, List.nodup_append] at this
  exact this.2.2 _ (List.mem_map_of_mem (f := fun x : Int × List Int => x.2) hu) t.2 (by simp) z
section
variable {P : Program} {w : World} {K : PySem.W.Frag} {mg : Str → Option Value} {base : Heap}
def sp_settled : Sp := fun vs H Q _ => ∃ (f : Int) (d : Addr) (n : Nat) (rs : List (List Int)) (T : IT), vs = [.int f, .ref d] ∧ IsF f ∧ CInj n rs ∧ H d = some (.dK (kvT n rs T)) ∧ NdT T ∧ (∀ t ∈ T, Mon n t.2) ∧ T.length ≤ 100000 ∧
  ∀ d' H', H' d' = some (.dK (kvT n rs (setT f T))) → H d' = none → Same H H' → Q (.ref d') H'
theorem ok_settled (T : Txt K mg) : FnOk P w K mg base CX0 1 T.settled.f T.settled.fd P_settled sp_settled := by
  refine T.settled.F.ok sc_settled (fun vs H Q E h => ?_) (fun cdv A outer s H vs Q E hr h => ?_)
  · obtain ⟨f, d, n, rs, Tb, rfl, _⟩ := h; rfl
  · obtain ⟨f, d, n, rs, Tb, rfl, hF, hj, hd, hnd, hm, hlen, k⟩ := h
    refine ⟨_, (pss_cons (ps_if (pt_truth (pv 0) (by intro _; rfl)) (pss_one (ps_lock (ps_ret (pe_dc (own := [("code", 2), ("n", 3)]) rfl sc_settled.nd (pi_items (pv 1)) (blkOk_by (own := [("code", 2), ("n", 3)]) (N := N_settled) (sc := defScope s_settled) (by decide +kernel)) (fun _ _ _ _ _ => (pg_tupK (K := K) (n := 2) rfl rfl (pgs_cons (pg_name (i := 2) sc_settled.nd rfl (Or.inl rfl)) (pgs_cons (pg_name (i := 3) sc_settled.nd rfl (Or.inl rfl)) pgs_nil)))) (fun _ _ _ _ _ => pts_one (pt_truthK (K := K) rfl (pe_op op_mod (pv 3) (pv 0)) (by intro _; rfl))) (fun _ _ _ _ _ => (pv 2)) (fun _ _ _ _ _ => (pe_op op_mod (pv 3) (pv 0))))))) pss_nil)
  (pss_one (ps_lock (ps_ret (pe_dc (own := [("code", 2), ("n", 3)]) rfl sc_settled.nd (pi_items (pv 1)) (blkOk_by (own := [("code", 2), ("n", 3)]) (N := N_settled) (sc := defScope s_settled) (by decide +kernel)) (fun _ _ _ _ _ => (pg_tupK (K := K) (n := 2) rfl rfl (pgs_cons (pg_name (i := 2) sc_settled.nd rfl (Or.inl rfl)) (pgs_cons (pg_name (i := 3) sc_settled.nd rfl (Or.inl rfl)) pgs_nil)))) (fun _ _ _ _ _ => pts_one (pt_truthK (K := K) rfl (pv 3) (by intro _; rfl))) (fun _ _ _ _ _ => (pv 2)) (fun _ _ _ _ _ => (pv 3))))))), ?_⟩
    walk_at "rd"
    refine iteN0 (fun hf => ?_) (fun hf => ?_)
    · walk_at "rd"
      refine ⟨d, _, hd, trivial, fun od => ?_⟩
      obtain ⟨G, eG⟩ : ∃ G, G = upd H d (.frz od (.dK (kvT n rs Tb))) := ⟨_, rfl⟩
      have hlen := hlen
      have Gd : G d = some (.frz od (.dK (kvT n rs Tb))) := by rw [eG]; exact upd_same
      rw [← eG]
      walk_at "rd"
      refine ⟨d, od, kvT n rs Tb, rfl, Gd, fun D hD => ?_⟩
      refine dc_it walk_items (fun i H5 => Same G H5 ∧ H5 D = some (.dK (kvT n rs (setT f (Tb.take i))))) ⟨same_upd hD, by rw [List.take_zero]; unfold setT; split <;> exact upd_same⟩ (fun i H5 _ q => q.1 _ _ Gd) (fun i x H5 H6 hi q y => ?_) (fun H5 q => ?_)
      · obtain ⟨s5, hD5⟩ := q
        rw [kvT_len] at hi
        obtain ⟨Tt, kx, vx, rfl, q1, rfl, e1, e2⟩ := y
        have et : Tb[i]? = some Tb[i] := List.getElem?_eq_getElem hi
        have ek : (kvT n rs Tb)[i]? = some (Sum.inl (codeR n rs Tb[i].2), V.int Tb[i].1) := by unfold kvT; rw [List.getElem?_map, et]; rfl
        have e1 : ((kvT n rs Tb)[i]?).map (fun kv => kV kv.1) = some kx := e1
        have e2 : ((kvT n rs Tb)[i]?).map Prod.snd = some vx := e2
        rw [ek] at e1 e2
        obtain rfl : kx = V.int (codeR n rs Tb[i].2) := (Option.some.inj e1).symm
        obtain rfl : vx = V.int Tb[i].1 := (Option.some.inj e2).symm
        have s6 := same_upd (o := .tup [V.int (codeR n rs Tb[i].2), V.int Tb[i].1]) q1
        refine ⟨Tt, _, rfl, .inl (.inl upd_same), rfl, ?_⟩
        walk_at "rd"
        have h2 := hF.pos hf
        refine ⟨(by omega : 0 < f), ?_⟩
        walk_at "rd"
        refine iteN0 (fun c => ?_) (fun c => ?_)
        · walk_at "rd"
          refine ⟨_, Sum.inl (codeR n rs Tb[i].2), rfl, s6 _ _ hD5, ?_, ?_, ?_⟩
          · rw [kvT_len]
            have h1 := set_len f (Tb.take i)
            rw [List.length_take] at h1
            rw [sizeLine_eq]; omega
          · exact same_put hD (Same.trans s5 s6)
          · rw [upd_same, kvT_put hj (hm _ (List.getElem_mem hi)) fun t ht => by
              obtain ⟨u, hu, e, _⟩ := set_mem ht
              rw [← e]; exact hm u (List.mem_of_mem_take hu)]
            rw [set_step _ et, if_neg hf, if_pos c, put_new fun t ht => by
              obtain ⟨u, hu, e, _⟩ := set_mem ht
              rw [← e]; exact nd_new hnd et u hu]
        · refine ⟨Same.trans s5 s6, ?_⟩
          rw [s6 _ _ hD5, set_step _ et, if_neg hf, if_neg (by omega), List.append_nil]
      · obtain ⟨s5, hD5⟩ := q
        rw [kvT_len, List.take_length] at hD5
        refine ⟨s5 _ _ Gd, ?_⟩
        have nDd : D ≠ d := fun z => by rw [z, Gd] at hD; cases hD
        refine k D _ ((upd_ne nDd).trans hD5) (by rw [eG, upd_ne nDd] at hD; exact hD) fun b o e => ?_
        by_cases hb : b = d
        · subst hb
          rw [hd] at e
          cases e
          exact upd_same
        · refine (upd_ne hb).trans (s5 _ _ ?_)
          rw [eG]
          exact (upd_ne hb).trans e
    · subst hf
      walk_at "rd"
      refine ⟨d, _, hd, trivial, fun od => ?_⟩
      obtain ⟨G, eG⟩ : ∃ G, G = upd H d (.frz od (.dK (kvT n rs Tb))) := ⟨_, rfl⟩
      have hlen := hlen
      have Gd : G d = some (.frz od (.dK (kvT n rs Tb))) := by rw [eG]; exact upd_same
      rw [← eG]
      walk_at "rd"
      refine ⟨d, od, kvT n rs Tb, rfl, Gd, fun D hD => ?_⟩
      refine dc_it walk_items (fun i H5 => Same G H5 ∧ H5 D = some (.dK (kvT n rs (setT 0 (Tb.take i))))) ⟨same_upd hD, by rw [List.take_zero]; unfold setT; split <;> exact upd_same⟩ (fun i H5 _ q => q.1 _ _ Gd) (fun i x H5 H6 hi q y => ?_) (fun H5 q => ?_)
      · obtain ⟨s5, hD5⟩ := q
        rw [kvT_len] at hi
        obtain ⟨Tt, kx, vx, rfl, q1, rfl, e1, e2⟩ := y
        have et : Tb[i]? = some Tb[i] := List.getElem?_eq_getElem hi
        have ek : (kvT n rs Tb)[i]? = some (Sum.inl (codeR n rs Tb[i].2), V.int Tb[i].1) := by unfold kvT; rw [List.getElem?_map, et]; rfl
        have e1 : ((kvT n rs Tb)[i]?).map (fun kv => kV kv.1) = some kx := e1
        have e2 : ((kvT n rs Tb)[i]?).map Prod.snd = some vx := e2
        rw [ek] at e1 e2
        obtain rfl : kx = V.int (codeR n rs Tb[i].2) := (Option.some.inj e1).symm
        obtain rfl : vx = V.int Tb[i].1 := (Option.some.inj e2).symm
        have s6 := same_upd (o := .tup [V.int (codeR n rs Tb[i].2), V.int Tb[i].1]) q1
        refine ⟨Tt, _, rfl, .inl (.inl upd_same), rfl, ?_⟩
        walk_at "rd"
        refine iteN0 (fun c => ?_) (fun c => ?_)
        · walk_at "rd"
          refine ⟨_, Sum.inl (codeR n rs Tb[i].2), rfl, s6 _ _ hD5, ?_, ?_, ?_⟩
          · rw [kvT_len]
            have h1 := set_len 0 (Tb.take i)
            rw [List.length_take] at h1
            rw [sizeLine_eq]; omega
          · exact same_put hD (Same.trans s5 s6)
          · rw [upd_same, kvT_put hj (hm _ (List.getElem_mem hi)) fun t ht => by
              obtain ⟨u, hu, e, _⟩ := set_mem ht
              rw [← e]; exact hm u (List.mem_of_mem_take hu)]
            rw [set_step _ et, if_pos rfl, if_pos c, put_new fun t ht => by
              obtain ⟨u, hu, e, _⟩ := set_mem ht
              rw [← e]; exact nd_new hnd et u hu]
        · refine ⟨Same.trans s5 s6, ?_⟩
          rw [s6 _ _ hD5, set_step _ et, if_pos rfl, if_neg (by omega), List.append_nil]
      · obtain ⟨s5, hD5⟩ := q
        rw [kvT_len, List.take_length] at hD5
        refine ⟨s5 _ _ Gd, ?_⟩
        have nDd : D ≠ d := fun z => by rw [z, Gd] at hD; cases hD
        refine k D _ ((upd_ne nDd).trans hD5) (by rw [eG, upd_ne nDd] at hD; exact hD) fun b o e => ?_
        by_cases hb : b = d
        · subst hb
          rw [hd] at e
          cases e
          exact upd_same
        · refine (upd_ne hb).trans (s5 _ _ ?_)
          rw [eG]
          exact (upd_ne hb).trans e
end

/-! ### the product of two tables -/
theorem mulI_take {a b : IT} {i : Nat} {t : Int × List Int} (h : a[i]? = some t) : mulI (a.take (i + 1)) b = mulI (a.take i) b ++ mulT1 t b := by
  rw [List.take_succ, h]
  unfold mulI
  rw [List.flatMap_append]
  show _ ++ (mulT1 t b ++ []) = _
  rw [List.append_nil]
theorem mulT1_take {t u : Int × List Int} {b : IT} {j : Nat} (h : b[j]? = some u) : mulT1 t (b.take (j + 1)) = mulT1 t (b.take j) ++ [(t.1 * u.1, addM t.2 u.2)] := by
  rw [List.take_succ, h]
  unfold mulT1
  rw [List.map_append]
  rfl
theorem codeR_add {n : Nat} {rs : List (List Int)} {a b : List Int} (ha : a.length = n) (hb : b.length = n) : codeR n rs (addM a b) = codeR n rs a + codeR n rs b := by
  unfold codeR
  have : ∀ (a b us : List Int), a.length = us.length → b.length = us.length → dotZ (addM a b) us = dotZ a us + dotZ b us := by
    intro a b us
    induction us generalizing a b with
    | nil =>
      intro h1 h2
      rw [List.length_nil] at h1 h2
      rw [List.eq_nil_of_length_eq_zero h1, List.eq_nil_of_length_eq_zero h2]
      rfl
    | cons u us ih =>
      intro h1 h2
      match a, b, h1, h2 with
      | x :: a, y :: b, h1, h2 =>
        have := ih a b (by simpa using h1) (by simpa using h2)
        show (x + y) * u + dotZ (addM a b) us = x * u + dotZ a us + (y * u + dotZ b us)
        rw [this]
        grind
  refine this a b _ ?_ ?_
  · rw [ha, unitsL, List.length_map, List.length_range]
  · rw [hb, unitsL, List.length_map, List.length_range]
section
variable {P : Program} {w : World} {K : PySem.W.Frag} {mg : Str → Option Value} {base : Heap}
def sp_packed_product : Sp := fun vs H Q _ => ∃ (f : Int) (v u : V) (n : Nat) (rs : List (List Int)) (d1 d2 : Addr) (a b : IT) (B C : Int), vs = [.int f, v, u] ∧ IsF f ∧ CInj n rs ∧ PkV H n rs v d1 a B ∧ PkV H n rs u d2 b C ∧ d1 ≠ d2 ∧
  (∀ t ∈ a, Mon n t.2 ∧ t.1.natAbs < SS) ∧ (∀ t ∈ b, Mon n t.2 ∧ t.1.natAbs < SS) ∧ (∀ t ∈ a, ∀ u ∈ b, Mon n (addM t.2 u.2)) ∧ a.length * b.length ≤ 100000 ∧ B.natAbs < SS ∧ C.natAbs < SS ∧
  ∀ r d H', PkV H' n rs r d (setT f (prodT a b)) (B * C) → H d = none → Same H H' → Q r H'
theorem ok_packed_product (T : Txt K mg) : FnOk P w K mg base CX0 2 T.packed_product.f T.packed_product.fd P_packed_product sp_packed_product := by
  refine T.packed_product.F.ok sc_packed_product (fun vs H Q E h => ?_) (fun cdv A outer s H vs Q E hr h => ?_)
  · obtain ⟨f, v, u, n, rs, d1, d2, a, b, B, C, rfl, _⟩ := h; rfl
  · obtain ⟨f, v, u, n, rs, d1, d2, a, b, B, C, rfl, hF, hj, ⟨p, rfl, hp, hd1⟩, ⟨q, rfl, hq, hd2⟩, hne, ha, hb, hab, hlen, hB, hC, k⟩ := h
    refine ⟨_, (pss_cons (ps_set (i := 3) sc_packed_product.nd rfl (Or.inl rfl) pe_dnewK)
  (pss_cons (ps_lock (ps_for PassesOwn.never rfl (pi_items (pe_ix (r := rIxT K) ix_tup (pv 1) pe_int (fun _ _ => rfl))) (pg_tup rfl (pgs_cons (pg_name (i := 4) sc_packed_product.nd rfl (Or.inl rfl)) (pgs_cons (pg_name (i := 5) sc_packed_product.nd rfl (Or.inl rfl)) pgs_nil))) (pss_one (ps_lock (ps_for PassesOwn.never rfl (pi_items (pe_ix (r := rIxT K) ix_tup (pv 2) pe_int (fun _ _ => rfl))) (pg_tup rfl (pgs_cons (pg_name (i := 6) sc_packed_product.nd rfl (Or.inl rfl)) (pgs_cons (pg_name (i := 7) sc_packed_product.nd rfl (Or.inl rfl)) pgs_nil))) (pss_cons (ps_set (i := 8) sc_packed_product.nd rfl (Or.inl rfl) (pe_op op_add (pv 4) (pv 6)))
  (pss_one (ps_dput (Nat.lt_of_le_of_lt (Nat.add_le_add_left (show 1 ≤ 64 by decide) _) hr.units) (pv 3) (pv 8) (pe_op op_add (pe_dget2 (Nat.lt_of_le_of_lt (Nat.add_le_add_left (show 1 ≤ 64 by decide) _) hr.units) (pv 3) (pv 8) pe_int ⟨rfl, rfl, rfl, rfl⟩) (pe_op op_mulW (pv 5) (pv 7))) rfl))))))))
  (pss_one (ps_ret (pe_tup (pa_cons (pe_call (ok_settled T) (hr.mono (by decide)) rfl T.settled.g T.settled.F.kp (b_settled T) .nil pass0 (pa_cons (pv 0) (pa_cons (pv 3) pa_nil))) (pa_cons (pe_op op_mulW (pe_ix (r := rIxT K) ix_tup (pv 1) pe_int (fun _ _ => rfl)) (pe_ix (r := rIxT K) ix_tup (pv 2) pe_int (fun _ _ => rfl))) pa_nil))))))), ?_⟩
    walk_at "rd"
    intro dt hdt
    have nt1 : dt ≠ d1 := fun z => by rw [z, hd1] at hdt; cases hdt
    have nt2 : dt ≠ d2 := fun z => by rw [z, hd2] at hdt; cases hdt
    walk_at "rd"
    refine ⟨d1, .dK (kvT n rs a), (upd_ne nt1.symm).trans hd1, trivial, fun o1 => ?_⟩
    obtain ⟨G0, eG0⟩ : ∃ G0, G0 = upd H d1 (.frz o1 (.dK (kvT n rs a))) := ⟨_, rfl⟩
    obtain ⟨G1, eG1⟩ : ∃ G1, G1 = upd (upd H dt (.dK [])) d1 (.frz o1 (.dK (kvT n rs a))) := ⟨_, rfl⟩
    have G0a : G0 d1 = some (.frz o1 (.dK (kvT n rs a))) := by rw [eG0]; exact upd_same
    have G0k : ∀ x o, x ≠ d1 → H x = some o → G0 x = some o := fun x o h e => by rw [eG0]; exact (upd_ne h).trans e
    have G0t : G0 dt = none := by rw [eG0]; exact (upd_ne nt1).trans hdt
    have G1t : G1 dt = some (.dK []) := by rw [eG1]; exact (upd_ne nt1).trans upd_same
    have s01 : Same G0 G1 := fun x o e => by
      rw [eG0] at e
      rw [eG1]
      by_cases h : x = d1
      · subst h; rw [upd_same] at e ⊢; exact e
      · rw [upd_ne h] at e ⊢
        exact same_upd hdt _ _ e
    rw [← eG1]
    have np : p ≠ d1 := fun z => by rw [z, hd1] at hp; cases hp
    have nq : q ≠ d1 := fun z => by rw [z, hd1] at hq; cases hq
    walk_at "rd"
    refine ⟨p, _, _, _, rfl, rfl, .inl (.inl (s01 _ _ (G0k _ _ np hp))), rfl, ?_⟩
    refine ⟨d1, o1, kvT n rs a, rfl, s01 _ _ G0a, ?_⟩
    refine for_it walk_items (fun i σ Hx => Same G0 Hx ∧ Hx dt = some (.dK (kvT n rs ((mulI (a.take i) b).foldl accI []))) ∧ ∃ y1 y2 y3 y4 y5, σ = [some (.int f), some (.ref p), some (.ref q), some (.ref dt), y1, y2, y3, y4, y5]) ⟨s01, G1t, none, none, none, none, none, rfl⟩ (fun i σ Hx _ z => z.1 _ _ G0a) (fun i x σ Hx Hx' hi z y => ?_) (fun σ Hx z => ?_)
    · obtain ⟨sx, hxt, y1, y2, y3, y4, y5, rfl⟩ := z
      rw [kvT_len] at hi
      obtain ⟨Tt, kx, vx, rfl, q1, rfl, e1, e2⟩ := y
      have et : a[i]? = some a[i] := List.getElem?_eq_getElem hi
      have ek : (kvT n rs a)[i]? = some (Sum.inl (codeR n rs a[i].2), V.int a[i].1) := by unfold kvT; rw [List.getElem?_map, et]; rfl
      have e1 : ((kvT n rs a)[i]?).map (fun kv => kV kv.1) = some kx := e1
      have e2 : ((kvT n rs a)[i]?).map Prod.snd = some vx := e2
      rw [ek] at e1 e2
      obtain rfl : kx = V.int (codeR n rs a[i].2) := (Option.some.inj e1).symm
      obtain rfl : vx = V.int a[i].1 := (Option.some.inj e2).symm
      have hai := ha _ (List.getElem_mem hi)
      have sT := same_upd (o := .tup [V.int (codeR n rs a[i].2), V.int a[i].1]) q1
      obtain ⟨Hy, eHy⟩ : ∃ Hy, Hy = upd Hx Tt (.tup [V.int (codeR n rs a[i].2), V.int a[i].1]) := ⟨_, rfl⟩
      have sT : Same Hx Hy := by rw [eHy]; exact sT
      have hyt : Hy dt = some (.dK (kvT n rs ((mulI (a.take i) b).foldl accI []))) := sT _ _ hxt
      have sy : Same G0 Hy := Same.trans sx sT
      refine ⟨Tt, _, rfl, .inl (.inl upd_same), rfl, ?_⟩
      rw [← eHy]
      walk_at "rd"
      have hy2 : Hy d2 = some (.dK (kvT n rs b)) := sy _ _ (G0k _ _ hne.symm hd2)
      refine ⟨d2, _, hy2, trivial, fun o2 => ?_⟩
      obtain ⟨F0, eF0⟩ : ∃ F0, F0 = upd G0 d2 (.frz o2 (.dK (kvT n rs b))) := ⟨_, rfl⟩
      obtain ⟨F1, eF1⟩ : ∃ F1, F1 = upd Hy d2 (.frz o2 (.dK (kvT n rs b))) := ⟨_, rfl⟩
      have F0a : F0 d2 = some (.frz o2 (.dK (kvT n rs b))) := by rw [eF0]; exact upd_same
      have F0k : ∀ x o, x ≠ d2 → G0 x = some o → F0 x = some o := fun x o h e => by rw [eF0]; exact (upd_ne h).trans e
      have F0t : F0 dt = none := by rw [eF0]; exact (upd_ne nt2).trans G0t
      have F1t : F1 dt = some (.dK (kvT n rs ((mulI (a.take i) b).foldl accI []))) := by rw [eF1]; exact (upd_ne nt2).trans hyt
      have sF : Same F0 F1 := fun x o e => by
        rw [eF0] at e
        rw [eF1]
        by_cases h : x = d2
        · subst h; rw [upd_same] at e ⊢; exact e
        · rw [upd_ne h] at e ⊢
          exact sy _ _ e
      rw [← eF1]
      have nq2 : q ≠ d2 := fun z => by rw [z, hd2] at hq; cases hq
      walk_at "rd"
      refine ⟨q, _, _, _, rfl, rfl, .inl (.inl (sF _ _ (F0k _ _ nq2 (G0k _ _ nq hq)))), rfl, ?_⟩
      refine ⟨d2, o2, kvT n rs b, rfl, sF _ _ F0a, ?_⟩
      refine for_it walk_items (fun j σ Hz => Same F0 Hz ∧ Hz dt = some (.dK (kvT n rs ((mulI (a.take i) b ++ mulT1 a[i] (b.take j)).foldl accI []))) ∧ ∃ y3 y4 y5, σ = [some (.int f), some (.ref p), some (.ref q), some (.ref dt), some (.int (codeR n rs a[i].2)), some (.int a[i].1), y3, y4, y5]) ⟨sF, by rw [List.take_zero]; show F1 dt = some (.dK (kvT n rs ((mulI (a.take i) b ++ []).foldl accI []))); rw [List.append_nil]; exact F1t, y3, y4, y5, rfl⟩ (fun j σ Hz _ z => z.1 _ _ F0a) (fun j x σ Hz Hz' hjj z y => ?_) (fun σ Hz z => ?_)
      · obtain ⟨sz, hzt, y3, y4, y5, rfl⟩ := z
        rw [kvT_len] at hjj
        obtain ⟨Tu, kx, vx, rfl, q2, rfl, e3, e4⟩ := y
        have eu : b[j]? = some b[j] := List.getElem?_eq_getElem hjj
        have ek : (kvT n rs b)[j]? = some (Sum.inl (codeR n rs b[j].2), V.int b[j].1) := by unfold kvT; rw [List.getElem?_map, eu]; rfl
        have e3 : ((kvT n rs b)[j]?).map (fun kv => kV kv.1) = some kx := e3
        have e4 : ((kvT n rs b)[j]?).map Prod.snd = some vx := e4
        rw [ek] at e3 e4
        obtain rfl : kx = V.int (codeR n rs b[j].2) := (Option.some.inj e3).symm
        obtain rfl : vx = V.int b[j].1 := (Option.some.inj e4).symm
        have hbj := hb _ (List.getElem_mem hjj)
        have hm := hab _ (List.getElem_mem hi) _ (List.getElem_mem hjj)
        obtain ⟨Hw, eHw⟩ : ∃ Hw, Hw = upd Hz Tu (.tup [V.int (codeR n rs b[j].2), V.int b[j].1]) := ⟨_, rfl⟩
        have sW : Same Hz Hw := by rw [eHw]; exact same_upd q2
        have hwt := sW _ _ hzt
        refine ⟨Tu, _, rfl, .inl (.inl upd_same), rfl, ?_⟩
        rw [← eHw]
        walk_at "rd"
        refine ⟨.inl ⟨_, .inl hwt⟩, ?_⟩
        obtain ⟨L, eL⟩ : ∃ L, L = mulI (a.take i) b ++ mulT1 a[i] (b.take j) := ⟨_, rfl⟩
        have lm : ∀ t ∈ L, Mon n t.2 := fun t ht => by
          rw [eL] at ht
          rcases List.mem_append.mp ht with ht | ht
          · obtain ⟨t1, h1, h2⟩ := List.mem_flatMap.mp ht
            obtain ⟨t2, h3, rfl⟩ := List.mem_map.mp h2
            exact hab _ (List.mem_of_mem_take h1) _ h3
          · obtain ⟨t2, h3, rfl⟩ := List.mem_map.mp ht
            exact hab _ (List.getElem_mem hi) _ (List.mem_of_mem_take h3)
        have tm : ∀ t ∈ L.foldl accI [], Mon n t.2 := fold_keys L (fun t ht => by cases ht) lm
        have ll : L.length ≤ 100000 := by
          have e : L.length = (a.take i).length * b.length + (b.take j).length := by
            rw [eL, List.length_append, mulI_len]
            unfold mulT1
            rw [List.length_map]
          rw [List.length_take, List.length_take, Nat.min_eq_left (by omega), Nat.min_eq_left (by omega)] at e
          have h1 : (i + 1) * b.length ≤ a.length * b.length := Nat.mul_le_mul_right _ hi
          rw [Nat.add_mul, Nat.one_mul] at h1
          omega
        have tl : (L.foldl accI []).length ≤ 100000 := Nat.le_trans (fold_len' L []) (by simpa using ll)
        rw [← eL] at hwt
        have ec : codeR n rs a[i].2 + codeR n rs b[j].2 = codeR n rs (addM a[i].2 b[j].2) := (codeR_add hai.1.1.1 hbj.1.1.1).symm
        walk_at "rd"
        dsimp only
        rw [ec]
        walk_at "rd"
        refine ⟨_, DGet.k (k := Sum.inl (codeR n rs (addM a[i].2 b[j].2))) hwt, ?_⟩
        rw [kvT_val hj hm tm]
        have eg : ((getI (L.foldl accI []) (addM a[i].2 b[j].2)).map V.int).getD (V.int 0) = V.int ((getI (L.foldl accI []) (addM a[i].2 b[j].2)).getD 0) := by
          cases getI (L.foldl accI []) (addM a[i].2 b[j].2) <;> rfl
        rw [eg]
        walk_at "rd"
        refine ⟨ss_mul hai.2 hbj.2, ?_⟩
        walk_at "rd"
        refine ⟨dt, _, rfl, DPut.k (k := Sum.inl (codeR n rs (addM a[i].2 b[j].2))) hwt (by rw [kvT_len, sizeLine_eq]; omega), same_put F0t (Same.trans sz sW), ?_, _, _, _, rfl⟩
        rw [upd_same, kvT_put hj hm tm, mulT1_take eu, ← List.append_assoc, ← eL, List.foldl_append]
        rfl
      · obtain ⟨sz, hzt, y3, y4, y5, rfl⟩ := z
        rw [kvT_len, List.take_length, ← mulI_take et] at hzt
        refine ⟨sz _ _ F0a, fun x o e => ?_, (upd_ne nt2).trans hzt, _, _, _, _, _, rfl⟩
        by_cases h : x = d2
        · subst h
          rw [G0k _ _ hne.symm hd2] at e
          cases e
          exact upd_same
        · exact (upd_ne h).trans (sz _ _ (F0k _ _ h e))
    · obtain ⟨sx, hxt, y1, y2, y3, y4, y5, rfl⟩ := z
      rw [kvT_len, List.take_length] at hxt
      refine ⟨sx _ _ G0a, ?_⟩
      obtain ⟨U, eU⟩ : ∃ U, U = upd Hx d1 (.dK (kvT n rs a)) := ⟨_, rfl⟩
      have sU : Same H U := fun x o e => by
        rw [eU]
        by_cases h : x = d1
        · subst h
          rw [hd1] at e
          cases e
          exact upd_same
        · exact (upd_ne h).trans (sx _ _ (G0k _ _ h e))
      have Ut : U dt = some (.dK (kvT n rs (prodT a b))) := by rw [eU]; exact (upd_ne nt1).trans hxt
      rw [← eU]
      walk_at "rd"
      refine ⟨f, dt, n, rs, prodT a b, rfl, hF, hj, Ut, prod_nd a b, prod_keys (p := fun m => ∃ t ∈ a, t.2 = m) (q := fun m => ∃ t ∈ b, t.2 = m) (fun t ht => ⟨t, ht, rfl⟩) (fun t ht => ⟨t, ht, rfl⟩) (fun x y ⟨t, ht, e⟩ ⟨u, hu, e'⟩ => by rw [← e, ← e']; exact hab t ht u hu), Nat.le_trans (prod_len a b) hlen, fun d' H3 hd' hn' s3 => ?_⟩
      have s03 := Same.trans sU s3
      walk_at "rd"
      refine ⟨p, _, _, _, rfl, rfl, .inl (.inl (s03 _ _ hp)), rfl, ?_⟩
      walk_at "rd"
      refine ⟨q, _, _, _, rfl, rfl, .inl (.inl (s03 _ _ hq)), rfl, ?_⟩
      walk_at "rd"
      refine ⟨ss_mul hB hC, ?_⟩
      walk_at "rd"
      refine ⟨two_line, fun r hr => ?_⟩
      exact k _ d' _ ⟨r, rfl, upd_same, same_upd hr _ _ hd'⟩ (none_back sU hn') (Same.trans s03 (same_upd hr))
end

/-! ### unpacked -/
theorem getI_mem : ∀ {T : IT}, NdT T → ∀ {t : Int × List Int}, t ∈ T → getI T t.2 = some t.1
  | [], _, _, h => by cases h
  | u :: T, hd, t, h => by
    obtain ⟨h1, h2⟩ := nd_cons hd
    unfold getI
    rw [List.find?_cons]
    rcases List.mem_cons.mp h with rfl | h
    · simp
    · have ne : (decide (u.2 = t.2)) = false := decide_eq_false fun z => h2 t h z.symm
      rw [ne]
      exact getI_mem h1 h
section
variable {P : Program} {w : World} {K : PySem.W.Frag} {mg : Str → Option Value} {base : Heap}
def sp_unpacked (C : Addr) (K : PySem.W.Frag) : Sp := fun vs H Q _ => ∃ (a : Addr) (v : V) (f : Int) (n : Nat) (o : Ord) (d : Addr) (T : IT) (B : Int), vs = [.ref a, v] ∧ IsF f ∧ 1 ≤ n ∧ n ≤ 4 ∧ OrdOk n o ∧ CodO C K H a n (rowsL n o) ∧ CodF C H a f ∧ PkV H n (rowsL n o) v d T B ∧ NdT T ∧ (∀ t ∈ T, Mon n t.2 ∧ t.1.natAbs < S3) ∧ T.length ≤ 100000 ∧ 0 < B ∧ B.natAbs < S3 ∧
  ∀ v' H', PolyV K H' f v' (unpL f n o T B) → Same H H' → Q v' H'
theorem ok_unpacked (T : Txt K mg) : FnOk P w K mg base CX0 3 T.unpacked.f T.unpacked.fd P_unpacked (sp_unpacked T.Coding.C K) := by
  refine T.unpacked.F.ok sc_unpacked (fun vs H Q E h => ?_) (fun cdv A outer s H vs Q E hr h => ?_)
  · obtain ⟨a, v, f, n, o, d, Tb, B, rfl, _⟩ := h; rfl
  · obtain ⟨a, v, f, n, o, d, Tb, B, rfl, hF, h1, h4, ho, hc, hcf, ⟨p, rfl, hp, hd⟩, hnd, hm, hlen, hB, hB3, k⟩ := h
    obtain ⟨dx, fs, c1, cf, _, _, _, _, _, cE⟩ := id hcf
    have hrs := rows_ok h1 h4 ho
    have hj : CInj n (rowsL n o) := fun x y hx hy e => code_inj hx hy h1 h4 ho e
    refine ⟨_, (pss_cons (ps_asg (pv 1) (pg_tup rfl (pgs_cons (pg_name (i := 2) sc_unpacked.nd rfl (Or.inl rfl)) (pgs_cons (pg_name (i := 3) sc_unpacked.nd rfl (Or.inr rfl)) pgs_nil))))
  (pss_cons (ps_set (i := 4) sc_unpacked.nd rfl (Or.inr rfl) (pe_call (ok_settled T) (hr.mono (by decide)) rfl T.settled.g T.settled.F.kp (b_settled T) .nil pass0 (pa_cons (pe_fld (pv 0) rfl) (pa_cons (pv 2) pa_nil))))
  (pss_cons (ps_set (i := 5) sc_unpacked.nd rfl (Or.inl rfl) (pe_callBK (r := rSortedKw K true [.bl true]) cr_sortedRev rfl T.n_sorted bo_sorted (pa_cons (pe_callTy (r := rListD) (call_list_dK rfl) rfl T.n_list bo_list (pa_cons (pv 4) pa_nil)) pa_nil) (pk_cons pe_bl pk_nil)))
  (pss_one (ps_ret (pe_callTy (r := rTupOf K) call_tuple_of rfl T.n_tuple bo_tuple (pa_cons (pe_lc (own := [("code", 6)]) rfl sc_unpacked.nd (pi_list (pv 5)) (blkOk_by (own := [("code", 6)]) (N := N_unpacked) (sc := defScope s_unpacked) (by decide +kernel)) (fun _ _ _ _ _ => (pg_name (i := 6) sc_unpacked.nd rfl (Or.inl rfl))) (fun _ _ _ _ _ => pts_nil) (fun _ _ _ _ _ => (pe_tup (pa_cons (pe_call (ok_make_number T) (hr.mono (by decide)) rfl T.make_number.g T.make_number.F.kp (b_make_number T) .nil pass0 (pa_cons (pe_fldK (K := K) rfl (pv 0) rfl) (pa_cons (pe_dget (Nat.lt_of_le_of_lt (Nat.add_le_add_left (show 1 ≤ 64 by decide) _) hr.units) (pv 4) (pv 6) (fun _ _ => rfl)) (pa_cons (pv 3) pa_nil)))) (pa_cons (pe_meth (pv 0) T.Coding.cls T.m_exponents (ok_Coding_exponents T) (hr.mono (by decide)) (b_Coding_exponents T) .nil pass0 (pa_cons (pv 6) pa_nil)) pa_nil))))) pa_nil))))))), ?_⟩
    walk_at "rd"
    refine ⟨p, _, rfl, .inl (.inl hp), rfl, ?_⟩
    walk_at "rd"
    refine ⟨_, _, _, _, _, rfl, c1, T.Coding.cls, T.Coding.n_field, cf, ?_⟩
    walk_at "rd"
    refine ⟨f, d, n, rowsL n o, Tb, rfl, hF, hj, hd, hnd, fun t ht => (hm t ht).1, hlen, fun d' H1 hd' _ s1 => ?_⟩
    walk_at "rd"
    obtain ⟨S, eS⟩ : ∃ S, S = setT f Tb := ⟨_, rfl⟩
    have ndS : NdT S := by rw [eS]; exact set_nd hnd
    have mS : ∀ t ∈ S, Mon n t.2 ∧ t.1.natAbs < S3 + 31 := fun t ht => by
      rw [eS] at ht
      obtain ⟨_, _, u, hu, e, b⟩ := set_range hF ht
      rw [← e]
      have := (hm u hu).2
      exact ⟨(hm u hu).1, by omega⟩
    have lS : S.length ≤ 100000 := by rw [eS]; exact Nat.le_trans (set_len f Tb) hlen
    rw [← eS] at hd'
    obtain ⟨L, eL⟩ : ∃ L, L = unpL f n o Tb B := ⟨_, rfl⟩
    have pL : L.Perm (S.map fun t => (mkN f t.1 B, t.2)) := by rw [eL, eS]; exact sortT_perm n o _
    have inL : ∀ u ∈ L, ∃ t ∈ S, u = (mkN f t.1 B, t.2) := fun u hu => by
      obtain ⟨t, ht, e⟩ := List.mem_map.mp (pL.mem_iff.mp hu)
      exact ⟨t, ht, e.symm⟩
    have lL : L.length ≤ 100000 := by rw [pL.length_eq, List.length_map]; exact lS
    refine ⟨d', kvT n (rowsL n o) S, rfl, hd', fun q hq => ?_⟩
    have eq0 : (kvT n (rowsL n o) S).map (fun kv => kV kv.1) = (S.map fun t => codeR n (rowsL n o) t.2).map V.int := by
      unfold kvT
      rw [List.map_map, List.map_map]
      rfl
    rw [eq0]
    have s2 := same_upd (o := .lst ((S.map fun t => codeR n (rowsL n o) t.2).map V.int)) hq
    walk_at "rd"
    refine ⟨q, S.map fun t => codeR n (rowsL n o) t.2, rfl, rfl, .inl (.inl upd_same), fun ns p2 perm ord hp2 => ?_⟩
    have ens : ns = L.map fun u => codeR n (rowsL n o) u.2 := by
      refine perm_pair_eq (fun x : Int => x) ?_ ?_ ?_ fun x _ y _ e => e
      · refine perm.trans ?_
        have := (pL.map fun u : Tm => codeR n (rowsL n o) u.2).symm
        rw [List.map_map] at this
        exact this
      · have : ns.Pairwise (· ≥ ·) := by unfold OrdB at ord; simpa using ord
        exact this.imp fun h => h
      · rw [List.pairwise_map, eL]
        exact sortT_pair n o _
    rw [ens]
    obtain ⟨G, eG⟩ : ∃ G, G = upd (upd H1 q (.lst ((S.map fun t => codeR n (rowsL n o) t.2).map V.int))) p2 (.lst ((L.map fun u => codeR n (rowsL n o) u.2).map V.int)) := ⟨_, rfl⟩
    have s1G : Same H1 G := by rw [eG]; exact Same.trans s2 (same_upd hp2)
    have Gp : G p2 = some (.lst ((L.map fun u => codeR n (rowsL n o) u.2).map V.int)) := by rw [eG]; exact upd_same
    have Gd := s1G _ _ hd'
    have sHG := Same.trans s1 s1G
    rw [← eG]
    walk_at "rd"
    refine ⟨⟨_, .inl (.inl Gp)⟩, fun D hD => ?_⟩
    refine lc_list (K := K) (a := p2) (xs := (L.map fun u => codeR n (rowsL n o) u.2).map V.int) (fun i H5 => ∃ ys, Same G H5 ∧ H5 D = some (.lst ys) ∧ Paired (fun y u => TermV K H5 f y u) ys (L.take i)) ⟨[], same_upd hD, upd_same, .nil⟩ (fun i H5 _ q => by obtain ⟨_, q, _⟩ := q; exact .inl (.inl (q _ _ Gp))) (fun i x H5 hx q => ?_) (fun H5 q => ?_)
    · obtain ⟨ys, s5, hD5, hp5⟩ := q
      have hi : i < L.length := by
        have := (List.getElem?_eq_some_iff.mp hx).1
        simpa using this
      have eu : L[i]? = some L[i] := List.getElem?_eq_getElem hi
      rw [List.getElem?_map, List.getElem?_map, eu] at hx
      obtain rfl := (Option.some.inj hx).symm
      obtain ⟨t, ht, et⟩ := inL _ (List.getElem_mem hi)
      have s05 := Same.trans sHG s5
      walk_at "rd"
      refine ⟨_, _, _, _, _, rfl, s05 _ _ c1, T.Coding.cls, T.Coding.n_field, cf, ?_⟩
      walk_at "rd"
      have u2 : L[i].2 = t.2 := by rw [et]
      have u1 : L[i].1 = mkN f t.1 B := by rw [et]
      obtain ⟨m1, m2⟩ := mS t ht
      have hgt : valV (kvT n (rowsL n o) S) (Sum.inl (codeR n (rowsL n o) L[i].2)) = some (V.int t.1) := by
        rw [kvT_val hj (by rw [u2]; exact m1) fun t ht => (mS t ht).1, u2, getI_mem ndS ht]
        rfl
      refine ⟨d', V.int t.1, rfl, ?_, ?_⟩
      · have := DGet.k (k := Sum.inl (codeR n (rowsL n o) L[i].2)) (s5 _ _ Gd)
        rw [hgt] at this
        exact this
      walk_at "rd"
      have b3 := s3_bb
      have b31 : 31 < S3 := by decide +kernel
      refine ⟨f, t.1, B, rfl, hF, by omega, by omega, fun _ => by omega, fun nv H6 hnv s6 => ?_⟩
      walk_at "rd"
      have s06 := Same.trans s05 s6
      refine ⟨_, _, _, rfl, s06 _ _ c1, cE, ?_⟩
      walk_at "rd"
      refine ⟨a, f, n, rowsL n o, L[i].2, rfl, h4, hrs, by rw [u2]; exact m1, CodO.sm hc s06, hcf.ex (LamX.ExtN.of s06), fun pm H7 hm7 s7 => ?_⟩
      walk_at "rd"
      refine ⟨two_line, fun pt hpt => ?_⟩
      have s57 := Same.trans (Same.trans s6 s7) (same_upd (o := .tup [nv, .ref pm]) hpt)
      have hD7 := s57 _ _ hD5
      have ll : ys.length < sizeLine := by
        have := Paired.length hp5
        rw [List.length_take] at this
        rw [sizeLine_eq]; omega
      have s7p := Same.trans s7 (same_upd (o := .tup [nv, .ref pm]) hpt)
      refine ⟨ys, hD7, ll, ys ++ [.ref pt], same_put hD (Same.trans s5 s57), upd_same, ?_⟩
      have tq : Tq H5 (upd (upd H7 pt (.tup [nv, .ref pm])) D (.lst (ys ++ [.ref pt]))) := (tq_same s57).trans (tq_upd hD7 trivial)
      have t6 : Tq H6 (upd (upd H7 pt (.tup [nv, .ref pm])) D (.lst (ys ++ [.ref pt]))) := (tq_same s7p).trans (tq_upd hD7 trivial)
      have t7 : Tq (upd H7 pt (.tup [nv, .ref pm])) (upd (upd H7 pt (.tup [nv, .ref pm])) D (.lst (ys ++ [.ref pt]))) := tq_upd hD7 trivial
      rw [List.take_succ, eu]
      refine paired_app (Paired.mapP hp5 fun _ _ z => z.tq tq) ⟨pt, pm, nv, rfl, t7.tp.sqt (.inl (.inl upd_same)), ?_, (t7 _ _).1 (same_upd hpt _ _ hm7)⟩
      rw [u1]
      exact hnv.tq t6
    · obtain ⟨ys, s5, hD5, hp5⟩ := q
      rw [List.length_map, List.length_map, List.take_length] at hp5
      walk_at "rd"
      refine ⟨D, ys, rfl, .inl ⟨.inl (.inl hD5), fun l hl => ?_⟩⟩
      have tq : Tq H5 (upd H5 l (.tup ys)) := tq_same (same_upd hl)
      rw [← eL] at k
      refine k _ _ ⟨l, ys, rfl, .inl (.inl upd_same), Paired.length hp5, fun i v u h1 h2 => ?_⟩ (Same.trans (Same.trans sHG s5) (same_upd hl))
      obtain ⟨u', g1, g2⟩ := paired_at hp5 h1
      rw [h2] at g1
      cases g1
      exact g2.tq tq
end

/-! ### powers of packed polynomials -/
def powT (f : Int) (n : Nat) (T : IT) : Nat → IT
  | 0 => [(1, List.replicate n 0)]
  | k + 1 => setT f (prodT (powT f n T k) T)
def PowOk (f : Int) (n : Nat) (T : IT) (B : Int) (e : Nat) : Prop := ∀ k, k < e → (∀ t ∈ powT f n T k, Mon n t.2 ∧ t.1.natAbs < SS) ∧ (∀ t ∈ powT f n T k, ∀ u ∈ T, Mon n (addM t.2 u.2)) ∧ (powT f n T k).length * T.length ≤ 100000 ∧ (B ^ k).natAbs < SS
theorem code_zero (n : Nat) (rs : List (List Int)) : codeR n rs (List.replicate n 0) = 0 := by
  unfold codeR
  have : ∀ (k : Nat) (us : List Int), dotZ (List.replicate k 0) us = 0 := fun k => by
    induction k with
    | zero => intro us; cases us <;> rfl
    | succ k ih =>
      intro us
      cases us with
      | nil => rfl
      | cons u us =>
        show 0 * u + dotZ (List.replicate k 0) us = 0
        rw [ih]; omega
  exact this n _
theorem PkV.lst {H : Hp} {n : Nat} {rs : List (List Int)} {v : V} {d l : Addr} {T : IT} {B : Int} {xs ys : List V} (h : PkV H n rs v d T B) (e : H l = some (.lst xs)) : PkV (upd H l (.lst ys)) n rs v d T B := by
  obtain ⟨p, e0, h1, h2⟩ := h
  refine ⟨p, e0, (upd_ne fun z => ?_).trans h1, (upd_ne fun z => ?_).trans h2⟩
  · rw [z, e] at h1; cases h1
  · rw [z, e] at h2; cases h2
section
variable {P : Program} {w : World} {K : PySem.W.Frag} {mg : Str → Option Value} {base : Heap}
def sp_powers_up_to : Sp := fun vs H Q _ => ∃ (f : Int) (v : V) (e n : Nat) (rs : List (List Int)) (d : Addr) (T : IT) (B : Int), vs = [.int f, v, .int e] ∧ IsF f ∧ CInj n rs ∧ e ≤ 12 ∧ PkV H n rs v d T B ∧ (∀ t ∈ T, Mon n t.2 ∧ t.1.natAbs < SS) ∧ B.natAbs < SS ∧ PowOk f n T B e ∧
  ∀ l ws H', H' l = some (.lst ws) → ws.length = e + 1 → (∀ (k : Nat) (x : V), ws[k]? = some x → ∃ d', PkV H' n rs x d' (powT f n T k) (B ^ k)) → Same H H' → Q (.ref l) H'
theorem ok_powers_up_to (T : Txt K mg) : FnOk P w K mg base CX0 4 T.powers_up_to.f T.powers_up_to.fd P_powers_up_to sp_powers_up_to := by
  refine T.powers_up_to.F.ok sc_powers_up_to (fun vs H Q E h => ?_) (fun cdv A outer s H vs Q E hr h => ?_)
  · obtain ⟨f, v, e, n, rs, d, Tb, B, rfl, _⟩ := h; rfl
  · obtain ⟨f, v, e, n, rs, d, Tb, B, rfl, hF, hj, he, hv, hT, hB, hpow, k⟩ := h
    have hdd : ∃ o, H d = some o := by obtain ⟨p, _, _, h⟩ := hv; exact ⟨_, h⟩
    refine ⟨_, (pss_cons (ps_set (i := 3) sc_powers_up_to.nd rfl (Or.inl rfl) (pe_lst (pa_cons (pe_tup (pa_cons (pe_disp (pps_cons pe_int pe_int pps_nil) rfl rfl (by simp) (by decide)) (pa_cons pe_int pa_nil))) pa_nil)))
  (pss_cons (ps_for PassesOwn.never rfl (pi_range1 rfl T.n_range (pa_cons (pv 2) pa_nil)) (pg_name (i := 4) sc_powers_up_to.nd rfl (Or.inl rfl)) (pss_one (ps_expr (pe_bm PySem.F.plainAttrs_list PySem.F.slot_list_append PySem.F.type_list_append mt_append (pv 3) (pa_cons (pe_call (ok_packed_product T) (hr.mono (by decide)) rfl T.packed_product.g T.packed_product.F.kp (b_packed_product T) .nil pass0 (pa_cons (pv 0) (pa_cons (pe_ix (r := rIxL K) ix_list (pv 3) (pe_un un_neg pe_int) (fun _ _ => rfl)) (pa_cons (pv 1) pa_nil)))) pa_nil)))))
  (pss_one (ps_ret (pv 3))))), ?_⟩
    walk_at "rd"
    intro d0 hd0
    walk_at "rd"
    refine ⟨upd_same, [(Sum.inl 0, V.int 1)], rfl, (show 1 ≤ 15 by decide), ?_⟩
    walk_at "rd"
    refine ⟨two_line, fun p0 hp0 => ?_⟩
    walk_at "rd"
    refine ⟨(show 1 ≤ sizeLine by decide), fun l hl => ?_⟩
    obtain ⟨H0, eH0⟩ : ∃ H0, H0 = upd (upd (upd H d0 (.dK [])) d0 (.dK (mergeK [] [(Sum.inl 0, V.int 1)]))) p0 (.tup [.ref d0, .int 1]) := ⟨_, rfl⟩
    have s0a : Same H (upd (upd H d0 (.dK [])) d0 (.dK (mergeK [] [(Sum.inl 0, V.int 1)]))) := same_put hd0 (same_upd hd0)
    have s0 : Same H H0 := by rw [eH0]; exact Same.trans s0a (same_upd hp0)
    have n0 : p0 ≠ d0 := fun z => by rw [z, upd_same] at hp0; cases hp0
    have P0 : PkV H0 n rs (.ref p0) d0 (powT f n Tb 0) (B ^ 0) := by
      refine ⟨p0, rfl, by rw [eH0, Int.pow_zero]; exact upd_same, ?_⟩
      rw [eH0, upd_ne n0.symm, upd_same]
      show some (HO.dK [(Sum.inl 0, V.int 1)]) = some (HO.dK [(Sum.inl (codeR n rs (List.replicate n 0)), V.int 1)])
      rw [code_zero]
    rw [← eH0] at hl ⊢
    have hl0 : H l = none := none_back s0 hl
    walk_at "rd"
    refine ⟨by omega, by omega, for_range (lo := 0) (n := e) (fun i σ Hx => (Same H Hx ∧ ∃ ws, Hx l = some (.lst ws) ∧ ws.length = i + 1 ∧ ∀ (k : Nat) (x : V), ws[k]? = some x → ∃ d', PkV Hx n rs x d' (powT f n Tb k) (B ^ k) ∧ H d' = none) ∧ ∃ y, σ = [some (.int f), some v, some (.int (e : Int)), some (.ref l), y]) ⟨⟨Same.trans s0 (same_upd hl), _, upd_same, rfl, fun k x hx => ?_⟩, none, rfl⟩ ?_ ?_⟩
    · match k, hx with
      | 0, hx =>
        obtain rfl : V.ref p0 = x := Option.some.inj hx
        exact ⟨d0, P0.same (same_upd hl), hd0⟩
      | k + 1, hx => simp at hx
    · rintro i σ Hx hi ⟨⟨sx, ws, hw, hwl, hws⟩, y, rfl⟩
      obtain ⟨p1, p2, p3, p4⟩ := hpow i hi
      walk_at "rd"
      refine ⟨.inl ⟨rfl, _, .inl (.inl hw)⟩, ?_⟩
      walk_at "rd"
      obtain ⟨ini, z, rfl⟩ : ∃ ini z, ws = ini ++ [z] := by
        have hne : ws ≠ [] := fun z => by rw [z] at hwl; simp at hwl
        exact ⟨ws.dropLast, ws.getLast hne, (List.dropLast_concat_getLast hne).symm⟩
      have hil : ini.length = i := by simpa using hwl
      refine ⟨l, ini ++ [z], _, z, rfl, rfl, .inl (.inl hw), at_last, ?_⟩
      obtain ⟨d', P', hd'⟩ := hws i z (by rw [← hil]; simp)
      have hv' := hv.same sx
      have ndd : d' ≠ d := fun z => by
        obtain ⟨o, ho⟩ := hdd
        rw [z, ho] at hd'; cases hd'
      walk_at "rd"
      refine ⟨f, z, v, n, rs, d', d, powT f n Tb i, Tb, B ^ i, B, rfl, hF, hj, P', hv', ndd, p1, hT, p2, p3, p4, hB, fun r d2 H3 P3 hd2 s3 => ?_⟩
      have h3l := s3 _ _ hw
      walk_at "rd"
      refine ⟨l, ini ++ [z], r, rfl, rfl, h3l, by rw [hwl, sizeLine_eq]; omega, ⟨same_put hl0 (Same.trans sx s3), (ini ++ [z]) ++ [r], upd_same, by rw [List.length_append, hwl]; rfl, fun k x hx => ?_⟩, _, rfl⟩
      by_cases hk : k < (ini ++ [z]).length
      · rw [List.getElem?_append_left hk] at hx
        obtain ⟨d3, P4, hd3⟩ := hws k x hx
        exact ⟨d3, (P4.same s3).lst h3l, hd3⟩
      · rw [List.getElem?_append_right (by omega)] at hx
        have ek : k = i + 1 := by
          have := (List.getElem?_eq_some_iff.mp hx).1
          simp at this hk
          omega
        subst ek
        rw [hwl, Nat.sub_self] at hx
        obtain rfl : r = x := Option.some.inj hx
        refine ⟨d2, ?_, none_back sx hd2⟩
        rw [Int.pow_succ]
        exact P3.lst h3l
    · rintro σ Hx ⟨⟨sx, ws, hw, hwl, hws⟩, y, rfl⟩
      walk_at "rd"
      exact k l ws Hx hw hwl (fun k x hx => by obtain ⟨d', a, _⟩ := hws k x hx; exact ⟨d', a⟩) sx
end

/-- the list pv holds the terms ts -/
def PolyL (K : PySem.W.Frag) (H : Hp) (f : Int) (pv : V) (ts : List Tm) : Prop := ∃ (pa : Addr) (vs : List V), pv = .ref pa ∧ H pa = some (.lst vs) ∧ vs.length = ts.length ∧ ∀ (i : Nat) (v : V) (t : Tm), vs[i]? = some v → ts[i]? = some t → TermV K H f v t
section
variable {P : Program} {w : World} {K : PySem.W.Frag} {mg : Str → Option Value} {base : Heap}
def sp_sum_of_list (C : Addr) (t : TabsAt) (K : PySem.W.Frag) : Sp := fun vs H Q _ => ∃ (a : Addr) (f : Int) (n : Nat) (rs : List (List Int)) (v : V) (ts : List Tm), vs = [.ref a, v] ∧ n ≤ 4 ∧ RowsOk n rs ∧ IsF f ∧ CodO C K H a n rs ∧ CodF C H a f ∧ PolyL K H f v ts ∧ ts.length ≤ 5000 ∧ (∀ u ∈ ts, TermOk f n u) ∧ SumOk f ts ∧ TS t H ∧
  ∀ v' H', Ex t H H' → PolyV K H' f v' (polyL f n rs ts) → Q v' H'
theorem ok_sum_of_list (T : Txt K mg) {t : TabsAt} (B : TBs T base t) : FnOk P w K mg base CX0 16 T.sum_of_terms.f T.sum_of_terms.fd P_sum_of_terms (sp_sum_of_list T.Coding.C t K) := by
  refine okC T.sum_of_terms.F B.h_sum_of_terms sc_sum_of_terms (fun vs H Q E h => ?_) (fun A outer s H vs Q E hr h => ?_)
  · obtain ⟨a, f, n, rs, v, ts, rfl, _⟩ := h; rfl
  · obtain ⟨a, f, n, rs, v, ts, rfl, hn4, hrs, hF, hc, hcf, hp, hlen, hok, hsum, tsH, k⟩ := h
    obtain ⟨pa, vs, rfl, hP, hvl, hT⟩ := id hp
    obtain ⟨dx, fs, c1, cf, _⟩ := id hcf
    refine ⟨_, (pss_cons (ps_set (i := 2) sc_sum_of_terms.nd rfl (Or.inl rfl) (pe_fld (pv 0) rfl))
  (pss_cons (ps_set (i := 3) sc_sum_of_terms.nd rfl (Or.inl rfl) pe_dnewT)
  (pss_cons (ps_for PassesOwn.never rfl (pi_list (pv 1)) (pg_tup rfl (pgs_cons (pg_name (i := 4) sc_sum_of_terms.nd rfl (Or.inl rfl)) (pgs_cons (pg_name (i := 5) sc_sum_of_terms.nd rfl (Or.inl rfl)) pgs_nil))) (pss_cons (ps_if (pt_cmp (pc_din (Nat.lt_of_le_of_lt (Nat.add_le_add_left (show 1 ≤ 64 by decide) _) hr.units) (pv 5) (pv 3))) (pss_one (ps_set (i := 4) sc_sum_of_terms.nd rfl (Or.inl rfl) (pe_call (ok_add_numbers T) (hr.mono (by decide)) rfl T.add_numbers.g T.add_numbers.F.kp (b_add_numbers T) .nil pass0 (pa_cons (pv 2) (pa_cons (pe_dget (Nat.lt_of_le_of_lt (Nat.add_le_add_left (show 1 ≤ 64 by decide) _) hr.units) (pv 3) (pv 5) (fun _ _ => rfl)) (pa_cons (pv 4) pa_nil)))))) pss_nil)
  (pss_one (ps_dput (Nat.lt_of_le_of_lt (Nat.add_le_add_left (show 1 ≤ 64 by decide) _) hr.units) (pv 3) (pv 5) (pv 4) rfl))))
  (pss_cons (ps_set (i := 6) sc_sum_of_terms.nd rfl (Or.inr rfl) (pe_call (ok_zero_of T) (hr.mono (by decide)) rfl T.zero_of.g T.zero_of.F.kp (b_zero_of T) .nil pass0 (pa_cons (pv 2) pa_nil)))
  (pss_cons (ps_lock (ps_setLc (i := 7) (own := [("monomial", 5), ("number", 4)]) rfl sc_sum_of_terms.nd rfl rfl (sw_true rfl rfl rfl (by decide +kernel)) (pi_itemsT (pv 3)) (blkOk_by (own := [("monomial", 5), ("number", 4)]) (N := N_sum_of_terms) (sc := defScope s_sum_of_terms) (by decide +kernel)) (fun _ _ _ _ _ => (pg_tupK (K := K) (n := 2) rfl rfl (pgs_cons (pg_name (i := 5) sc_sum_of_terms.nd rfl (Or.inl rfl)) (pgs_cons (pg_name (i := 4) sc_sum_of_terms.nd rfl (Or.inl rfl)) pgs_nil)))) (fun _ _ _ _ _ => pts_one (pt_cmpR (r := rNeD K) (op_neD hr.units) (pv 4) (pv 6) (nomark _))) (fun _ _ _ _ _ => (pe_tup (pa_cons (pv 4) (pa_cons (pv 5) pa_nil))))))
  (pss_one (ps_ret (pe_callTy (r := rTupOf K) call_tuple_of rfl T.n_tuple bo_tuple (pa_cons (pe_sortFR hr rfl T.n_sorted bo_sorted (pv 7) (pe_lamF (T := lamT "sum_of_terms" (t.a "sum_of_terms")) B.b_sum_of_terms rfl (List.mem_cons_self) (fun p hp _ => by unfold lamT at hp; rw [List.mem_singleton] at hp; subst hp; rfl) free_sum_of_terms)) pa_nil))))))))), ?_⟩
    walk_at "rd"
    refine ⟨_, _, _, _, _, rfl, c1, T.Coding.cls, T.Coding.n_field, cf, ?_⟩
    walk_at "rd"
    intro d hd
    walk_at "rd"
    refine ⟨⟨vs, .inl (.inl (same_upd hd _ _ hP))⟩, ?_⟩
    refine for_list (K := K) (a := pa) (xs := vs) (fun i σ H' => Ex t H H' ∧ (∃ y z, σ = [some (.ref a), some (.ref pa), some (.int f), some (.ref d), y, z, none, none]) ∧ ∃ kvs, H' d = some (.dT kvs) ∧ KVs H' f kvs ((ts.take i).foldl (addT f) []))
      ⟨Ex.of tsH (same_upd hd), ⟨_, _, rfl⟩, [], upd_same, .nil⟩ (fun i σ H' _ q => (.inl (.inl (q.1.keep _ _ hP fun ps z => by cases z)))) (fun i x σ H' hx q => ?_) (fun σ H' q => ?_)
    · obtain ⟨x1, ⟨y, z, rfl⟩, kvs, hkv, hK⟩ := q
      have hi : i < ts.length := by rw [← hvl]; exact (List.getElem?_eq_some_iff.mp hx).1
      obtain ⟨tp, M, nv, rfl, h1, h2, h3⟩ := (hT i x ts[i] hx (List.getElem?_eq_getElem hi)).ex x1.keep
      obtain ⟨o1, o2⟩ := hok _ (List.getElem_mem hi)
      have hkl : kvs.length ≤ i := by rw [kvs_len hK]; exact len_fold f ts i
      have e3 : H' M = some (.tup ((inlK ts[i].2).map kV)) := by rw [inlK_kV]; exact h3
      have stepK : ∀ (v' : V) (x' : Int × Int) (H2 : Hp), Same H' H2 → NumV H2 f v' x' → addT f ((ts.take i).foldl (addT f) []) ts[i] = putM ((ts.take i).foldl (addT f) []) ts[i].2 x' →
          ∃ H4, DPut H2 d (.ref M) v' H4 ∧ Ex t H H4 ∧ ∃ kvs, H4 d = some (.dT kvs) ∧ KVs H4 f kvs ((ts.take (i + 1)).foldl (addT f) []) := fun v' x' H2 s2 nx e => by
        have hd2 := s2 _ _ hkv
        refine ⟨_, DPut.t hd2 (s2 _ _ e3) (by rw [sizeLine_eq]; omega), (x1.same s2).put (NT.of hd) hd2 (fun _ z => by cases z) (fun _ z => by cases z), _, upd_same, ?_⟩
        rw [fold_take f ts i _ (List.getElem?_eq_getElem hi), e]
        have tq : Tq H2 (upd H2 d (.dT (putK kvs (inlK ts[i].2) v'))) := tq_upd hd2 trivial
        exact kvs_put ((hK.tq (tq_same s2)).tq tq) (nx.tq tq)
      walk_at "rd"
      refine ⟨tp, _, rfl, h1, rfl, ?_⟩
      walk_at "rd"
      refine ⟨d, _, rfl, DGet.t hkv e3, _, rfl, ?_⟩
      rcases kvs_get (m := ts[i].2) hK with ⟨g1, g2⟩ | ⟨v0, x0, g1, g2, g3⟩
      · rw [g1]
        refine iteF ?_
        walk_at "rd"
        obtain ⟨H4, q1, q2, q3⟩ := stepK nv ts[i].1 H' (Same.refl _) h2 (addT_none g2)
        exact ⟨d, H4, rfl, q1, q2, ⟨_, _, rfl⟩, q3⟩
      · rw [g1]
        refine iteT ?_
        walk_at "rd"
        refine ⟨d, v0, rfl, ?_, ?_⟩
        · have := DGet.t hkv e3
          rw [g1] at this
          exact this
        walk_at "rd"
        have hmem : ∃ e ∈ (ts.take i).foldl (addT f) [], e.2 = x0 := by
          have go : ∀ {al : Al2} {m : List Int}, getM al m = some x0 → ∃ e ∈ al, e.2 = x0 := by
            intro al m
            induction al with
            | nil => intro z; cases z
            | cons e al ih =>
              intro z
              unfold getM at z
              by_cases he : e.1 = m
              · rw [if_pos he] at z; exact ⟨e, List.mem_cons_self, Option.some.inj z⟩
              · rw [if_neg he] at z
                obtain ⟨e', q1, q2⟩ := ih z
                exact ⟨e', List.mem_cons_of_mem _ q1, q2⟩
          exact go g2
        obtain ⟨e0, m0, rfl⟩ := hmem
        refine ⟨f, v0, nv, e0.2, ts[i].1, rfl, hF, g3, h2, hsum i e0 m0, o1, fun v' H2 nx s2 => ?_⟩
        walk_at "rd"
        obtain ⟨H4, q1, q2, q3⟩ := stepK v' _ H2 s2 nx (addT_some g2)
        exact ⟨d, H4, rfl, q1, q2, ⟨_, _, rfl⟩, q3⟩
    · obtain ⟨x1, ⟨y, z, rfl⟩, kvs, hkv, hK⟩ := q
      rw [hvl, List.take_length] at hK
      walk_at "rd"
      intro zv H2 nz s2
      have hd2 := s2 _ _ hkv
      have hK2 := hK.tq (tq_same s2)
      walk_at "rd"
      refine ⟨d, _, hd2, trivial, fun od => ?_⟩
      obtain ⟨G, eG⟩ : ∃ G, G = upd H2 d (.frz od (.dT kvs)) := ⟨_, rfl⟩
      have Gd : G d = some (.frz od (.dT kvs)) := by rw [eG]; exact upd_same
      have gq : Tq H2 G := by rw [eG]; exact tq_upd hd2 trivial
      rw [← eG]
      walk_at "rd"
      refine ⟨d, od, kvs, rfl, Gd, fun D hD => ?_⟩
      have hKl : kvs.length = (sumL f ts).length := kvs_len hK2
      have hsl : (sumL f ts).length ≤ 5000 := Nat.le_trans (sum_len f ts) hlen
      refine lc_it (walk_itemsT) (fun i H5 => ∃ ys, Same G H5 ∧ H5 D = some (.lst ys) ∧ Paired (fun y u => TermV K H5 f y u) ys (keepOf ((sumL f ts).take i))) ⟨[], same_upd hD, upd_same, .nil⟩ (fun i H5 _ q => by obtain ⟨_, q, _⟩ := q; exact q _ _ Gd) (fun i x H5 H6 hi q y => ?_) (fun H5 q => ?_)
      · obtain ⟨ys, s5, hD5, hp5⟩ := q
        obtain ⟨Tt, q0, ky, v, e1, rfl, e2, e3, rfl⟩ := y
        obtain ⟨em, e4, ⟨e5, e6⟩⟩ := paired_at hK2 e1
        have e5 : ky = inlK em.1 := e5
        have e6 : NumV H2 f v em.2 := e6
        subst e5
        have hm : em ∈ sumL f ts := List.mem_of_getElem? e4
        have oke : NumOk f em.2 := by
          have := hsum ts.length em
          rw [List.take_length] at this
          exact this hm
        have s6 : Same H5 (upd H5 Tt (.tup [.ref q0, v])) := same_upd e3
        refine ⟨Tt, _, rfl, .inl (.inl upd_same), rfl, ?_⟩
        walk_at "rd"
        have nv6 := ((e6.tq gq).tq (tq_same s5)).tq (tq_same s6)
        have nz6 := (((nz).tq gq).tq (tq_same s5)).tq (tq_same s6)
        refine ⟨_, _, nv6.dp, nz6.dp, numD_shaped _ _, numD_shaped _ _, ?_⟩
        rw [numD_zero oke]
        refine ⟨_, rfl, ?_⟩
        refine iteDn (fun g => ?_) (fun g => ?_)
        · walk_at "rd"
          refine ⟨two_line, fun p hp => ?_⟩
          have s7 : Same H5 (upd (upd H5 Tt (.tup [.ref q0, v])) p (.tup [v, .ref q0])) := Same.trans s6 (same_upd hp)
          refine ⟨ys, s7 _ _ hD5, ?_, _, ?_, upd_same, ?_⟩
          · have hl : ys.length = (keepOf ((sumL f ts).take i)).length := Paired.length hp5
            have : (keepOf ((sumL f ts).take i)).length ≤ 5000 := by
              unfold keepOf
              rw [List.length_map]
              refine Nat.le_trans (List.length_filter_le _ _) ?_
              rw [List.length_take]
              omega
            rw [sizeLine_eq]; omega
          · intro b o e
            have nb : b ≠ D := fun z => by
              subst z
              rw [hD] at e; cases e
            exact (upd_ne nb).trans (s7 _ _ (s5 _ _ e))
          · rw [keep_step (sumL f ts) i em e4, if_pos g]
            have tq : Tq H5 (upd (upd (upd H5 Tt (.tup [.ref q0, v])) p (.tup [v, .ref q0])) D (.lst (ys ++ [.ref p]))) := (tq_same s7).trans (tq_upd (s7 _ _ hD5) trivial)
            have t2 : Tq (upd H5 Tt (.tup [.ref q0, v])) (upd (upd (upd H5 Tt (.tup [.ref q0, v])) p (.tup [v, .ref q0])) D (.lst (ys ++ [.ref p]))) := (tq_new hp).trans (tq_upd (s7 _ _ hD5) trivial)
            have nD : p ≠ D := fun z => by
              subst z
              rw [s6 _ _ hD5] at hp; cases hp
            refine paired_app (Paired.mapP hp5 fun _ _ z => z.tq tq) ⟨p, q0, v, rfl, .inl (.inl ((upd_ne nD).trans upd_same)), nv6.tq t2, ?_⟩
            show _ = some (HO.tup (em.1.map V.int))
            rw [← inlK_kV]
            exact (tq _ _).1 e2
        · refine ⟨ys, fun b o e => s6 _ _ (s5 _ _ e), s6 _ _ hD5, ?_⟩
          rw [keep_step (sumL f ts) i em e4, if_neg (by omega), List.append_nil]
          exact Paired.mapP hp5 fun _ _ z => z.tq (tq_same s6)
      · obtain ⟨ys, s5, hD5, hp5⟩ := q
        rw [hKl, List.take_length] at hp5
        have Hd5 := s5 _ _ Gd
        refine ⟨Hd5, ?_⟩
        obtain ⟨U, eU⟩ : ∃ U, U = upd H5 d (.dT kvs) := ⟨_, rfl⟩
        have sU : Same H2 U := fun b o e => by
          rw [eU]
          by_cases hb : b = d
          · subst hb
            rw [hd2] at e
            cases e
            exact upd_same
          · refine (upd_ne hb).trans (s5 _ _ ?_)
            rw [eG]
            exact (upd_ne hb).trans e
        have nDd : D ≠ d := fun z => by
          subst z
          rw [Gd] at hD; cases hD
        have UD : U D = some (.lst ys) := by rw [eU]; exact (upd_ne nDd).trans hD5
        have uq : Tq H5 U := by rw [eU]; exact tq_upd Hd5 trivial
        have xU : Ex t H U := (x1.same s2).same sU
        have hpU : Paired (fun y u => TermV K U f y u) ys (keptL f ts) := Paired.mapP hp5 fun _ _ z => z.tq uq
        rw [← eU]
        walk_at "rd"
        refine ⟨xU.ts.l _ lx_sum, fun g c' H3 kb e3 t3 g1 cc1 => ?_⟩
        have x3 : Ex t U H3 := by
          obtain ⟨ps, q1, _⟩ := xU.ts.l _ lx_sum _ List.mem_cons_self
          exact ⟨e3, xU.ts.lam lx_sum gx_sum kb t3 ⟨ps, q1⟩⟩
        have c3 : CodO T.Coding.C K H3 a n rs := (CodO.ex xU hc).ex x3
        have hp3 : Paired (fun y u => TermV K H3 f y u) ys (keptL f ts) := Paired.mapP hpU fun _ _ z => z.ex x3.keep
        have el : H3 D = some (.lst ys) := e3 _ _ UD fun _ z => nomatch z
        obtain ⟨z1, z2, z3⟩ := zip_paired hp3
        obtain ⟨cs, ecs⟩ : ∃ cs, cs = ys.zip (keptL f ts) := ⟨_, rfl⟩
        rw [← ecs] at z1 z2 z3
        have cok : ∀ c ∈ cs, Mon n c.2.2 := fun c hc => by
          have hm : c.2 ∈ keptL f ts := by rw [← z2]; exact List.mem_map_of_mem hc
          unfold keptL at hm
          obtain ⟨e, he, q⟩ := List.mem_map.mp hm
          have := sum_key (f := f) (p := fun m => Mon n m) (fun u hu => (hok u hu).2) e (List.mem_filter.mp he).1
          rw [← q]
          exact this
        refine ⟨D, g, cs.map fun c => (c.1, codeR n rs c.2.2), rfl, rfl, .inl (.inl ?_), ?_, fun p hp => ?_⟩
        · rw [el, ← z1, List.map_map]
          rfl
        · intro Φ pins t1 Sx I hΦ b hb u ru
          obtain ⟨c, hcc, rfl⟩ := List.mem_map.mp hb
          obtain ⟨tp, M, nv, e0, h1, _, h3⟩ := z3 c hcc
          have ru : RelV c.1 u := ru
          rw [e0] at ru
          obtain rfl : u = Value.ref tp := ru
          obtain ⟨its, rvs, ⟨ot, ot1, ot2⟩, hz⟩ := I.tuple h1
          have eM : its.toArray[1]? = some (Value.ref M) ∧ its.toArray.size ≤ sizeLine := by
            cases rvs with
            | cons r1 t1 =>
              cases t1 with
              | cons r2 t2 =>
                cases t2
                exact ⟨by rw [← (show _ = Value.ref M from r2)]; rfl, two_line⟩
          obtain ⟨⟨pm, ctv, og⟩, _, _⟩ := I.hok g _ g1
          obtain ⟨⟨oc, cvs, tt, o1, o2, o3⟩, _, _⟩ := I.hok c' _ cc1
          have hcell : t1.heap.IsCell (s.heap.objs.size + 1) (some (.ref a)) := by
            obtain ⟨m, _, hl⟩ := I.loc
            obtain ⟨u, ru, lk⟩ := hl 0 "coding" (.ref a) rfl rfl (.inr (.inl rfl))
            obtain rfl : u = Value.ref a := ru
            rcases lk with ⟨z, _⟩ | ⟨_, c0, z1, z2⟩
            · cases z
            · cases z1
              exact z2
          refine pf_lam1 Sx (fun h q => ⟨pm, ctv, hΦ h q _ _ og⟩) (fun h q => ⟨oc, cvs, tt, hΦ h q _ _ o1, o2, o3⟩) rfl rfl rfl (by decide) (x := "term") rfl (fun _ _ => rfl) (Nat.lt_of_le_of_lt (Nat.le_add_right _ (3 * 15 + 5)) hr.dp) fun env ev hsc hcl => ?_
          have cO : ∀ h, Φ h → ∃ dx' mA, ObjM h a dx' T.Coding.C mA ∧ mA ("code" : Str) = Option.none := fun h q => by
            obtain ⟨dx', L', fs', rv', w1, _, _, _, _, _, w7⟩ := c3
            obtain ⟨mA, O, hr', _⟩ := ins_get I.hok w1
            obtain ⟨z1, z2, z3⟩ := O
            exact ⟨dx', mA, ⟨hΦ h q _ _ z1, z2.keeps fun b o e => hΦ h q b o e, z3⟩, RelO.none_of (by rw [← w7]; exact hr' _)⟩
          refine pu_meth (Rs := fun us => us = [Value.ref M]) Sx (pu_free ev (by rw [hsc]; rfl) (by rw [hcl]; rfl) fun h q => hcell.keeps fun b o e => hΦ h q b o e) T.Coding.cls T.Coding.m_code cO (fun pos A' E' s' w1 w2 w3 w4 w5 => wpAny_mono ((pua_cons Sx (pu_ix (j := 1) Sx (pu_name (x := "term") (u := .ref tp) ev (by rw [hsc]; rfl) rfl) pu_int (fun h q => ⟨ot, hΦ h q _ _ ot1, ot2⟩) eM.1 eM.2 (fun _ _ => rfl)) pua_nil) pos A' E' s' w1 w2 w3 w4 w5) (fun us s2 w => ?_) fun _ _ z => z) ?_
          · obtain ⟨⟨u0, v0, e0, e1, e2⟩, w⟩ := w
            exact ⟨by rw [e0, e1, e2], w⟩
          · rintro us rfl
            exact PuG.pos (code_pu T Sx hΦ I.hok I.kIn c3 (.inl (.inl h3)) (unit_mul hn4 hrs (cok _ hcc).1) (by have h := hr.dp; show (A.deeper _).depth + 1 + 8 < recursionLimit; omega) (by have h := hr.un; show (A.deeper _).units + 2 + 3 + 64 < cLine; omega)) Sx (b_Coding_code T) rfl
        · refine ⟨_, _, rfl, .inl ⟨.inl (.inl upd_same), fun l hl => ?_⟩⟩
          have s9 : Same H3 (upd (upd H3 p (.lst ((List.map (fun c => (c.1, codeR n rs c.2.2)) cs).mergeSort (PySem.W.dataLe true fun b => PyData.int b.2) |>.map (·.1)))) l (.tup ((List.map (fun c => (c.1, codeR n rs c.2.2)) cs).mergeSort (PySem.W.dataLe true fun b => PyData.int b.2) |>.map (·.1)))) := Same.trans (same_upd hp) (same_upd hl)
          have e1 : ((cs.map fun c => (c.1, codeR n rs c.2.2)).mergeSort (PySem.W.dataLe true fun b => PyData.int b.2)) = (cs.mergeSort fun a b => geT n rs a.2 b.2).map fun c => (c.1, codeR n rs c.2.2) :=
            (PySem.W.sort_maps (fun c : V × Tm => (c.1, codeR n rs c.2.2)) fun a _ b _ => (le_codes a b).symm).symm
          have e2' : (cs.mergeSort fun a b => geT n rs a.2 b.2).map (·.2) = polyL f n rs ts := by
            unfold polyL
            rw [← z2]
            exact PySem.W.sort_maps (fun c : V × Tm => c.2) fun _ _ _ _ => rfl
          refine k _ _ ((xU.trans x3).same s9) ⟨l, _, rfl, .inl (.inl upd_same), ?_, fun i v u h1 h2 => ?_⟩
          · rw [List.length_map, e1, List.length_map, ← e2', List.length_map]
          · rw [e1, List.map_map, List.getElem?_map] at h1
            rw [← e2', List.getElem?_map] at h2
            obtain ⟨c, hc1, rfl⟩ := Option.map_eq_some_iff.mp h1
            rw [hc1] at h2
            cases h2
            exact (z3 c ((List.mergeSort_perm _ _).mem_iff.mp (List.mem_of_getElem? hc1))).tq (tq_same s9)
end

/-! ### sums, products, powers, derivatives -/
theorem Same.ex {t : TabsAt} {H H' : Hp} (s : Same H H') (h : TS t H) : Ex t H H' := Ex.of h s
theorem own_num {f : Int} (hF : IsF f) {n : Nat} {ps : List Tm} (hok : ∀ u ∈ ps, TermOk f n u) (hd : DenOk ps) : ∀ t ∈ ownI (belowZ ps) ps, t.1.natAbs < 2 ^ 740 := fun t ht => by
  obtain ⟨u, hu, rfl⟩ := List.mem_map.mp ht
  obtain ⟨D, h0, h1, h2⟩ := hd
  have hp : ∀ u ∈ ps, 0 < u.1.2 := fun u hu => (hok u hu).1.n.pos
  have b0 := below_pos hp
  have b1 : belowZ ps < 2 ^ 64 := by
    have : lcmD 1 ps ∣ D := lcmD_min ps 1 (Nat.one_dvd _) h2
    have := Nat.le_of_dvd h0 this
    unfold belowZ
    omega
  have e1 : (belowZ ps / u.1.2).natAbs ≤ 2 ^ 64 := by
    have a1 : 0 ≤ belowZ ps / u.1.2 := Int.ediv_nonneg (by omega) (by have := hp u hu; omega)
    have a2 : belowZ ps / u.1.2 ≤ belowZ ps := Int.ediv_le_self _ (by omega)
    omega
  have e2 : u.1.1.natAbs ≤ 2 ^ 670 := by
    have hN : NBn ≤ 2 ^ 670 := by decide +kernel
    have h32 : (32 : Nat) ≤ 2 ^ 670 := by decide +kernel
    have o := (hok u hu).1
    unfold NumOk at o
    split at o
    · omega
    · have := hF.lt
      omega
  show (u.1.1 * (belowZ ps / u.1.2)).natAbs < _
  rw [Int.natAbs_mul]
  have h := Nat.mul_le_mul e2 e1
  have : (2 : Nat) ^ 670 * 2 ^ 64 < 2 ^ 740 := by decide +kernel
  omega
theorem bd_le {M : Nat} : ∀ {l : IT}, (∀ t ∈ l, t.1.natAbs ≤ M) → bd l ≤ l.length * M
  | [], _ => by show 0 ≤ _; omega
  | t :: l, h => by
    have := bd_le (M := M) (l := l) fun u hu => h u (List.mem_cons_of_mem _ hu)
    have h1 := h t List.mem_cons_self
    rw [bd_cons, List.length_cons, Nat.add_mul]
    omega
theorem below_lt {ps : List Tm} (hd : DenOk ps) : belowZ ps < 2 ^ 64 := by
  obtain ⟨D, h0, h1, h2⟩ := hd
  have : lcmD 1 ps ∣ D := lcmD_min ps 1 (Nat.one_dvd _) h2
  have := Nat.le_of_dvd h0 this
  unfold belowZ
  omega
section
variable {P : Program} {w : World} {K : PySem.W.Frag} {mg : Str → Option Value} {base : Heap}
def sp_plus (t : TabsAt) (K : PySem.W.Frag) : Sp := fun vs H Q _ => ∃ (f : Int) (n : Nat) (o : Ord) (v pw qw : V) (ps qs : List Tm), vs = [v, pw, qw] ∧ RgV K H v f n o ∧ PolyV K H f pw ps ∧ PolyV K H f qw qs ∧ PolyOk f n (rowsL n o) ps ∧ PolyOk f n (rowsL n o) qs ∧ SumOk f (ps ++ qs) ∧ TS t H ∧
  ∀ v' H', Ex t H H' → PolyV K H' f v' (polyL f n (rowsL n o) (ps ++ qs)) → Q v' H'
theorem polyV_app {H : Hp} {f : Int} {pa qa r : Addr} {xs ys : List V} {ps qs : List Tm} (hr : SqT K H r (xs ++ ys)) (hx : xs.length = ps.length) (hy : ys.length = qs.length) (h1 : ∀ (i : Nat) (v : V) (t : Tm), xs[i]? = some v → ps[i]? = some t → TermV K H f v t) (h2 : ∀ (i : Nat) (v : V) (t : Tm), ys[i]? = some v → qs[i]? = some t → TermV K H f v t) : PolyV K H f (.ref r) (ps ++ qs) := by
  refine ⟨r, xs ++ ys, rfl, hr, by rw [List.length_append, List.length_append, hx, hy], fun i v t a b => ?_⟩
  by_cases h : i < xs.length
  · rw [List.getElem?_append_left h] at a
    rw [List.getElem?_append_left (by omega)] at b
    exact h1 i v t a b
  · rw [List.getElem?_append_right (by omega)] at a
    rw [List.getElem?_append_right (by omega), ← hx] at b
    exact h2 _ v t a b
theorem ok_plus (T : Txt K mg) {t : TabsAt} (B : TBs T base t) : FnOk P w K mg base CX0 21 T.plus.f T.plus.fd P_plus (sp_plus t K) := by
  refine T.plus.F.ok sc_plus (fun vs H Q E h => ?_) (fun cdv A outer s H vs Q E hr h => ?_)
  · obtain ⟨f, n, o, v, pw, qw, ps, qs, rfl, _⟩ := h; rfl
  · obtain ⟨f, n, o, v, pw, qw, ps, qs, rfl, hv, hp, hq, op, oq, hs, tsH, k⟩ := h
    refine ⟨_, (pss_cons (ps_set (i := 3) sc_plus.nd rfl (Or.inl rfl) (pe_call (ok_check_two_polynomials T B) (hr.mono (by decide)) rfl T.check_two_polynomials.g T.check_two_polynomials.F.kp (b_check_two_polynomials T) .nil pass0 (pa_cons (pv 0) (pa_cons (pv 1) (pa_cons (pv 2) pa_nil)))))
  (pss_one (ps_ret (pe_call (ok_sum_of_terms T B) (hr.mono (by decide)) rfl T.sum_of_terms.g T.sum_of_terms.F.kp (b_sum_of_terms T) .nil pass0 (pa_cons (pv 3) (pa_cons (pe_op (r := rCatA K) op_catA (pv 1) (pv 2)) pa_nil)))))), ?_⟩
    walk_at "rd"
    refine ⟨f, n, o, v, pw, qw, ps, qs, rfl, hv, hp, hq, op, oq, tsH, fun a H1 x1 c1 c2 => ?_⟩
    obtain ⟨pa, xs, rfl, hP, hvl, hT⟩ := hp.ex x1.keep
    obtain ⟨qa, ys, rfl, hQ, hwl, hU⟩ := hq.ex x1.keep
    walk_at "rd"
    have hrs := rows_ok hv.h1 hv.h4 hv.ho
    have lp := op.1
    have lq := oq.1
    have fin : ∀ r H2, Same H1 H2 → SqT K H2 r (xs ++ ys) → PolyV K H2 f (.ref r) (ps ++ qs) := fun r H2 s2 h2 =>
      polyV_app (pa := pa) (qa := qa) h2 hvl hwl (fun i v t a b => (hT i v t a b).tq (tq_same s2)) fun i v t a b => (hU i v t a b).tq (tq_same s2)
    have go : ∀ r H2, Same H1 H2 → SqT K H2 r (xs ++ ys) → sp_sum_of_terms T.Coding.C t K [.ref a, .ref r] H2 Q E0 := fun r H2 s2 h2 => by
      have x2 := x1.same s2
      exact ⟨a, f, n, rowsL n o, .ref r, ps ++ qs, rfl, hv.h4, hrs, hv.hf.isF, CodO.sm c1 s2, c2.ex (LamX.ExtN.of s2), fin r H2 s2 h2, by rw [List.length_append]; omega, fun u hu => by
        rcases List.mem_append.mp hu with hu | hu
        · exact (op.2.1 u hu).1
        · exact (oq.2.1 u hu).1, hs, x2.ts, fun v' H3 x3 p3 => k v' H3 (x2.trans x3) p3⟩
    refine ⟨pa, qa, xs, ys, rfl, rfl, hP, hQ, by rw [sizeLine_eq]; omega, fun z => ?_, fun _ z => ?_, fun _ _ r hr => ?_⟩
    · exact go qa H1 (Same.refl _) (by rw [z]; exact hQ)
    · exact go pa H1 (Same.refl _) (by rw [z, List.append_nil]; exact hP)
    · exact go r _ (same_upd hr) (.inl (.inl upd_same))
def sp_times (t : TabsAt) (K : PySem.W.Frag) : Sp := fun vs H Q _ => ∃ (f : Int) (n : Nat) (o : Ord) (v pw qw : V) (ps qs : List Tm), vs = [v, pw, qw] ∧ RgV K H v f n o ∧ PolyV K H f pw ps ∧ PolyV K H f qw qs ∧ PolyOk f n (rowsL n o) ps ∧ PolyOk f n (rowsL n o) qs ∧ (ps.map (·.2)).Nodup ∧ (qs.map (·.2)).Nodup ∧ DenOk ps ∧ DenOk qs ∧ (∀ a ∈ ps, ∀ b ∈ qs, Mon n (addM a.2 b.2)) ∧ ps.length * qs.length ≤ 100000 ∧ TS t H ∧
  ∀ v' H', Ex t H H' → PolyV K H' f v' (unpL f n o (setT f (prodT (ownI (belowZ ps) ps) (ownI (belowZ qs) qs))) (belowZ ps * belowZ qs)) → Q v' H'
theorem ok_times (T : Txt K mg) {t : TabsAt} (B : TBs T base t) : FnOk P w K mg base CX0 21 T.times.f T.times.fd P_times (sp_times t K) := by
  refine T.times.F.ok sc_times (fun vs H Q E h => ?_) (fun cdv A outer s H vs Q E hr h => ?_)
  · obtain ⟨f, n, o, v, pw, qw, ps, qs, rfl, _⟩ := h; rfl
  · obtain ⟨f, n, o, v, pw, qw, ps, qs, rfl, hv, hp, hq, op, oq, np, nq, dp, dq, hm, hl, tsH, k⟩ := h
    refine ⟨_, (pss_cons (ps_set (i := 3) sc_times.nd rfl (Or.inl rfl) (pe_call (ok_check_two_polynomials T B) (hr.mono (by decide)) rfl T.check_two_polynomials.g T.check_two_polynomials.F.kp (b_check_two_polynomials T) .nil pass0 (pa_cons (pv 0) (pa_cons (pv 1) (pa_cons (pv 2) pa_nil)))))
  (pss_one (ps_ret (pe_call (ok_unpacked T) (hr.mono (by decide)) rfl T.unpacked.g T.unpacked.F.kp (b_unpacked T) .nil pass0 (pa_cons (pv 3) (pa_cons (pe_call (ok_packed_product T) (hr.mono (by decide)) rfl T.packed_product.g T.packed_product.F.kp (b_packed_product T) .nil pass0 (pa_cons (pe_fld (pv 3) rfl) (pa_cons (pe_call (ok_packed T) (hr.mono (by decide)) rfl T.packed.g T.packed.F.kp (b_packed T) .nil pass0 (pa_cons (pv 3) (pa_cons (pv 1) pa_nil))) (pa_cons (pe_call (ok_packed T) (hr.mono (by decide)) rfl T.packed.g T.packed.F.kp (b_packed T) .nil pass0 (pa_cons (pv 3) (pa_cons (pv 2) pa_nil))) pa_nil)))) pa_nil)))))), ?_⟩
    have hF := hv.hf.isF
    have hrs := rows_ok hv.h1 hv.h4 hv.ho
    have hj : CInj n (rowsL n o) := fun x y hx hy e => code_inj hx hy hv.h1 hv.h4 hv.ho e
    have okp : ∀ u ∈ ps, TermOk f n u := fun u hu => (op.2.1 u hu).1
    have okq : ∀ u ∈ qs, TermOk f n u := fun u hu => (oq.2.1 u hu).1
    have lp := op.1
    have lq := oq.1
    walk_at "rd"
    refine ⟨f, n, o, v, pw, qw, ps, qs, rfl, hv, hp, hq, op, oq, tsH, fun a H1 x1 c1 c2 => ?_⟩
    walk_at "rd"
    obtain ⟨dx, fs, d1, cf, _⟩ := id c2
    refine ⟨_, _, _, _, _, rfl, d1, T.Coding.cls, T.Coding.n_field, cf, ?_⟩
    walk_at "rd"
    refine ⟨a, f, n, rowsL n o, pw, ps, rfl, hv.h4, hrs, hj, hF, c1, c2, hp.ex x1.keep, lp, okp, np, dp, fun v1 e1 H2 k1 _ s2 => ?_⟩
    walk_at "rd"
    refine ⟨a, f, n, rowsL n o, qw, qs, rfl, hv.h4, hrs, hj, hF, CodO.sm c1 s2, c2.ex (LamX.ExtN.of s2), (hq.ex x1.keep).tq (tq_same s2), lq, okq, nq, dq, fun v2 e2 H3 k2 n2 s3 => ?_⟩
    walk_at "rd"
    have ne : e1 ≠ e2 := fun z => by
      obtain ⟨_, _, _, h⟩ := k1
      rw [z, n2] at h; cases h
    have hb1 : (2 : Nat) ^ 740 < SS := by decide +kernel
    have hb2 : (2 : Nat) ^ 64 < SS := by decide +kernel
    have pm : ∀ t ∈ ownI (belowZ ps) ps, Mon n t.2 := fun t ht => by
      obtain ⟨u, hu, rfl⟩ := List.mem_map.mp ht
      exact (okp u hu).2
    have qm : ∀ t ∈ ownI (belowZ qs) qs, Mon n t.2 := fun t ht => by
      obtain ⟨u, hu, rfl⟩ := List.mem_map.mp ht
      exact (okq u hu).2
    have pn := own_num hF okp dp
    have qn := own_num hF okq dq
    have bp := below_pos fun u hu => (okp u hu).1.n.pos
    have bq := below_pos fun u hu => (okq u hu).1.n.pos
    have bp2 := below_lt dp
    have bq2 := below_lt dq
    have ll : (ownI (belowZ ps) ps).length * (ownI (belowZ qs) qs).length ≤ 100000 := by
      unfold ownI
      rw [List.length_map, List.length_map]
      exact hl
    have hab : ∀ t ∈ ownI (belowZ ps) ps, ∀ u ∈ ownI (belowZ qs) qs, Mon n (addM t.2 u.2) := fun t ht u hu => by
      obtain ⟨t', ht', rfl⟩ := List.mem_map.mp ht
      obtain ⟨u', hu', rfl⟩ := List.mem_map.mp hu
      exact hm t' ht' u' hu'
    refine ⟨f, v1, v2, n, rowsL n o, e1, e2, _, _, _, _, rfl, hF, hj, k1.same s3, k2, ne, fun t ht => ⟨pm t ht, Nat.lt_trans (pn t ht) hb1⟩, fun t ht => ⟨qm t ht, Nat.lt_trans (qn t ht) hb1⟩, hab, ll, by omega, by omega, fun r e3 H4 k4 _ s4 => ?_⟩
    walk_at "rd"
    have s24 := Same.trans (Same.trans s2 s3) s4
    have keys := prod_keys (r := fun m => Mon n m) (p := fun m => ∃ t ∈ ownI (belowZ ps) ps, t.2 = m) (q := fun m => ∃ t ∈ ownI (belowZ qs) qs, t.2 = m) (fun t ht => ⟨t, ht, rfl⟩) (fun t ht => ⟨t, ht, rfl⟩) (fun x y ⟨t, ht, e⟩ ⟨u, hu, e'⟩ => by rw [← e, ← e']; exact hab t ht u hu)
    have num : ∀ t ∈ prodT (ownI (belowZ ps) ps) (ownI (belowZ qs) qs), t.1.natAbs ≤ (500 * 2 ^ 740) * (500 * 2 ^ 740) := fun t ht => by
      refine Nat.le_trans (fold_num _ ht) ?_
      rw [bd_mul]
      have f1 := bd_le (M := 2 ^ 740) fun t ht => Nat.le_of_lt (pn t ht)
      have f2 := bd_le (M := 2 ^ 740) fun t ht => Nat.le_of_lt (qn t ht)
      have g1 : (ownI (belowZ ps) ps).length ≤ 500 := by unfold ownI; rw [List.length_map]; exact lp
      have g2 : (ownI (belowZ qs) qs).length ≤ 500 := by unfold ownI; rw [List.length_map]; exact lq
      exact Nat.mul_le_mul (Nat.le_trans f1 (Nat.mul_le_mul_right _ g1)) (Nat.le_trans f2 (Nat.mul_le_mul_right _ g2))
    have hS3 : (500 * 2 ^ 740) * (500 * 2 ^ 740) + 31 < S3 := by decide +kernel
    have hS4 : 2 ^ 64 * 2 ^ 64 < S3 := by decide +kernel
    have bb0 : 0 < belowZ ps * belowZ qs := Int.mul_pos bp bq
    have bb1 : (belowZ ps * belowZ qs).natAbs < S3 := by
      rw [Int.natAbs_mul]
      have := Nat.mul_le_mul (show (belowZ ps).natAbs ≤ 2 ^ 64 by omega) (show (belowZ qs).natAbs ≤ 2 ^ 64 by omega)
      omega
    refine ⟨a, r, f, n, o, e3, _, _, rfl, hF, hv.h1, hv.h4, hv.ho, CodO.sm c1 s24, c2.ex (LamX.ExtN.of s24), k4, set_nd (prod_nd _ _), fun t ht => ?_, Nat.le_trans (set_len _ _) (Nat.le_trans (prod_len _ _) ll), bb0, bb1, fun v' H5 p5 s5 => k v' H5 (x1.same (Same.trans s24 s5)) p5⟩
    obtain ⟨_, _, u, hu, e, b⟩ := set_range hF ht
    have := num u hu
    exact ⟨by rw [← e]; exact keys u hu, by omega⟩
end

section
variable {P : Program} {w : World} {K : PySem.W.Frag} {mg : Str → Option Value} {base : Heap}
def sp_power (t : TabsAt) (K : PySem.W.Frag) : Sp := fun vs H Q _ => ∃ (f : Int) (n : Nat) (o : Ord) (v pw : V) (ps : List Tm) (e : Nat), vs = [v, pw, .int e] ∧ RgV K H v f n o ∧ PolyV K H f pw ps ∧ PolyOk f n (rowsL n o) ps ∧ (ps.map (·.2)).Nodup ∧ DenOk ps ∧ e ≤ 12 ∧ PowOk f n (ownI (belowZ ps) ps) (belowZ ps) e ∧ NdT (powT f n (ownI (belowZ ps) ps) e) ∧
  (∀ t ∈ powT f n (ownI (belowZ ps) ps) e, Mon n t.2 ∧ t.1.natAbs < S3) ∧ (powT f n (ownI (belowZ ps) ps) e).length ≤ 100000 ∧ (belowZ ps ^ e).natAbs < S3 ∧ TS t H ∧
  ∀ v' H', Ex t H H' → PolyV K H' f v' (unpL f n o (powT f n (ownI (belowZ ps) ps) e) (belowZ ps ^ e)) → Q v' H'
theorem ok_power (T : Txt K mg) {t : TabsAt} (B : TBs T base t) : FnOk P w K mg base CX0 21 T.power.f T.power.fd P_power (sp_power t K) := by
  refine T.power.F.ok sc_power (fun vs H Q E h => ?_) (fun cdv A outer s H vs Q E hr h => ?_)
  · obtain ⟨f, n, o, v, pw, ps, e, rfl, _⟩ := h; rfl
  · obtain ⟨f, n, o, v, pw, ps, e, rfl, hv, hp, op, np, dp, he, hpow, hnd, hmn, hl, hb, tsH, k⟩ := h
    have hF := hv.hf.isF
    have hrs := rows_ok hv.h1 hv.h4 hv.ho
    have hj : CInj n (rowsL n o) := fun x y hx hy e => code_inj hx hy hv.h1 hv.h4 hv.ho e
    have okp : ∀ u ∈ ps, TermOk f n u := fun u hu => (op.2.1 u hu).1
    have lp := op.1
    refine ⟨_, (pss_cons (ps_set (i := 3) sc_power.nd rfl (Or.inl rfl) (pe_call (ok_check_ring T B) (hr.mono (by decide)) rfl T.check_ring.g T.check_ring.F.kp (b_check_ring T) .nil pass0 (pa_cons (pv 0) pa_nil)))
  (pss_cons (ps_expr (pe_call (ok_check_polynomial T B) (hr.mono (by decide)) rfl T.check_polynomial.g T.check_polynomial.F.kp (b_check_polynomial T) .nil pass0 (pa_cons (pv 3) (pa_cons (pv 1) pa_nil))))
  (pss_cons (ps_expr (pe_call (ok_check_integer_in T) (hr.mono (by decide)) rfl T.check_integer_in.g T.check_integer_in.F.kp (b_check_integer_in T) .nil pass0 (pa_cons (pv 2) (pa_cons pe_int (pa_cons (pe_glob rfl T.g_MOST_POWER (v := .int 12) ⟨_, rfl⟩) pa_nil)))))
  (pss_one (ps_ret (pe_call (ok_unpacked T) (hr.mono (by decide)) rfl T.unpacked.g T.unpacked.F.kp (b_unpacked T) .nil pass0 (pa_cons (pv 3) (pa_cons (pe_ix (r := rIxL K) ix_list (pe_call (ok_powers_up_to T) (hr.mono (by decide)) rfl T.powers_up_to.g T.powers_up_to.F.kp (b_powers_up_to T) .nil pass0 (pa_cons (pe_fld (pv 3) rfl) (pa_cons (pe_call (ok_packed T) (hr.mono (by decide)) rfl T.packed.g T.packed.F.kp (b_packed T) .nil pass0 (pa_cons (pv 3) (pa_cons (pv 1) pa_nil))) (pa_cons (pv 2) pa_nil)))) (pv 2) (fun _ _ => rfl)) pa_nil)))))))), ?_⟩
    walk_at "rd"
    refine ⟨f, n, o, v, rfl, hv.hf, hv.h1, hv.h4, hv.ho, hv.hd, tsH, fun a H1 x1 c' => ?_⟩
    obtain ⟨c1, c2⟩ := c'
    walk_at "rd"
    refine ⟨a, f, n, rowsL n o, pw, ps, rfl, hv.h4, hrs, c1, c2, hp.ex x1.keep, op, x1.ts, fun H2 x2 => ?_⟩
    walk_at "rd"
    refine ⟨e, 0, 12, rfl, by omega, by omega, ?_⟩
    walk_at "rd"
    have c1 := CodO.ex x2 c1
    have c2 := c2.ex x2.keep
    have x12 := x1.trans x2
    obtain ⟨dx, fs, d1, cf, _⟩ := id c2
    refine ⟨_, _, _, _, _, rfl, d1, T.Coding.cls, T.Coding.n_field, cf, ?_⟩
    walk_at "rd"
    refine ⟨a, f, n, rowsL n o, pw, ps, rfl, hv.h4, hrs, hj, hF, c1, c2, hp.ex x12.keep, lp, okp, np, dp, fun v1 e1 H3 k1 _ s3 => ?_⟩
    walk_at "rd"
    have hb1 : (2 : Nat) ^ 740 < SS := by decide +kernel
    have hb2 : (2 : Nat) ^ 64 < SS := by decide +kernel
    have pm : ∀ t ∈ ownI (belowZ ps) ps, Mon n t.2 := fun t ht => by
      obtain ⟨u, hu, rfl⟩ := List.mem_map.mp ht
      exact (okp u hu).2
    have pn := own_num hF okp dp
    have bp := below_pos fun u hu => (okp u hu).1.n.pos
    have bp2 := below_lt dp
    refine ⟨f, v1, e, n, rowsL n o, e1, _, _, rfl, hF, hj, he, k1, fun t ht => ⟨pm t ht, Nat.lt_trans (pn t ht) hb1⟩, by omega, hpow, fun l ws H4 hl4 hwl hws s4 => ?_⟩
    walk_at "rd"
    have hlt : e < ws.length := by omega
    refine ⟨l, ws, _, ws[e], rfl, rfl, .inl (.inl hl4), atI_nat (List.getElem?_eq_getElem hlt), ?_⟩
    obtain ⟨d', k4⟩ := hws e ws[e] (List.getElem?_eq_getElem hlt)
    walk_at "rd"
    have s34 := Same.trans s3 s4
    exact ⟨a, ws[e], f, n, o, d', _, _, rfl, hF, hv.h1, hv.h4, hv.ho, CodO.sm c1 s34, c2.ex (LamX.ExtN.of s34), k4, hnd, hmn, hl, Int.pow_pos bp, hb, fun v' H5 p5 s5 => k v' H5 (x12.same (Same.trans s34 s5)) p5⟩
theorem der_snoc (f : Int) (i : Nat) (ps : List Tm) (j : Nat) (u : Tm) (h : ps[j]? = some u) : derT f i (ps.take (j + 1)) = derT f i (ps.take j) ++ (if 0 < atM u.2 i then [(mulN f u.1 (mkN f (atM u.2 i) 1), movM u.2 i (-1))] else []) := by
  rw [List.take_succ, h]
  unfold derT
  rw [List.filterMap_append]
  congr 1
  show List.filterMap _ [u] = _
  rw [List.filterMap_cons, List.filterMap_nil]
  split
  · rename_i h2
    split at h2
    · cases h2
    · rename_i h3; rw [if_neg h3]
  · rename_i x h2
    split at h2
    · rename_i h3
      cases h2
      rw [if_pos h3]
    · cases h2
theorem mk_exp {f : Int} (hF : IsF f) {e : Int} (h0 : 0 ≤ e) (h1 : e ≤ 60) : NumOk f (mkN f e 1) := by
  have hN : 60 < NBn := by decide +kernel
  exact numOk_of (mkN_n hF (by decide)) (mkN_is hF (by decide) fun _ => rfl) (by decide) (by omega) (by omega)
def sp_derivative (t : TabsAt) (K : PySem.W.Frag) : Sp := fun vs H Q _ => ∃ (f : Int) (n : Nat) (o : Ord) (v pw : V) (ps : List Tm) (i : Nat), vs = [v, pw, .int i] ∧ RgV K H v f n o ∧ PolyV K H f pw ps ∧ PolyOk f n (rowsL n o) ps ∧ i < n ∧ SumOk f (derT f i ps) ∧ (∀ u ∈ derT f i ps, TermOk f n u) ∧ TS t H ∧
  ∀ v' H', Ex t H H' → PolyV K H' f v' (polyL f n (rowsL n o) (derT f i ps)) → Q v' H'
theorem ok_derivative (T : Txt K mg) {t : TabsAt} (B : TBs T base t) : FnOk P w K mg base CX0 21 T.derivative.f T.derivative.fd P_derivative (sp_derivative t K) := by
  refine T.derivative.F.ok sc_derivative (fun vs H Q E h => ?_) (fun cdv A outer s H vs Q E hr h => ?_)
  · obtain ⟨f, n, o, v, pw, ps, i, rfl, _⟩ := h; rfl
  · obtain ⟨f, n, o, v, pw, ps, i, rfl, hv, hp, op, hi, hsum, hok, tsH, k⟩ := h
    have hF := hv.hf.isF
    have hrs := rows_ok hv.h1 hv.h4 hv.ho
    have okp : ∀ u ∈ ps, TermOk f n u := fun u hu => (op.2.1 u hu).1
    have lp := op.1
    refine ⟨_, (pss_cons (ps_set (i := 3) sc_derivative.nd rfl (Or.inl rfl) (pe_call (ok_check_ring T B) (hr.mono (by decide)) rfl T.check_ring.g T.check_ring.F.kp (b_check_ring T) .nil pass0 (pa_cons (pv 0) pa_nil)))
  (pss_cons (ps_expr (pe_call (ok_check_polynomial T B) (hr.mono (by decide)) rfl T.check_polynomial.g T.check_polynomial.F.kp (b_check_polynomial T) .nil pass0 (pa_cons (pv 3) (pa_cons (pv 1) pa_nil))))
  (pss_cons (ps_expr (pe_call (ok_check_variable T) (hr.mono (by decide)) rfl T.check_variable.g T.check_variable.F.kp (b_check_variable T) .nil pass0 (pa_cons (pv 3) (pa_cons (pv 2) pa_nil))))
  (pss_cons (ps_set (i := 4) sc_derivative.nd rfl (Or.inl rfl) (pe_fld (pv 3) rfl))
  (pss_cons (ps_set (i := 5) sc_derivative.nd rfl (Or.inl rfl) (pe_lst pa_nil))
  (pss_cons (ps_for PassesOwn.never rfl (pi_tup (pv 1)) (pg_tup rfl (pgs_cons (pg_name (i := 6) sc_derivative.nd rfl (Or.inl rfl)) (pgs_cons (pg_name (i := 7) sc_derivative.nd rfl (Or.inl rfl)) pgs_nil))) (pss_cons (ps_set (i := 8) sc_derivative.nd rfl (Or.inl rfl) (pe_ix (r := rIxT K) ix_tup (pv 7) (pv 2) (fun _ _ => rfl)))
  (pss_one (ps_if (pt_cmpR op_gt (pv 8) pe_int (nomark _)) (pss_cons (ps_set (i := 9) sc_derivative.nd rfl (Or.inl rfl) (pe_call (ok_make_number T) (hr.mono (by decide)) rfl T.make_number.g T.make_number.F.kp (b_make_number T) .nil pass0 (pa_cons (pv 4) (pa_cons (pv 8) (pa_cons pe_int pa_nil)))))
  (pss_one (ps_expr (pe_bm PySem.F.plainAttrs_list PySem.F.slot_list_append PySem.F.type_list_append mt_append (pv 5) (pa_cons (pe_tup (pa_cons (pe_call (ok_multiply_numbers T) (hr.mono (by decide)) rfl T.multiply_numbers.g T.multiply_numbers.F.kp (b_multiply_numbers T) .nil pass0 (pa_cons (pv 4) (pa_cons (pv 6) (pa_cons (pv 9) pa_nil)))) (pa_cons (pe_call (ok_shifted T) (hr.mono (by decide)) rfl T.shifted.g T.shifted.F.kp (b_shifted T) .nil pass0 (pa_cons (pv 7) (pa_cons (pv 2) (pa_cons (pe_un un_neg pe_int) pa_nil)))) pa_nil))) pa_nil))))) pss_nil))))
  (pss_one (ps_ret (pe_call (ok_sum_of_list T B) (hr.mono (by decide)) rfl T.sum_of_terms.g T.sum_of_terms.F.kp (b_sum_of_terms T) .nil pass0 (pa_cons (pv 3) (pa_cons (pv 5) pa_nil))))))))))), ?_⟩
    walk_at "rd"
    refine ⟨f, n, o, v, rfl, hv.hf, hv.h1, hv.h4, hv.ho, hv.hd, tsH, fun a H1 x1 c' => ?_⟩
    obtain ⟨c1, c2⟩ := c'
    walk_at "rd"
    refine ⟨a, f, n, rowsL n o, pw, ps, rfl, hv.h4, hrs, c1, c2, hp.ex x1.keep, op, x1.ts, fun H2 x2 => ?_⟩
    walk_at "rd"
    have c1 := CodO.ex x2 c1
    have c2 := c2.ex x2.keep
    have x12 := x1.trans x2
    refine ⟨a, n, rowsL n o, i, rfl, c1, hi, ?_⟩
    walk_at "rd"
    obtain ⟨dx, fs, d1, cf, _⟩ := id c2
    refine ⟨_, _, _, _, _, rfl, d1, T.Coding.cls, T.Coding.n_field, cf, ?_⟩
    obtain ⟨pa, xs, rfl, hP, hvl, hT⟩ := hp.ex x12.keep
    walk_at "rd"
    refine ⟨(show 0 ≤ sizeLine by decide), fun l hl => ?_⟩
    walk_at "rd"
    refine ⟨⟨xs, Toy.Same.tup (same_upd hl) hP⟩, ?_⟩
    refine for_tup (K := K) (a := pa) (xs := xs) (fun j σ H' => (Same H2 H' ∧ ∃ ys, H' l = some (.lst ys) ∧ Paired (fun y u => TermV K H' f y u) ys (derT f i (ps.take j))) ∧ ∃ y1 y2 y3 y4, σ = [some v, some (.ref pa), some (.int (i : Int)), some (.ref a), some (.int f), some (.ref l), y1, y2, y3, y4])
      ⟨⟨same_upd hl, [], upd_same, .nil⟩, none, none, none, none, rfl⟩ (fun j σ H' _ q => Toy.Same.tup q.1.1 hP) (fun j x σ H' hx q => ?_) (fun σ H' q => ?_)
    · obtain ⟨⟨s3, ys, hy, hp3⟩, y1, y2, y3, y4, rfl⟩ := q
      have hj : j < ps.length := by rw [← hvl]; exact (List.getElem?_eq_some_iff.mp hx).1
      have eu : ps[j]? = some ps[j] := List.getElem?_eq_getElem hj
      obtain ⟨tp, M, nv, rfl, h1, h2, h3⟩ := (hT j x ps[j] hx eu).tq (tq_same s3)
      obtain ⟨o1, o2⟩ := okp _ (List.getElem_mem hj)
      have hlen := o2.1.1
      have hn4 := hv.h4
      have hat : atM ps[j].2 i = ps[j].2[i]'(by omega) := by
        unfold atM
        rw [List.getD_eq_getElem?_getD, List.getElem?_eq_getElem (by omega)]; rfl
      have hb := o2.1.2 _ (at_mem (m := ps[j].2) (i := i) (by omega))
      walk_at "rd"
      refine ⟨tp, _, rfl, h1, rfl, ?_⟩
      walk_at "rd"
      refine ⟨M, ps[j].2.map V.int, _, .int (atM ps[j].2 i), rfl, rfl, .inl (.inl h3), atI_nat (by rw [List.getElem?_map, List.getElem?_eq_getElem (by omega), hat]; rfl), ?_⟩
      walk_at "rd"
      refine iteD (fun c => ?_) (fun c => ?_)
      · walk_at "rd"
        have hB60 : 60 < BB := by decide +kernel
        refine ⟨f, atM ps[j].2 i, 1, rfl, hF, by omega, by omega, fun _ => by decide, fun fv H4 nf s4 => ?_⟩
        walk_at "rd"
        refine ⟨.inl ⟨rfl, _, .inl (.inl (s4 _ _ hy))⟩, ?_⟩
        walk_at "rd"
        refine ⟨f, nv, fv, ps[j].1, mkN f (atM ps[j].2 i) 1, rfl, hF, h2.same s4, nf, o1, mk_exp hF hb.1 hb.2, fun rv H5 nr s5 => ?_⟩
        walk_at "rd"
        have s45 := Same.trans s4 s5
        refine ⟨M, ps[j].2, i, -1, rfl, .inl (.inl (s45 _ _ h3)), by omega, by omega, fun pm H6 hm6 s6 => ?_⟩
        walk_at "rd"
        refine ⟨two_line, fun pt hpt => ?_⟩
        have s47 := Same.trans (Same.trans s45 s6) (same_upd (o := .tup [rv, .ref pm]) hpt)
        have hy7 := s47 _ _ hy
        have s57 := Same.trans s6 (same_upd (o := .tup [rv, .ref pm]) hpt)
        have ll : ys.length ≤ 500 := by
          rw [Paired.length hp3]
          exact Nat.le_trans (List.length_filterMap_le _ _) (by rw [List.length_take]; omega)
        walk_at "rd"
        refine ⟨l, ys, .ref pt, rfl, rfl, hy7, by rw [sizeLine_eq]; omega, ⟨same_put hl (Same.trans s3 s47), ys ++ [.ref pt], upd_same, ?_⟩, _, _, _, _, rfl⟩
        rw [der_snoc f i ps j _ eu, if_pos c]
        have t7 : Tq (upd H6 pt (.tup [rv, .ref pm])) (upd (upd H6 pt (.tup [rv, .ref pm])) l (.lst (ys ++ [.ref pt]))) := tq_upd hy7 trivial
        refine paired_app (Paired.mapP hp3 fun _ _ z => z.tq ((tq_same s47).trans t7)) ⟨pt, pm, rv, rfl, t7.tp.sqt (.inl (.inl upd_same)), nr.tq ((tq_same s57).trans t7), (t7 _ _).1 (same_upd hpt _ _ hm6)⟩
      · walk_at "rd"
        refine ⟨⟨s3, ys, hy, ?_⟩, _, _, _, _, rfl⟩
        rw [der_snoc f i ps j _ eu, if_neg c, List.append_nil]
        exact hp3
    · obtain ⟨⟨s3, ys, hy, hp3⟩, y1, y2, y3, y4, rfl⟩ := q
      rw [hvl, List.take_length] at hp3
      walk_at "rd"
      have x3 := x12.same s3
      have ll : (derT f i ps).length ≤ 500 := Nat.le_trans (List.length_filterMap_le _ _) lp
      refine ⟨a, f, n, rowsL n o, .ref l, derT f i ps, rfl, hv.h4, hrs, hF, CodO.sm c1 s3, c2.ex (LamX.ExtN.of s3), ⟨l, ys, rfl, hy, Paired.length hp3, fun j v u h1 h2 => ?_⟩, by omega, hok, hsum, x3.ts, fun v' H4 x4 p4 => k v' H4 (x3.trans x4) p4⟩
      obtain ⟨u', g1, g2⟩ := paired_at hp3 h1
      rw [h2] at g1
      cases g1
      exact g2
end

/-! ### the law's own polynomials and derivatives -/
section
variable {P : Program} {w : World} {K : PySem.W.Frag} {mg : Str → Option Value} {base : Heap}
theorem RK.tq {H H' : Hp} {r sa : Addr} {ns : List Int} (h : RowAt K H r sa ns) (a : RK K r sa ns H H') : Tq H H' := fun b xs => by
  obtain ⟨ys, hr⟩ := row_lst h
  have n : ∀ {u}, H b = some u → (∀ zs, u ≠ .lst zs) → b ≠ r := fun {u} e z y => by
    subst y
    rw [hr] at e
    cases e
    exact z _ rfl
  exact ⟨fun q => a.keep _ _ (n q fun _ z => by cases z) q, fun o q => a.keep _ _ (n q fun _ z => by cases z) q⟩
theorem RgV.tp' {H H' : Hp} {v : V} {f : Int} {n : Nat} {o : Ord} (h : RgV K H v f n o) (e : Tp H H') : RgV K H' v f n o :=
  ⟨h.hf, h.h1, h.h4, h.ho, Dp.tp e _ _ (by simp [rgD, tOnly, tOnlyAll, tOnly_ord]) h.hd⟩
/-- a drawn polynomial -/
structure PolyS (f : Int) (n : Nat) (o : Ord) (k : Nat) (m : Int) (P : List Tm) : Prop where
  can : Can f n o P
  len : P.length ≤ k
  num : ∀ u ∈ P, f = 0 → u.1.1.natAbs ≤ 4 ∧ u.1.2.natAbs ≤ 3
  deg : ∀ u ∈ P, u.2.sum ≤ m
def AlS (f : Int) (n : Nat) (k : Nat) (m : Int) (al : Al2) : Prop := (al.map (·.1)).Nodup ∧ al.length ≤ k ∧ ∀ e ∈ al, MonD n m e.1 ∧ NumS f e.2
theorem als_put {f : Int} {n k : Nat} {m : Int} {al : Al2} {e : List Int} {x : Int × Int} (h : AlS f n k m al) (he : MonD n m e) (hx : NumS f x) : AlS f n (k + 1) m (putM al e x) :=
  ⟨putM_nodup h.1 e x, Nat.le_trans (putM_len al e x) (Nat.add_le_add_right h.2.1 1), fun y hy => by
    rcases mem_putM hy with hy | rfl
    · exact h.2.2 y hy
    · exact ⟨he, hx⟩⟩
theorem le_sum : ∀ {l : List Int}, (∀ e ∈ l, 0 ≤ e) → ∀ e ∈ l, e ≤ l.sum
  | [], _, e, he => by cases he
  | x :: l, h, e, he => by
    have ih := le_sum (l := l) fun y hy => h y (List.mem_cons_of_mem _ hy)
    have s0 : ∀ {l : List Int}, (∀ e ∈ l, 0 ≤ e) → 0 ≤ l.sum := fun {l} => by
      induction l with
      | nil => intro _; exact Int.le_refl _
      | cons y l ih => intro h; rw [List.sum_cons]; have := ih fun e he => h e (List.mem_cons_of_mem _ he); have := h y List.mem_cons_self; omega
    have h0 := s0 fun y hy => h y (List.mem_cons_of_mem _ hy)
    rw [List.sum_cons]
    rcases List.mem_cons.mp he with rfl | he
    · omega
    · have := ih e he
      have := h x List.mem_cons_self
      omega
theorem monD_mon {n : Nat} {m : Int} {e : List Int} (h : MonD n m e) (hm : m ≤ 60) : Mon n e :=
  ⟨⟨h.1, fun x hx => ⟨h.2.1 x hx, by have := le_sum h.2.1 x hx; have := h.2.2; omega⟩⟩, by have := h.2.2; omega⟩
theorem als_poly {f : Int} {n k : Nat} {o : Ord} {m : Int} {al : Al2} (h : AlS f n k m al) (hm : m ≤ 60) : PolyS f n o k m (sortT n o (keepOf al)) := by
  have hin : ∀ u ∈ sortT n o (keepOf al), (u.2, u.1) ∈ al := fun u hu => by
    have := (sortT_perm n o _).mem_iff.mp hu
    unfold keepOf at this
    obtain ⟨e, he, rfl⟩ := List.mem_map.mp this
    exact (List.mem_filter.mp he).1
  refine ⟨can_sort (kept_ok fun e he => ⟨monD_mon (h.2.2 e he).1 hm, (h.2.2 e he).2.1⟩) (keep_nodup h.1), ?_, fun u hu hf => (h.2.2 _ (hin u hu)).2.2 hf, fun u hu => (h.2.2 _ (hin u hu)).1.2.2⟩
  rw [(sortT_perm n o _).length_eq]
  exact Nat.le_trans (keepOf_len al) h.2.1
def sp_law_poly (K : PySem.W.Frag) : Sp := fun vs H Q _ => ∃ (r sa : Addr) (ns : List Int) (f : Int) (n : Nat) (o : Ord) (rv : V) (k : Nat) (m : Int), vs = [.ref r, rv, .int k, .int m] ∧ RgV K H rv f n o ∧ RowAt K H r sa ns ∧ k ≤ 20 ∧ 0 ≤ m ∧ m ≤ 60 ∧
  ∀ v' ps H', PolyV K H' f v' ps → PolyS f n o k m ps → RK K r sa ns H H' → Q v' H'
theorem ok_law_poly (T : Txt K mg) : FnOk P w K mg base CX0 4 T.law_poly.f T.law_poly.fd P_law_poly (sp_law_poly K) := by
  refine T.law_poly.F.ok sc_law_poly (fun vs H Q E h => ?_) (fun cdv A outer s H vs Q E hr h => ?_)
  · obtain ⟨r, sa, ns, f, n, o, rv, kk, m, rfl, _⟩ := h; rfl
  · obtain ⟨r, sa, ns, f, n, o, rv, kk, m, rfl, hv, hrow, hk, hm0, hm, k⟩ := h
    obtain ⟨ra, ov, rfl, hR, hov⟩ := ring_parts hv.hd
    refine ⟨_, (pss_cons (ps_set (i := 4) sc_law_poly.nd rfl (Or.inl rfl) pe_dnewT)
  (pss_cons (ps_for PassesOwn.never rfl (pi_range1 rfl T.n_range (pa_cons (pe_call (ok_law_taken T) (hr.mono (by decide)) rfl T.law_taken.g T.law_taken.F.kp (b_law_taken T) .nil pass0 (pa_cons (pv 0) (pa_cons (pe_op op_add (pv 2) pe_int) pa_nil))) pa_nil)) (pg_name (i := 5) sc_law_poly.nd rfl (Or.inl rfl)) (pss_one (ps_dput (Nat.lt_of_le_of_lt (Nat.add_le_add_left (show 1 ≤ 64 by decide) _) hr.units) (pv 4) (pe_call (ok_law_mono T) (hr.mono (by decide)) rfl T.law_mono.g T.law_mono.F.kp (b_law_mono T) .nil pass0 (pa_cons (pv 0) (pa_cons (pe_ix (r := rIxT K) ix_tup (pv 1) pe_int (fun _ _ => rfl)) (pa_cons (pv 3) pa_nil)))) (pe_call (ok_law_number T) (hr.mono (by decide)) rfl T.law_number.g T.law_number.F.kp (b_law_number T) .nil pass0 (pa_cons (pv 0) (pa_cons (pe_ix (r := rIxT K) ix_tup (pv 1) pe_int (fun _ _ => rfl)) pa_nil))) rfl)))
  (pss_one (ps_ret (pe_call (ok_law_made T) (hr.mono (by decide)) rfl T.law_made.g T.law_made.F.kp (b_law_made T) .nil pass0 (pa_cons (pv 1) (pa_cons (pv 4) pa_nil))))))), ?_⟩
    walk_at "rd"
    intro d hd
    have s1 := same_upd (o := .dT []) hd
    walk_at "rd"
    refine ⟨r, sa, ns, kk + 1, rfl, hrow.sm s1, by omega, by omega, fun c H1 c0 c1 row1 b1 => ?_⟩
    have rk1 : RK K r sa ns H H1 := (RK.of hrow s1).trans (.draw row1 b1)
    have ndr : d ≠ r := new_ne hrow hd
    obtain ⟨c, rfl⟩ := Int.eq_ofNat_of_zero_le c0
    walk_at "rd"
    refine ⟨by omega, by omega, for_range (lo := 0) (n := c) (fun i σ Hx => (RK K r sa ns H Hx ∧ ∃ kvs al, Hx d = some (.dT kvs) ∧ KVs Hx f kvs al ∧ AlS f n i m al) ∧ ∃ y, σ = [some (.ref r), some (.ref ra), some (.int (kk : Int)), some (.int m), some (.ref d), y]) ⟨⟨rk1, [], [], (b1 d ndr).trans upd_same, .nil, .nil, Nat.le_refl _, fun e he => by cases he⟩, none, rfl⟩ ?_ ?_⟩
    · rintro i σ Hx hi ⟨⟨rk2, kvs, al, hkv, hK, hA⟩, y, rfl⟩
      walk_at "rd"
      refine ⟨ra, _, _, _, rfl, rfl, (rk2.tp hrow).sqt hR, rfl, ?_⟩
      walk_at "rd"
      refine ⟨r, sa, ns, f, rfl, hv.hf, rk2.row, fun nv x H3 hn hx rk3 => ?_⟩
      walk_at "rd"
      have rk23 := rk2.trans rk3
      refine ⟨ra, _, _, _, rfl, rfl, (rk23.tp hrow).sqt hR, rfl, ?_⟩
      walk_at "rd"
      refine ⟨r, sa, ns, n, m, rfl, hv.h1, hv.h4, hm0, hm, rk23.row, fun es p H4 he rk4 hp => ?_⟩
      have tq := (rk3.trans rk4).tq rk2.row
      have hd4 : H4 d = some (.dT kvs) := (rk3.trans rk4).keep _ _ ndr hkv
      have e3 : H4 p = some (.tup ((inlK es).map kV)) := by rw [inlK_kV]; exact hp
      have kl : kvs.length ≤ i := by rw [kvs_len hK]; exact hA.2.1
      have tu : Tq H4 (upd H4 d (.dT (putK kvs (inlK es) nv))) := tq_upd hd4 trivial
      refine ⟨d, _, rfl, DPut.t hd4 e3 (by rw [sizeLine_eq]; omega), ⟨(rk23.trans rk4).upd_new hrow hd, _, _, upd_same, kvs_put ((hK.tq tq).tq tu) ((hn.tq (rk4.tq rk23.row)).tq tu), als_put hA he hx⟩, _, rfl⟩
    · rintro σ Hx ⟨⟨rk2, kvs, al, hkv, hK, hA⟩, y, rfl⟩
      walk_at "rd"
      refine ⟨f, n, o, .ref ra, d, kvs, al, rfl, hv.tp' (rk2.tp hrow), hkv, hK, hA.1, fun e he => ⟨monD_mon (hA.2.2 e he).1 hm, (hA.2.2 e he).2.1⟩, by have := hA.2.1; omega, fun v' H5 s5 p5 => ?_⟩
      refine k v' _ H5 p5 (als_poly ⟨hA.1, by have := hA.2.1; omega, hA.2.2⟩ hm) (rk2.trans (.of rk2.row s5))
end

section
variable {P : Program} {w : World} {K : PySem.W.Frag} {mg : Str → Option Value} {base : Heap}
theorem mov_inj {n i : Nat} {a b : List Int} (ha : a.length = n) (hb : b.length = n) (hi : i < n) (h : movM a i (-1) = movM b i (-1)) : a = b := by
  rw [← mov_mov (m := a) (i := i) (by omega) (-1) 1 (by omega), h, mov_mov (by omega) (-1) 1 (by omega)]
theorem der_keys {f : Int} {i : Nat} {P : List Tm} {u : Tm} (hu : u ∈ derT f i P) : ∃ t ∈ P, u.2 = movM t.2 i (-1) := by
  obtain ⟨t, ht, e⟩ := List.mem_filterMap.mp hu
  split at e
  · cases e
    exact ⟨t, ht, rfl⟩
  · cases e
theorem der_nd {f : Int} {n i : Nat} (hi : i < n) : ∀ {P : List Tm}, (∀ u ∈ P, u.2.length = n) → (P.map (·.2)).Nodup → ((derT f i P).map (·.2)).Nodup
  | [], _, _ => .nil
  | t :: P, hl, h => by
    have hd : (P.map (·.2)).Nodup := (List.nodup_cons.mp h).2
    have ih := der_nd (f := f) hi (P := P) (fun u hu => hl u (List.mem_cons_of_mem _ hu)) hd
    unfold derT at ih ⊢
    rw [List.filterMap_cons]
    split
    · exact ih
    · rename_i x e
      split at e
      · cases e
        rw [List.map_cons]
        refine List.nodup_cons.mpr ⟨fun z => ?_, ih⟩
        obtain ⟨u, hu, e2⟩ := List.mem_map.mp z
        obtain ⟨t', ht', e3⟩ := der_keys (f := f) (i := i) (P := P) hu
        have e4 : movM t'.2 i (-1) = movM t.2 i (-1) := e3.symm.trans e2
        have := mov_inj (hl t' (List.mem_cons_of_mem _ ht')) (hl t List.mem_cons_self) hi e4
        exact (List.nodup_cons.mp h).1 (by show t.2 ∈ _; rw [← this]; exact List.mem_map_of_mem (f := fun x : Tm => x.2) ht')
      · cases e
theorem putM_new {al : Al2} {m : List Int} {x : Int × Int} (h : ∀ e ∈ al, e.1 ≠ m) : putM al m x = al ++ [(m, x)] := by
  unfold putM
  rw [if_neg]
  intro z
  obtain ⟨e, he, q⟩ := List.any_eq_true.mp z
  exact h e he (of_decide_eq_true q)
theorem der_num {f : Int} (hF : IsF f) {n i : Nat} {o : Ord} (h1 : 1 ≤ n) (h4 : n ≤ 4) (ho : OrdOk n o) (hi : i < n) {P : List Tm} (hP : Can f n o P) (hs : SumOk f (derT f i P)) : ∀ u ∈ derT f i P, NumOk f u.1 := fun u hu => by
  have nd := der_nd (f := f) hi (fun u hu => (hP.ok u hu).1.2.1.1) hP.nd
  have := hs (derT f i P).length (swT u) (by
    rw [List.take_length]
    show _ ∈ sumL f _
    rw [sum_dist nd]
    exact List.mem_map_of_mem hu)
  exact this
/-- the derivative as the law makes it -/
theorem der_law {f : Int} {n i : Nat} {o : Ord} (hi : i < n) {P : List Tm} (hP : Can f n o P) : sortT n o (keepOf ((derT f i P).map swT)) = polyL f n (rowsL n o) (derT f i P) := by
  have nd := der_nd (f := f) hi (fun u hu => (hP.ok u hu).1.2.1.1) hP.nd
  unfold polyL keptL
  rw [sum_dist nd]
  rfl
theorem mov_items {n i : Nat} {ms : List Int} (hl : ms.length = n) (hi : i < n) (j : Nat) (hj : j < n) : (movM ms i (-1))[j]? = some (ms.getD j 0 - (if j = i then 1 else 0)) := by
  unfold movM atM
  by_cases c : j = i
  · subst c
    rw [List.getElem?_set_self (by omega), if_pos rfl, List.getD_eq_getElem?_getD, List.getElem?_eq_getElem (by omega)]
    rfl
  · rw [List.getElem?_set_ne (fun z => c z.symm), if_neg c, List.getD_eq_getElem?_getD, List.getElem?_eq_getElem (by omega)]
    show some _ = some (_ - 0)
    rw [Int.sub_zero]; rfl
def sp_law_derived (K : PySem.W.Frag) : Sp := fun vs H Q _ => ∃ (f : Int) (n : Nat) (o : Ord) (rv pw : V) (ps : List Tm) (i : Nat), vs = [rv, pw, .int i] ∧ RgV K H rv f n o ∧ PolyV K H f pw ps ∧ Can f n o ps ∧ ps.length ≤ 500 ∧ i < n ∧ SumOk f (derT f i ps) ∧
  ∀ v' H', PolyV K H' f v' (polyL f n (rowsL n o) (derT f i ps)) → Same H H' → Q v' H'
theorem ok_law_derived (T : Txt K mg) : FnOk P w K mg base CX0 4 T.law_derived.f T.law_derived.fd P_law_derived (sp_law_derived K) := by
  refine T.law_derived.F.ok sc_law_derived (fun vs H Q E h => ?_) (fun cdv A outer s H vs Q E hr h => ?_)
  · obtain ⟨f, n, o, rv, pw, ps, i, rfl, _⟩ := h; rfl
  · obtain ⟨f, n, o, rv, pw, ps, i, rfl, hv, hp, can, lp, hi, hsum, k⟩ := h
    obtain ⟨ra, ov, rfl, hR, hov⟩ := ring_parts hv.hd
    obtain ⟨pa, xs, rfl, hP, hvl, hT⟩ := id hp
    have hF := hv.hf.isF
    have hn4 := hv.h4
    have lens : ∀ u ∈ ps, u.2.length = n := fun u hu => (can.ok u hu).1.2.1.1
    have nd := der_nd (f := f) hi lens can.nd
    have nums := der_num hF hv.h1 hv.h4 hv.ho hi can hsum
    have mons := der_mon (f := f) hi fun u hu => (can.ok u hu).1.2
    have dl : (derT f i ps).length ≤ 500 := Nat.le_trans (List.length_filterMap_le _ _) lp
    refine ⟨_, (pss_cons (ps_set (i := 3) sc_law_derived.nd rfl (Or.inl rfl) pe_dnewT)
  (pss_cons (ps_for PassesOwn.never rfl (pi_tup (pv 1)) (pg_tup rfl (pgs_cons (pg_name (i := 4) sc_law_derived.nd rfl (Or.inl rfl)) (pgs_cons (pg_name (i := 5) sc_law_derived.nd rfl (Or.inr rfl)) pgs_nil))) (pss_one (ps_if (pt_cmpR op_gt (pe_ix (r := rIxT K) ix_tup (pv 5) (pv 2) (fun _ _ => rfl)) pe_int (nomark _)) (pss_cons (ps_set (i := 6) sc_law_derived.nd rfl (Or.inl rfl) (pe_callTy (r := rTupOf K) call_tuple_of rfl T.n_tuple bo_tuple (pa_cons (pe_lc (own := [("at", 7)]) rfl sc_law_derived.nd (pi_range1 rfl T.n_range (pa_cons (pe_ix (r := rIxT K) ix_tup (pv 0) pe_int (fun _ _ => rfl)) pa_nil)) (blkOk_by (own := [("at", 7)]) (N := N_law_derived) (sc := defScope s_law_derived) (by decide +kernel)) (fun _ _ _ _ _ => (pg_name (i := 7) sc_law_derived.nd rfl (Or.inl rfl))) (fun _ _ _ _ _ => pts_nil) (fun _ _ _ _ _ => (pe_op op_sub (pe_ix (r := rIxT K) ix_tup (pv 5) (pv 7) (fun _ _ => rfl)) (pe_callTy call_int1 rfl T.n_int bo_int (pa_cons (pe_cmpR op_eq (pv 7) (pv 2) (nomark _)) pa_nil))))) pa_nil)))
  (pss_one (ps_dput (Nat.lt_of_le_of_lt (Nat.add_le_add_left (show 1 ≤ 64 by decide) _) hr.units) (pv 3) (pv 6) (pe_call (ok_law_mul T) (hr.mono (by decide)) rfl T.law_mul.g T.law_mul.F.kp (b_law_mul T) .nil pass0 (pa_cons (pe_ix (r := rIxT K) ix_tup (pv 0) pe_int (fun _ _ => rfl)) (pa_cons (pv 4) (pa_cons (pe_call (ok_law_num T) (hr.mono (by decide)) rfl T.law_num.g T.law_num.F.kp (b_law_num T) .nil pass0 (pa_cons (pe_ix (r := rIxT K) ix_tup (pv 0) pe_int (fun _ _ => rfl)) (pa_cons (pe_ix (r := rIxT K) ix_tup (pv 5) (pv 2) (fun _ _ => rfl)) (pa_cons pe_int pa_nil)))) pa_nil)))) rfl))) pss_nil)))
  (pss_one (ps_ret (pe_call (ok_law_made T) (hr.mono (by decide)) rfl T.law_made.g T.law_made.F.kp (b_law_made T) .nil pass0 (pa_cons (pv 0) (pa_cons (pv 3) pa_nil))))))), ?_⟩
    walk_at "rd"
    intro d hd
    walk_at "rd"
    refine ⟨⟨xs, Toy.Same.tup (same_upd hd) hP⟩, ?_⟩
    refine for_tup (K := K) (a := pa) (xs := xs) (fun j σ H' => (Same H H' ∧ ∃ kvs, H' d = some (.dT kvs) ∧ KVs H' f kvs ((derT f i (ps.take j)).map swT)) ∧ ∃ y1 y2 y3, σ = [some (.ref ra), some (.ref pa), some (.int (i : Int)), some (.ref d), y1, y2, y3, none])
      ⟨⟨same_upd hd, [], upd_same, .nil⟩, none, none, none, rfl⟩ (fun j σ H' _ q => Toy.Same.tup q.1.1 hP) (fun j x σ H' hx q => ?_) (fun σ H' q => ?_)
    · obtain ⟨⟨s3, kvs, hkv, hK⟩, y1, y2, y3, rfl⟩ := q
      have hj : j < ps.length := by rw [← hvl]; exact (List.getElem?_eq_some_iff.mp hx).1
      have eu : ps[j]? = some ps[j] := List.getElem?_eq_getElem hj
      obtain ⟨tp, M, nv, rfl, h1, h2, h3⟩ := (hT j x ps[j] hx eu).tq (tq_same s3)
      obtain ⟨o1, o2⟩ := (can.ok _ (List.getElem_mem hj)).1
      have hlen := o2.1.1
      have hat : atM ps[j].2 i = ps[j].2[i]'(by omega) := by
        unfold atM
        rw [List.getD_eq_getElem?_getD, List.getElem?_eq_getElem (by omega)]; rfl
      have hb := o2.1.2 _ (at_mem (m := ps[j].2) (i := i) (by omega))
      have ati : atI (ps[j].2.map V.int) (i : Int) = some (.int (atM ps[j].2 i)) := atI_nat (by rw [List.getElem?_map, List.getElem?_eq_getElem (by omega), hat]; rfl)
      walk_at "rd"
      refine ⟨tp, _, rfl, h1, rfl, ?_⟩
      walk_at "rd"
      refine ⟨M, ps[j].2.map V.int, _, .int (atM ps[j].2 i), rfl, rfl, .inl (.inl h3), ati, ?_⟩
      walk_at "rd"
      refine iteD (fun c => ?_) (fun c => ?_)
      · walk_at "rd"
        refine ⟨ra, _, _, _, rfl, rfl, Toy.Same.tup s3 hR, rfl, ?_⟩
        walk_at "rd"
        refine ⟨by omega, by omega, fun D hD => ?_⟩
        rw [Int.toNat_natCast]
        refine lc_range (lo := 0) (n := n) (MapAt H' D fun q y _ => y = .int (ps[j].2.getD q 0 - (if q = i then 1 else 0))) (mapAt_0 hD) (fun q H5 hq hQ => ?_) (fun H5 hQ => ?_)
        · have s5 : Same H' H5 := by obtain ⟨_, s5, _⟩ := hQ; exact s5
          walk_at "rd"
          refine ⟨M, ps[j].2.map V.int, _, .int (ps[j].2.getD q 0), rfl, rfl, .inl (.inl (s5 _ _ h3)), ?_, ?_⟩
          · show atI _ ((0 : Int) + (q : Int)) = _
            rw [Int.zero_add]
            exact atI_nat (by rw [List.getElem?_map, List.getElem?_eq_getElem (by omega), List.getD_eq_getElem?_getD, List.getElem?_eq_getElem (by omega)]; rfl)
          walk_at "rd"
          refine .inr ⟨_, rfl, ?_⟩
          walk_at "rd"
          refine mapAt_step hQ hD (by rw [sizeLine_eq]; omega) (Same.refl _) (fun _ _ _ _ h _ => h) ?_
          have e : (if decide (V.int (0 + (q : Int)) = V.int (i : Int)) = true then (1 : Int) else 0) = (if q = i then 1 else 0) := by
            rw [vdec]
            by_cases c : q = i
            · rw [if_pos c, if_pos (by simp; omega)]
            · rw [if_neg c, if_neg (by simp; omega)]
          show V.int (_ - (if decide (V.int (0 + (q : Int)) = V.int (i : Int)) = true then (1 : Int) else 0)) = _
          rw [e]
        · obtain ⟨ys, s5, e5, n5, r5⟩ := hQ
          have ey : ys = (movM ps[j].2 i (-1)).map V.int := by
            refine List.ext_getElem? fun q => ?_
            by_cases hq : q < n
            · rw [List.getElem?_map, mov_items hlen hi q hq, List.getElem?_eq_getElem (by omega), r5 q ys[q] (List.getElem?_eq_getElem (by omega))]
              rfl
            · rw [List.getElem?_eq_none (by omega), List.getElem?_eq_none (by rw [List.length_map, movM_len]; omega)]
          subst ey
          walk_at "rd"
          refine ⟨D, _, rfl, .inl ⟨.inl (.inl e5), fun G hG => ?_⟩⟩
          have s6 := Same.trans s5 (same_upd (o := .tup ((movM ps[j].2 i (-1)).map V.int)) hG)
          have s36 := Same.trans s3 s6
          walk_at "rd"
          refine ⟨ra, _, _, _, rfl, rfl, Toy.Same.tup s36 hR, rfl, ?_⟩
          walk_at "rd"
          refine ⟨ra, _, _, _, rfl, rfl, Toy.Same.tup s36 hR, rfl, ?_⟩
          walk_at "rd"
          refine ⟨M, ps[j].2.map V.int, _, .int (atM ps[j].2 i), rfl, rfl, .inl (.inl (s6 _ _ h3)), ati, ?_⟩
          walk_at "rd"
          have hB60 : 60 < BB := by decide +kernel
          refine ⟨f, atM ps[j].2 i, 1, rfl, hF, by omega, by omega, ?_, fun fv H7 nf s7 => ?_⟩
          · unfold isZ
            split
            · decide
            · have := hF.pos ‹_›
              rw [Int.emod_eq_of_lt (by omega) (by omega)]; decide
          walk_at "rd"
          have s67 := Same.trans s6 s7
          refine ⟨f, nv, fv, ps[j].1, mkN f (atM ps[j].2 i) 1, rfl, hF, h2.same s67, nf, o1, mk_exp hF hb.1 hb.2, fun rv2 H8 nr s8 => ?_⟩
          walk_at "rd"
          have s68 := Same.trans s67 s8
          have s78 := Same.trans s7 s8
          have hd8 := s68 _ _ hkv
          have hG8 : H8 G = some (.tup ((inlK (movM ps[j].2 i (-1))).map kV)) := by rw [inlK_kV]; exact s78 _ _ upd_same
          have kl : kvs.length ≤ 500 := by
            rw [kvs_len hK, List.length_map]
            exact Nat.le_trans (List.length_filterMap_le _ _) (by rw [List.length_take]; omega)
          have tu : Tq H8 (upd H8 d (.dT (putK kvs (inlK (movM ps[j].2 i (-1))) rv2))) := tq_upd hd8 trivial
          refine ⟨d, _, rfl, DPut.t hd8 hG8 (by rw [sizeLine_eq]; omega), ⟨same_put hd (Same.trans s3 s68), _, upd_same, ?_⟩, _, _, _, rfl⟩
          have := kvs_put (m := movM ps[j].2 i (-1)) ((hK.tq (tq_same s68)).tq tu) (nr.tq tu)
          have new : ∀ e ∈ (derT f i (ps.take j)).map swT, e.1 ≠ movM ps[j].2 i (-1) := fun e he z => by
            obtain ⟨u, hu, rfl⟩ := List.mem_map.mp he
            have h5 := der_nd (f := f) (P := ps.take (j + 1)) hi (fun u hu => lens u (List.mem_of_mem_take hu)) (by rw [List.map_take]; exact can.nd.sublist (List.take_sublist _ _))
            rw [der_snoc f i ps j _ eu, if_pos c, List.map_append, List.nodup_append] at h5
            exact h5.2.2 _ (List.mem_map_of_mem (f := fun x : Tm => x.2) hu) _ List.mem_cons_self z
          rw [putM_new new] at this
          rw [der_snoc f i ps j _ eu, if_pos c, List.map_append]
          exact this
      · walk_at "rd"
        refine ⟨⟨s3, kvs, hkv, ?_⟩, _, _, _, rfl⟩
        rw [der_snoc f i ps j _ eu, if_neg c, List.append_nil]
        exact hK
    · obtain ⟨⟨s3, kvs, hkv, hK⟩, y1, y2, y3, rfl⟩ := q
      rw [hvl, List.take_length] at hK
      walk_at "rd"
      refine ⟨f, n, o, .ref ra, d, kvs, _, rfl, hv.tp' (tp_same s3), hkv, hK, ?_, fun e he => ?_, by rw [List.length_map]; omega, fun v' H5 s5 p5 => ?_⟩
      · rw [List.map_map]; exact nd
      · obtain ⟨u, hu, rfl⟩ := List.mem_map.mp he
        exact ⟨mons u hu, nums u hu⟩
      · rw [der_law hi can] at p5
        exact k v' H5 p5 (Same.trans s3 s5)
end

/-! ### what is known of the polynomials of the law -/
def EX (E : Nat) (l : IT) : Prop := ∀ t ∈ l, ∀ e ∈ t.2, e.natAbs ≤ E
theorem ex_le {E F : Nat} {l : IT} (h : EX E l) (le : E ≤ F) : EX F l := fun t ht e he => Nat.le_trans (h t ht e he) le
theorem ex_app {E : Nat} {a b : IT} (ha : EX E a) (hb : EX E b) : EX E (a ++ b) := fun t ht => by
  rcases List.mem_append.mp ht with ht | ht
  · exact ha t ht
  · exact hb t ht
theorem addM_mem : ∀ {a b : List Int} {e : Int}, e ∈ addM a b → ∃ x ∈ a, ∃ y ∈ b, e = x + y
  | [], _, _, h => by simp [addM] at h
  | _ :: _, [], _, h => by simp [addM] at h
  | x :: a, y :: b, e, h => by
    have h : e ∈ (x + y) :: addM a b := h
    rcases List.mem_cons.mp h with h | h
    · exact ⟨x, List.mem_cons_self, y, List.mem_cons_self, h⟩
    · obtain ⟨u, hu, v, hv, e⟩ := addM_mem h
      exact ⟨u, List.mem_cons_of_mem _ hu, v, List.mem_cons_of_mem _ hv, e⟩
theorem ex_mul {E F : Nat} {a b : IT} (ha : EX E a) (hb : EX F b) : EX (E + F) (mulI a b) := fun t ht e he => by
  unfold mulI at ht
  obtain ⟨u, hu, h⟩ := List.mem_flatMap.mp ht
  obtain ⟨v, hv, rfl⟩ := List.mem_map.mp h
  obtain ⟨x, hx, y, hy, rfl⟩ := addM_mem he
  have := ha u hu x hx
  have := hb v hv y hy
  omega
theorem ex_der {E n i : Nat} {l : IT} (hi : i < n) (hn : IL n l) (h : EX E l) : EX (E + 1) (derI i l) := fun t ht e he => by
  obtain ⟨u, hu, rfl⟩ := List.mem_map.mp ht
  have hl := hn u hu
  have := h u hu _ (at_mem (m := u.2) (i := i) (by omega))
  rcases List.mem_or_eq_of_mem_set he with he | he
  · have := h u hu e he; omega
  · rw [he]; omega
theorem bd_der {E n i : Nat} (hi : i < n) : ∀ {l : IT}, IL n l → EX E l → bd (derI i l) ≤ bd l * E
  | [], _, _ => by show 0 ≤ _; omega
  | t :: l, hn, h => by
    have ih := bd_der hi (l := l) (fun u hu => hn u (List.mem_cons_of_mem _ hu)) fun u hu => h u (List.mem_cons_of_mem _ hu)
    show bd ((t.1 * atM t.2 i, movM t.2 i (-1)) :: derI i l) ≤ _
    rw [bd_cons, bd_cons, Nat.add_mul]
    have hl := hn t List.mem_cons_self
    have h1 := Nat.mul_le_mul_left t.1.natAbs (h t List.mem_cons_self _ (at_mem (m := t.2) (i := i) (by omega)))
    show (t.1 * atM t.2 i).natAbs + _ ≤ _
    rw [Int.natAbs_mul]
    omega
structure BOk (f B : Int) : Prop where
  one : f ≠ 0 → B = 1
  pos : 0 < B
  small : B.natAbs < 2 ^ 64
theorem BOk.nb {f B : Int} (h : BOk f B) : B.natAbs < NBn := Nat.lt_of_lt_of_le h.small (by decide +kernel)
structure W (f : Int) (n : Nat) (o : Ord) (B : Int) (E M N : Nat) (D : Int) (P : List Tm) (l : IT) : Prop where
  can : Can f n o P
  rep : Rep f n B P l
  ex : EX E l
  bl : bd l ≤ M
  len : P.length ≤ N
  deg : ∀ u ∈ P, u.2.sum ≤ D
theorem W.own {f : Int} (hF : IsF f) {n : Nat} {o : Ord} {B : Int} {E M N : Nat} {D : Int} {P : List Tm} {l : IT} (h : W f n o B E M N D P l) (hB : BOk f B) : bd (ownI B P) ≤ N * (M + 31) := by
  have hd := rep_own hF h.can h.rep hB.one
  have h31 := hF.lt
  have one : ∀ t ∈ ownI B P, t.1.natAbs ≤ M + 31 := fun t ht => by
    have nd : NdT (ownI B P) := by
      unfold NdT ownI
      rw [List.map_map]
      exact h.can.nd
    have hl := il_own (B := B) (P := P) (fun u hu => (h.can.ok u hu).1) t ht
    have e := nd_coef_mem nd ht
    by_cases hf : f = 0
    · have := hd.2 t.2 hl
      rw [hf] at this
      have := Int.zero_dvd.mp this
      have e2 : t.1 = coefI l t.2 := by omega
      have := coef_bd l t.2
      have := h.bl
      rw [e2]; omega
    · obtain ⟨u, hu, rfl⟩ := List.mem_map.mp ht
      have o := (numOk_m hf).1 (h.can.ok u hu).1.1
      show (u.1.1 * (B / u.1.2)).natAbs ≤ _
      rw [o.2.2, hB.one hf]
      have : (1 : Int) / 1 = 1 := by decide
      rw [this, Int.mul_one]
      omega
  have h1 := bd_le one
  have h2 : (ownI B P).length ≤ N := by unfold ownI; rw [List.length_map]; exact h.len
  exact Nat.le_trans h1 (Nat.mul_le_mul_right _ h2)
theorem W.le {f : Int} {n : Nat} {o : Ord} {B : Int} {E M N E' M' N' : Nat} {D D' : Int} {P : List Tm} {l : IT} (h : W f n o B E M N D P l) (h1 : E ≤ E') (h2 : M ≤ M') (h3 : N ≤ N') (h4 : D ≤ D') : W f n o B E' M' N' D' P l :=
  ⟨h.can, h.rep, ex_le h.ex h1, Nat.le_trans h.bl h2, Nat.le_trans h.len h3, fun u hu => by have := h.deg u hu; omega⟩
theorem W.den {f : Int} (hF : IsF f) {n : Nat} {o : Ord} {B : Int} {E M N : Nat} {D : Int} {P : List Tm} {l : IT} (h : W f n o B E M N D P l) (hB : BOk f B) : DenOk P :=
  ⟨B.natAbs, by have := hB.pos; omega, hB.small, fun u hu => Int.natAbs_dvd_natAbs.mpr ((rep_own hF h.can h.rep hB.one).1 u hu)⟩
theorem poly_deg {f : Int} {n : Nat} {rs : List (List Int)} {ts : List Tm} {D : Int} (h : ∀ u ∈ ts, u.2.sum ≤ D) : ∀ u ∈ polyL f n rs ts, u.2.sum ≤ D := fun u hu => by
  have := (poly_perm f n rs ts).mem_iff.mp hu
  unfold keptL at this
  obtain ⟨e, he, rfl⟩ := List.mem_map.mp this
  exact sum_key (f := f) (p := fun m => m.sum ≤ D) h e (List.mem_filter.mp he).1
theorem w_der {f : Int} (hF : IsF f) {n i : Nat} {o : Ord} (h1 : 1 ≤ n) (h4 : n ≤ 4) (ho : OrdOk n o) (hi : i < n) {B : Int} {E M N : Nat} {D : Int} {P : List Tm} {l : IT} (h : W f n o B E M N D P l) (hB : BOk f B) (hb : N * (M + 31) * 60 < NBn) :
    SumOk f (derT f i P) ∧ W f n o B (E + 1) (M * E) N D (polyL f n (rowsL n o) (derT f i P)) (derI i l) := by
  have ho' := h.own hF hB
  obtain ⟨a, b, c, d⟩ := rep_der hF h1 h4 ho hi hB.one hB.pos hB.nb h.can h.rep (by omega)
  refine ⟨a, b, c, ex_der hi h.rep.1 h.ex, Nat.le_trans (bd_der hi h.rep.1 h.ex) (Nat.mul_le_mul_right _ h.bl), Nat.le_trans d h.len, poly_deg fun u hu => ?_⟩
  obtain ⟨t, ht, e⟩ := der_keys hu
  have hl := (h.can.ok t ht).1.2.1.1
  have := h.deg t ht
  rw [e]
  unfold movM
  rw [sum_set _ (by omega)]
  omega
theorem w_plus {f : Int} (hF : IsF f) {n : Nat} {o : Ord} (h1 : 1 ≤ n) (h4 : n ≤ 4) (ho : OrdOk n o) {B : Int} {E M N M' N' : Nat} {D : Int} {P Q : List Tm} {l k : IT} (h : W f n o B E M N D P l) (g : W f n o B E M' N' D Q k) (hB : BOk f B) (hb : N * (M + 31) + N' * (M' + 31) < NBn) :
    SumOk f (P ++ Q) ∧ W f n o B E (M + M') (N + N') D (polyL f n (rowsL n o) (P ++ Q)) (l ++ k) := by
  have o1 := h.own hF hB
  have o2 := g.own hF hB
  obtain ⟨a, b, c, d⟩ := rep_plus hF h1 h4 ho hB.one hB.pos hB.nb h.can g.can h.rep g.rep (by omega)
  refine ⟨a, b, c, ex_app h.ex g.ex, by rw [bd_app]; have := h.bl; have := g.bl; omega, by have := h.len; have := g.len; omega, poly_deg fun u hu => ?_⟩
  rcases List.mem_append.mp hu with hu | hu
  · exact h.deg u hu
  · exact g.deg u hu
theorem sum_add : ∀ {a b : List Int}, a.length = b.length → (addM a b).sum = a.sum + b.sum
  | [], [], _ => rfl
  | [], _ :: _, h => by simp at h
  | _ :: _, [], h => by simp at h
  | x :: a, y :: b, h => by
    have := sum_add (a := a) (b := b) (by simpa using h)
    show x + y + (addM a b).sum = x + a.sum + (y + b.sum)
    omega
theorem mon_add {n : Nat} {a b : List Int} (ha : Mon n a) (hb : Mon n b) (h : a.sum + b.sum ≤ 60) : Mon n (addM a b) := by
  have hl : a.length = b.length := by rw [ha.1.1, hb.1.1]
  have hs := sum_add hl
  have nn : ∀ e ∈ addM a b, 0 ≤ e := fun e he => by
    obtain ⟨x, hx, y, hy, rfl⟩ := addM_mem he
    have := ha.1.2 x hx
    have := hb.1.2 y hy
    omega
  exact ⟨⟨addM_len ha.1.1 hb.1.1, fun e he => ⟨nn e he, by have := le_sum nn e he; omega⟩⟩, by omega⟩
theorem w_times {f : Int} (hF : IsF f) {n : Nat} {o : Ord} {B C : Int} {E M N E' M' N' : Nat} {D D' : Int} {P Q : List Tm} {l k : IT} (h : W f n o B E M N D P l) (g : W f n o C E' M' N' D' Q k) (hB : BOk f B) (hC : BOk f C) (hd : D + D' ≤ 60) (hb : N * (M + 31) * (N' * (M' + 31)) + 62 < NBn) :
    (∀ a ∈ P, ∀ b ∈ Q, Mon n (addM a.2 b.2)) ∧ W f n o (B * C) (E + E') (M * M') (N * N') (D + D') (unpL f n o (setT f (prodT (ownI (belowZ P) P) (ownI (belowZ Q) Q))) (belowZ P * belowZ Q)) (mulI l k) := by
  have hm : ∀ a ∈ P, ∀ b ∈ Q, Mon n (addM a.2 b.2) := fun a ha b hb => mon_add (h.can.ok a ha).1.2 (g.can.ok b hb).1.2 (by have := h.deg a ha; have := g.deg b hb; omega)
  have okp : ∀ u ∈ P, TermOk f n u := fun u hu => (h.can.ok u hu).1
  have okq : ∀ u ∈ Q, TermOk f n u := fun u hu => (g.can.ok u hu).1
  have bp := below_pos h.can.npos
  have bq := below_pos g.can.npos
  have dp := h.den hF hB
  have dq := g.den hF hC
  have bp2 := below_lt dp
  have bq2 := below_lt dq
  have hab : ∀ t ∈ ownI (belowZ P) P, ∀ u ∈ ownI (belowZ Q) Q, Mon n (addM t.2 u.2) ∧ (addM t.2 u.2).sum ≤ D + D' := fun t ht u hu => by
    obtain ⟨t', ht', rfl⟩ := List.mem_map.mp ht
    obtain ⟨u', hu', rfl⟩ := List.mem_map.mp hu
    refine ⟨hm t' ht' u' hu', ?_⟩
    have e := sum_add (a := t'.2) (b := u'.2) (by rw [(okp t' ht').2.1.1, (okq u' hu').2.1.1])
    have := h.deg t' ht'
    have := g.deg u' hu'
    show (addM t'.2 u'.2).sum ≤ _
    omega
  have keys := prod_keys (r := fun m => Mon n m ∧ m.sum ≤ D + D') (p := fun m => ∃ t ∈ ownI (belowZ P) P, t.2 = m) (q := fun m => ∃ t ∈ ownI (belowZ Q) Q, t.2 = m) (fun t ht => ⟨t, ht, rfl⟩) (fun t ht => ⟨t, ht, rfl⟩) (fun x y ⟨t, ht, e⟩ ⟨u, hu, e'⟩ => by rw [← e, ← e']; exact hab t ht u hu)
  obtain ⟨T, eT⟩ : ∃ T, T = setT f (prodT (ownI (belowZ P) P) (ownI (belowZ Q) Q)) := ⟨_, rfl⟩
  have ndT : NdT T := by rw [eT]; exact set_nd (prod_nd _ _)
  have hx2 : (belowZ P * belowZ Q).natAbs ≤ 2 ^ 64 * 2 ^ 64 := by
    rw [Int.natAbs_mul]
    exact Nat.mul_le_mul (by omega) (by omega)
  have hnb : 2 ^ 64 * 2 ^ 64 < NBn := by decide +kernel
  have i1 : belowZ P ∣ B := below_min (rep_own hF h.can h.rep hB.one).1
  have i2 : belowZ Q ∣ C := below_min (rep_own hF g.can g.rep hC.one).1
  -- own terms over the least denominators
  have own1 : ∀ {B : Int} {M N : Nat} {P : List Tm} {l : IT} {E : Nat} {D : Int}, W f n o B E M N D P l → BOk f B → bd (ownI (belowZ P) P) ≤ N * (M + 31) := fun {B M N P l E D} h hB => by
    have h1 := h.own hF hB
    refine Nat.le_trans ?_ h1
    have hdv := (rep_own hF h.can h.rep hB.one).1
    have hbm := below_min hdv
    have hbp := below_pos h.can.npos
    obtain ⟨j, hj⟩ := hbm
    have jp : 0 < j := by
      have := hB.pos
      rcases Int.lt_or_le 0 j with h | h
      · exact h
      · have : belowZ P * j ≤ 0 := Int.mul_nonpos_of_nonneg_of_nonpos (by omega) h
        omega
    have : ∀ (S : List Tm), (∀ u ∈ S, u ∈ P) → bd (ownI (belowZ P) S) ≤ bd (ownI B S) := fun S => by
      induction S with
      | nil => intro _; exact Nat.le_refl _
      | cons u S ih =>
        intro hs
        have ih := ih fun v hv => hs v (List.mem_cons_of_mem _ hv)
        have hu := hs u List.mem_cons_self
        have hu0 := h.can.npos u hu
        obtain ⟨c, hc⟩ := below_dvd hu
        have e1 : belowZ P / u.1.2 = c := by rw [hc, Int.mul_ediv_cancel_left _ (by omega)]
        have e2 : B / u.1.2 = c * j := by rw [hj, hc, Int.mul_assoc, Int.mul_ediv_cancel_left _ (by omega)]
        show (u.1.1 * (belowZ P / u.1.2)).natAbs + bd (ownI (belowZ P) S) ≤ (u.1.1 * (B / u.1.2)).natAbs + bd (ownI B S)
        rw [e1, e2, ← Int.mul_assoc, Int.natAbs_mul (u.1.1 * c) j]
        have := Nat.le_mul_of_pos_right (u.1.1 * c).natAbs (show 0 < j.natAbs by omega)
        omega
    exact this P fun _ h => h
  have numT : ∀ t ∈ T, t.1.natAbs + 31 < NBn := fun t ht => by
    rw [eT] at ht
    obtain ⟨_, _, u, hu, _, b⟩ := set_range hF ht
    have h1 := fold_num _ (show u ∈ (mulI _ _).foldl accI [] from hu)
    rw [bd_mul] at h1
    have f1 := Nat.mul_le_mul (own1 h hB) (own1 g hC)
    omega
  have keyT : ∀ t ∈ T, Mon n t.2 ∧ t.2.sum ≤ D + D' := fun t ht => by
    rw [eT] at ht
    obtain ⟨_, _, u, hu, e, _⟩ := set_range hF ht
    rw [← e]; exact keys u hu
  obtain ⟨c1, c2, c3⟩ := rep_unp (o := o) hF (B := belowZ P * belowZ Q) (fun hf => by rw [below_one h.can hf, below_one g.can hf]; rfl) (Int.mul_pos bp bq) (Nat.lt_of_le_of_lt hx2 hnb) ndT (fun t ht => (keyT t ht).1) numT
  rw [← eT]
  refine ⟨hm, c1, ?_, ex_mul h.ex g.ex, by rw [bd_mul]; exact Nat.mul_le_mul h.bl g.bl, ?_, fun u hu => ?_⟩
  · refine rep_times hF h.can g.can h.rep g.rep (fun z => ⟨hB.one z, hC.one z⟩) ⟨il_mul (il_own okp) (il_own okq), fun m hmn => nis_dvd (c2.2 m hmn) ?_⟩
    rw [← prod_coef, eT]
    have := set_coef f (prodT (ownI (belowZ P) P) (ownI (belowZ Q) Q)) m
    have e : coefI (setT f (prodT (ownI (belowZ P) P) (ownI (belowZ Q) Q))) m - coefI (prodT (ownI (belowZ P) P) (ownI (belowZ Q) Q)) m = -(coefI (prodT (ownI (belowZ P) P) (ownI (belowZ Q) Q)) m - coefI (setT f (prodT (ownI (belowZ P) P) (ownI (belowZ Q) Q))) m) := by omega
    rw [e]
    exact Int.dvd_neg.mpr this
  · refine Nat.le_trans c3 ?_
    rw [eT]
    refine Nat.le_trans (set_len _ _) (Nat.le_trans (prod_len _ _) ?_)
    unfold ownI
    rw [List.length_map, List.length_map]
    exact Nat.mul_le_mul h.len g.len
  · unfold unpL at hu
    obtain ⟨t, ht, rfl⟩ := List.mem_map.mp ((sortT_perm n o _).mem_iff.mp hu)
    obtain ⟨_, _, v, hv, e, _⟩ := set_range hF ht
    show t.2.sum ≤ _
    rw [← e]; exact (keyT v hv).2
/-- a drawn polynomial -/
def B6 (f : Int) : Int := if f = 0 then 6 else 1
theorem b6_ok (f : Int) : BOk f (B6 f) := by
  unfold B6
  refine ⟨fun h => by rw [if_neg h], ?_, ?_⟩ <;> split <;> decide
theorem b36_ok (f : Int) : BOk f (B6 f * B6 f) := by
  unfold B6
  refine ⟨fun h => by rw [if_neg h]; rfl, ?_, ?_⟩ <;> split <;> decide
theorem w_drawn {f : Int} (hF : IsF f) {n : Nat} {o : Ord} {k m : Nat} {P : List Tm} (h : PolyS f n o k (m : Int) P) : W f n o (B6 f) m (k * 31) k (m : Int) P (ownI (B6 f) P) := by
  have h31 := hF.lt
  have hd : ∀ u ∈ P, u.1.2 ∣ B6 f := fun u hu => by
    have o := (h.can.ok u hu).1.1
    unfold B6
    split
    · rename_i hf
      have hp := h.can.npos u hu
      have := (h.num u hu hf).2
      have : u.1.2 = 1 ∨ u.1.2 = 2 ∨ u.1.2 = 3 := by omega
      rcases this with e | e | e <;> rw [e] <;> decide
    · rename_i hf
      rw [((numOk_m hf).1 o).2.2]
      exact Int.dvd_refl 1
  refine ⟨h.can, own_rep h.can hd, fun t ht e he => ?_, ?_, h.len, h.deg⟩
  · obtain ⟨u, hu, rfl⟩ := List.mem_map.mp ht
    have hm := (h.can.ok u hu).1.2
    have h0 := hm.1.2 e he
    have h1 := le_sum (fun x hx => (hm.1.2 x hx).1) e he
    have := h.deg u hu
    omega
  · have one : ∀ t ∈ ownI (B6 f) P, t.1.natAbs ≤ 31 := fun t ht => by
      obtain ⟨u, hu, rfl⟩ := List.mem_map.mp ht
      have o := (h.can.ok u hu).1.1
      show (u.1.1 * (B6 f / u.1.2)).natAbs ≤ 31
      by_cases hf : f = 0
      · have hp := h.can.npos u hu
        obtain ⟨h4, h3⟩ := h.num u hu hf
        have e : u.1.2 = 1 ∨ u.1.2 = 2 ∨ u.1.2 = 3 := by omega
        unfold B6
        rw [if_pos hf, Int.natAbs_mul]
        rcases e with e | e | e <;> rw [e]
        · have : ((6 : Int) / 1).natAbs = 6 := by decide
          rw [this]; omega
        · have : ((6 : Int) / 2).natAbs = 3 := by decide
          rw [this]; omega
        · have : ((6 : Int) / 3).natAbs = 2 := by decide
          rw [this]; omega
      · have o := (numOk_m hf).1 o
        unfold B6
        rw [if_neg hf, o.2.2]
        have : (1 : Int) / 1 = 1 := by decide
        rw [this, Int.mul_one]
        omega
    refine Nat.le_trans (bd_le one) (Nat.mul_le_mul_right _ ?_)
    unfold ownI
    rw [List.length_map]
    exact h.len

/-! ### the power by the field's own number -/
theorem addM_assoc : ∀ (a b c : List Int), addM (addM a b) c = addM a (addM b c)
  | [], _, _ => by simp [addM]
  | _ :: _, [], _ => by simp [addM]
  | _ :: _, _ :: _, [] => by simp [addM]
  | x :: a, y :: b, z :: c => by
    show (x + y + z) :: addM (addM a b) c = (x + (y + z)) :: addM a (addM b c)
    rw [addM_assoc a b c, Int.add_assoc]
def stepC (z m : List Int) (nx : Nat → List (List Int)) : Nat → List (List Int)
  | 0 => [z]
  | k + 1 => (stepC z m nx k).map (addM m) ++ nx (k + 1)
/-- the sums of k of the monomials -/
def cmb (z : List Int) : List (List Int) → Nat → List (List Int)
  | [], 0 => [z]
  | [], _ + 1 => []
  | m :: ms, k => stepC z m (cmb z ms) k
def stepL (nx : Nat → Nat) : Nat → Nat
  | 0 => 1
  | k + 1 => stepL nx k + nx (k + 1)
def cl : Nat → Nat → Nat
  | 0, 0 => 1
  | 0, _ + 1 => 0
  | a + 1, k => stepL (cl a) k
theorem cmb_step (z m : List Int) (ms : List (List Int)) (k : Nat) : cmb z (m :: ms) (k + 1) = (cmb z (m :: ms) k).map (addM m) ++ cmb z ms (k + 1) := rfl
theorem cmb_len (z : List Int) : ∀ (ms : List (List Int)) (k : Nat), (cmb z ms k).length = cl ms.length k
  | [], 0 => rfl
  | _ :: _, 0 => rfl
  | [], k + 1 => rfl
  | m :: ms, k + 1 => by
    have h1 := cmb_len z (m :: ms) k
    have h2 := cmb_len z ms (k + 1)
    rw [cmb_step, List.length_append, List.length_map, h1, h2]
    rfl
theorem cmb_zero (z : List Int) (ms : List (List Int)) : cmb z ms 0 = [z] := by
  cases ms <;> rfl
theorem cmb_add {z : List Int} : ∀ (ms : List (List Int)) (k : Nat) {x m : List Int}, x ∈ cmb z ms k → m ∈ ms → addM x m ∈ cmb z ms (k + 1)
  | [], _, _, _, _, h => by cases h
  | m0 :: ms, 0, x, m, hx, hm => by
    rw [cmb_zero] at hx
    rw [cmb_step]
    rcases List.mem_cons.mp hm with rfl | hm
    · refine List.mem_append_left _ (List.mem_map.mpr ⟨x, by rw [cmb_zero]; exact hx, addM_comm _ _⟩)
    · exact List.mem_append_right _ (cmb_add ms 0 (by rw [cmb_zero]; exact hx) hm)
  | m0 :: ms, k + 1, x, m, hx, hm => by
    rcases List.mem_cons.mp hm with rfl | hm
    · rw [cmb_step]
      exact List.mem_append_left _ (List.mem_map.mpr ⟨x, hx, addM_comm _ _⟩)
    · have hx' : x ∈ (cmb z (m0 :: ms) k).map (addM m0) ++ cmb z ms (k + 1) := by
        rw [cmb_step] at hx
        exact hx
      rw [cmb_step]
      rcases List.mem_append.mp hx' with h | h
      · obtain ⟨y, hy, rfl⟩ := List.mem_map.mp h
        refine List.mem_append_left _ (List.mem_map.mpr ⟨addM y m, cmb_add (m0 :: ms) k hy (List.mem_cons_of_mem _ hm), ?_⟩)
        rw [addM_assoc]
      · exact List.mem_append_right _ (cmb_add ms (k + 1) h hm)
theorem powT_key {f : Int} {n : Nat} {T : IT} : ∀ (k : Nat), ∀ t ∈ powT f n T k, t.2 ∈ cmb (List.replicate n 0) (T.map (·.2)) k
  | 0, t, h => by
    rw [cmb_zero]
    have : t = (1, List.replicate n 0) := List.mem_singleton.mp h
    rw [this]
    exact List.mem_singleton.mpr rfl
  | k + 1, t, h => by
    have h : t ∈ setT f (prodT (powT f n T k) T) := h
    obtain ⟨u, hu, e, _⟩ := set_mem h
    rw [← e]
    exact prod_keys (r := fun m => m ∈ cmb (List.replicate n 0) (T.map (·.2)) (k + 1)) (p := fun m => m ∈ cmb (List.replicate n 0) (T.map (·.2)) k) (q := fun m => m ∈ T.map (·.2)) (powT_key k) (fun t ht => List.mem_map_of_mem (f := fun x : Int × List Int => x.2) ht) (fun x y hx hy => cmb_add _ k hx hy) u hu
theorem powT_nd (f : Int) (n : Nat) (T : IT) : ∀ k, NdT (powT f n T k)
  | 0 => by show List.Nodup [List.replicate n (0 : Int)]; simp
  | k + 1 => set_nd (prod_nd _ _)
theorem powT_len {f : Int} {n : Nat} {T : IT} (h : T.length ≤ 3) : ∀ k, (powT f n T k).length ≤ 3 ^ k
  | 0 => Nat.le_refl _
  | k + 1 => by
    refine Nat.le_trans (set_len _ _) (Nat.le_trans (prod_len _ _) ?_)
    rw [Nat.pow_succ]
    exact Nat.mul_le_mul (powT_len h k) h
theorem powT_num {f : Int} (hF : IsF f) (hf : f ≠ 0) {n : Nat} {T : IT} : ∀ k, ∀ t ∈ powT f n T k, t.1.natAbs ≤ 31
  | 0, t, h => by
    have : t = (1, List.replicate n 0) := List.mem_singleton.mp h
    rw [this]; show 1 ≤ 31; decide
  | k + 1, t, h => by
    obtain ⟨_, b, _⟩ := set_range hF (show t ∈ setT f (prodT (powT f n T k) T) from h)
    have := b hf
    have := hF.lt
    omega
theorem mon_zero (n : Nat) : Mon n (List.replicate n 0) ∧ (List.replicate n (0 : Int)).sum = 0 := by
  have hs : (List.replicate n (0 : Int)).sum = 0 := by
    induction n with
    | zero => rfl
    | succ n ih => rw [List.replicate_succ, List.sum_cons, ih]; rfl
  refine ⟨⟨⟨List.length_replicate, fun e he => ?_⟩, by rw [hs]; decide⟩, hs⟩
  have := List.eq_of_mem_replicate he
  omega
theorem powT_mon {f : Int} {n : Nat} {T : IT} {D : Int} (hT : ∀ t ∈ T, Mon n t.2 ∧ t.2.sum ≤ D) (hD : 0 ≤ D) : ∀ (k : Nat), D * (k : Int) ≤ 60 → ∀ t ∈ powT f n T k, Mon n t.2 ∧ t.2.sum ≤ D * (k : Int)
  | 0, _, t, h => by
    have : t = (1, List.replicate n 0) := List.mem_singleton.mp h
    rw [this]
    have := mon_zero n
    exact ⟨this.1, by show (List.replicate n (0 : Int)).sum ≤ _; rw [this.2]; omega⟩
  | k + 1, hk, t, h => by
    have e1 : D * ((k + 1 : Nat) : Int) = D * (k : Int) + D := by
      have : ((k + 1 : Nat) : Int) = (k : Int) + 1 := by omega
      rw [this]; grind
    obtain ⟨u, hu, e, _⟩ := set_mem (show t ∈ setT f (prodT (powT f n T k) T) from h)
    rw [← e]
    refine prod_keys (r := fun m => Mon n m ∧ m.sum ≤ D * ((k + 1 : Nat) : Int)) (p := fun m => Mon n m ∧ m.sum ≤ D * (k : Int)) (q := fun m => Mon n m ∧ m.sum ≤ D) (powT_mon hT hD k (by omega)) hT (fun x y hx hy => ?_) u hu
    refine ⟨mon_add hx.1 hy.1 (by omega), ?_⟩
    rw [sum_add (by rw [hx.1.1.1, hy.1.1.1])]
    omega
theorem il_powT {f : Int} {n : Nat} {T : IT} (h : IL n T) : ∀ k, IL n (powT f n T k)
  | 0 => fun t ht => by
    have : t = (1, List.replicate n 0) := List.mem_singleton.mp ht
    rw [this]; exact List.length_replicate
  | k + 1 => fun t ht => by
    obtain ⟨u, hu, e, _⟩ := set_mem (show t ∈ setT f (prodT (powT f n T k) T) from ht)
    rw [← e]
    exact prod_keys (r := fun m => m.length = n) (p := fun m => m.length = n) (q := fun m => m.length = n) (il_powT h k) h (fun x y hx hy => addM_len hx hy) u hu
theorem powT_coef {f : Int} {n : Nat} {T : IT} (h : IL n T) : ∀ (k : Nat) {m : List Int}, m.length = n → f ∣ coefI (powT f n T k) m - coefI (powI n T k) m
  | 0, m, _ => ⟨0, by show coefI [(1, List.replicate n 0)] m - coefI (oneI n) m = _; unfold oneI; omega⟩
  | k + 1, m, hm => by
    show f ∣ coefI (setT f (prodT (powT f n T k) T)) m - coefI (mulI (powI n T k) T) m
    have h1 := set_coef f (prodT (powT f n T k) T) m
    rw [prod_coef] at h1
    have h2 : f ∣ coefI (mulI T (powT f n T k)) m * 1 - coefI (mulI T (powI n T k)) m * 1 := mul_same h (il_powT h k) (il_pow h k) (fun m hm => by have := powT_coef (f := f) h k hm; simpa using this) hm
    rw [mul_comm_c h (il_powT h k) hm, mul_comm_c h (il_pow h k) hm] at h2
    have e : coefI (setT f (prodT (powT f n T k) T)) m - coefI (mulI (powI n T k) T) m = (coefI (mulI (powT f n T k) T) m * 1 - coefI (mulI (powI n T k) T) m * 1) - (coefI (mulI (powT f n T k) T) m - coefI (setT f (prodT (powT f n T k) T)) m) := by omega
    rw [e]
    exact Int.dvd_sub h2 h1
/-- all that is asked of the power, and its derivative is nothing -/
theorem pow_small {f : Int} (hF : IsF f) (hf : f ≠ 0) (h12 : f = 2 ∨ f = 3 ∨ f = 5 ∨ f = 7) {n : Nat} {o : Ord} (h1 : 1 ≤ n) (h4 : n ≤ 4) (ho : OrdOk n o) {P : List Tm} (hP : PolyS f n o 3 3 P) :
    ∃ e : Nat, f = (e : Int) ∧ e ≤ 12 ∧ PowOk f n (ownI (belowZ P) P) (belowZ P) e ∧ NdT (powT f n (ownI (belowZ P) P) e) ∧ (∀ t ∈ powT f n (ownI (belowZ P) P) e, Mon n t.2 ∧ t.1.natAbs < S3) ∧ (powT f n (ownI (belowZ P) P) e).length ≤ 100000 ∧ (belowZ P ^ e).natAbs < S3 ∧
      Can f n o (unpL f n o (powT f n (ownI (belowZ P) P) e) (belowZ P ^ e)) ∧ (unpL f n o (powT f n (ownI (belowZ P) P) e) (belowZ P ^ e)).length ≤ 500 ∧
      ∀ i, i < n → SumOk f (derT f i (unpL f n o (powT f n (ownI (belowZ P) P) e) (belowZ P ^ e))) ∧ polyL f n (rowsL n o) (derT f i (unpL f n o (powT f n (ownI (belowZ P) P) e) (belowZ P ^ e))) = [] := by
  obtain ⟨e, he⟩ : ∃ e : Nat, f = (e : Int) := ⟨f.toNat, by omega⟩
  have he' : e = 2 ∨ e = 3 ∨ e = 5 ∨ e = 7 := by omega
  have b1 := below_one hP.can hf
  rw [b1]
  have hT : ∀ t ∈ ownI 1 P, Mon n t.2 ∧ t.2.sum ≤ 3 := fun t ht => by
    obtain ⟨u, hu, rfl⟩ := List.mem_map.mp ht
    exact ⟨(hP.can.ok u hu).1.2, hP.deg u hu⟩
  have il : IL n (ownI 1 P) := fun t ht => (hT t ht).1.1.1
  have tl : (ownI 1 P).length ≤ 3 := by unfold ownI; rw [List.length_map]; exact hP.len
  have mon : ∀ k, k ≤ e → ∀ t ∈ powT f n (ownI 1 P) k, Mon n t.2 ∧ t.2.sum ≤ 3 * (k : Int) := fun k hk => powT_mon hT (by decide) k (by omega)
  have ss : 31 < SS := by decide +kernel
  have ss3 : 31 < S3 := by decide +kernel
  have p3 : ∀ k, k ≤ 7 → 3 ^ k ≤ 2187 := fun k hk => Nat.le_trans (Nat.pow_le_pow_right (by decide) hk) (by decide)
  have hpow : PowOk f n (ownI 1 P) 1 e := fun k hk => by
    refine ⟨fun t ht => ⟨(mon k (by omega) t ht).1, Nat.lt_of_le_of_lt (powT_num hF hf k t ht) ss⟩, fun t ht u hu => ?_, ?_, ?_⟩
    · have a := mon k (by omega) t ht
      have b := hT u hu
      exact mon_add a.1 b.1 (by omega)
    · have a := powT_len (f := f) (n := n) tl k
      have b := p3 k (by omega)
      have := Nat.mul_le_mul (Nat.le_trans a b) tl
      omega
    · rw [Int.one_pow]
      have : 1 < SS := by decide +kernel
      exact this
  have mE := mon e (Nat.le_refl _)
  have nE := powT_num (n := n) (T := ownI 1 P) hF hf e
  have dE := powT_nd f n (ownI 1 P) e
  have lE : (powT f n (ownI 1 P) e).length ≤ 100000 := by
    have a := powT_len (f := f) (n := n) tl e
    have b := p3 e (by omega)
    omega
  have o1 : ((1 : Int) ^ e) = 1 := Int.one_pow
  have nb : 1 < NBn := by decide +kernel
  have nb62 : 31 + 31 < NBn := by decide +kernel
  refine ⟨e, he, ?_⟩
  rw [o1]
  obtain ⟨c1, c2, c3⟩ := rep_unp (o := o) hF (B := 1) (fun _ => rfl) (by decide) nb dE (fun t ht => (mE t ht).1) (fun t ht => by have := nE t ht; omega)
  obtain ⟨R, eR⟩ : ∃ R, R = unpL f n o (powT f n (ownI 1 P) e) 1 := ⟨_, rfl⟩
  rw [← eR] at c1 c2 c3 ⊢
  have lR : R.length ≤ 36 := by
    have sub : ∀ x ∈ R.map (·.2), x ∈ cmb (List.replicate n 0) ((ownI 1 P).map (·.2)) e := fun x hx => by
      obtain ⟨u, hu, rfl⟩ := List.mem_map.mp hx
      rw [eR] at hu
      unfold unpL at hu
      obtain ⟨t, ht, rfl⟩ := List.mem_map.mp ((sortT_perm n o _).mem_iff.mp hu)
      obtain ⟨v, hv, e2, _⟩ := set_mem ht
      show t.2 ∈ _
      rw [← e2]
      exact powT_key e v hv
    have := List.Nodup.length_le_of_subset c1.nd sub
    rw [List.length_map, cmb_len, List.length_map] at this
    have hb : ∀ a, a ≤ 3 → cl a e ≤ 36 := fun a ha => by
      have ha4 : a = 0 ∨ a = 1 ∨ a = 2 ∨ a = 3 := by omega
      rcases he' with rfl | rfl | rfl | rfl <;> rcases ha4 with rfl | rfl | rfl | rfl <;> decide
    have := hb _ tl
    omega
  have rp : Rep f n 1 R (powI n (ownI 1 P) e) := rep_dvd c2 (il_pow il e) fun m hm => powT_coef il e hm
  refine ⟨by omega, hpow, dE, fun t ht => ⟨(mE t ht).1, Nat.lt_of_le_of_lt (nE t ht) ss3⟩, lE, by have : 1 < S3 := by { decide +kernel }; exact this, c1, by omega, fun i hi => ?_⟩
  have ob : bd (ownI 1 R) ≤ 36 * 31 := by
    have one : ∀ t ∈ ownI 1 R, t.1.natAbs ≤ 31 := fun t ht => by
      obtain ⟨u, hu, rfl⟩ := List.mem_map.mp ht
      have o := (numOk_m hf).1 (c1.ok u hu).1.1
      have h31 := hF.lt
      show (u.1.1 * (1 / u.1.2)).natAbs ≤ 31
      rw [o.2.2]
      have : (1 : Int) / 1 = 1 := by decide
      rw [this, Int.mul_one]
      omega
    refine Nat.le_trans (bd_le one) (Nat.mul_le_mul_right _ ?_)
    unfold ownI
    rw [List.length_map]
    exact lR
  have nb3 : 36 * 31 * 60 < NBn := by decide +kernel
  obtain ⟨a, b, c, d⟩ := rep_der hF h1 h4 ho hi (B := 1) (fun _ => rfl) (by decide) nb c1 rp (by omega)
  refine ⟨a, rep_uniq (Q := []) (k := []) (C := 1) (B := 1) hF h1 h4 ho b ⟨fun u hu => (by cases hu), .nil, .nil⟩ (by decide) (by decide) (fun _ => ⟨rfl, rfl⟩) c ⟨fun t ht => (by cases ht), fun m _ => nis_zero⟩ fun m hm => ?_⟩
  obtain ⟨e', rfl⟩ : ∃ e', e = e' + 1 := ⟨e - 1, by omega⟩
  rw [der_pow hi il e' hm]
  have : (e' + 1 : Int) = f := by rw [he]; omega
  rw [this]
  show f ∣ f * _ * 1 - 0 * 1
  exact ⟨coefI (mulI (powI n (ownI 1 P) e') (derI i (ownI 1 P))) m, by omega⟩

/-! ### the law -/
section
variable {P : Program} {w : World} {K : PySem.W.Frag} {mg : Str → Option Value} {base : Heap}
/-- what stands: the ring, the row, the tables, polynomials -/
structure ST (t : TabsAt) (K : PySem.W.Frag) (r sa : Addr) (ns : List Int) (f : Int) (n : Nat) (o : Ord) (rv : V) (L : List (V × List Tm)) (H : Hp) : Prop where
  hv : RgV K H rv f n o
  row : RowAt K H r sa ns
  ts : TS t H
  pl : ∀ e ∈ L, PolyV K H f e.1 e.2
theorem ST.step {t : TabsAt} {r sa : Addr} {ns : List Int} {f : Int} {n : Nat} {o : Ord} {rv : V} {L : List (V × List Tm)} {H H' : Hp} (h : ST t K r sa ns f n o rv L H) (k : LK t K r sa ns H H') : ST t K r sa ns f n o rv L H' :=
  have tq := LK.tq h.row k
  ⟨h.hv.tp' tq.tp, k.row, k.ts, fun e he => (h.pl e he).tq tq⟩
theorem ST.ex {t : TabsAt} {r sa : Addr} {ns : List Int} {f : Int} {n : Nat} {o : Ord} {rv : V} {L : List (V × List Tm)} {H H' : Hp} (h : ST t K r sa ns f n o rv L H) (x : Ex t H H') : ST t K r sa ns f n o rv L H' := h.step (LK.ex h.row x)
theorem ST.same {t : TabsAt} {r sa : Addr} {ns : List Int} {f : Int} {n : Nat} {o : Ord} {rv : V} {L : List (V × List Tm)} {H H' : Hp} (h : ST t K r sa ns f n o rv L H) (s : Same H H') : ST t K r sa ns f n o rv L H' := h.step (LK.same h.row h.ts s)
theorem ST.rk {t : TabsAt} {r sa : Addr} {ns : List Int} {f : Int} {n : Nat} {o : Ord} {rv : V} {L : List (V × List Tm)} {H H' : Hp} (h : ST t K r sa ns f n o rv L H) (s : RK K r sa ns H H') : ST t K r sa ns f n o rv L H' := h.step (LK.rk h.row h.ts s)
theorem ST.add {t : TabsAt} {r sa : Addr} {ns : List Int} {f : Int} {n : Nat} {o : Ord} {rv : V} {L : List (V × List Tm)} {H : Hp} (h : ST t K r sa ns f n o rv L H) {v : V} {ps : List Tm} (p : PolyV K H f v ps) : ST t K r sa ns f n o rv ((v, ps) :: L) H :=
  ⟨h.hv, h.row, h.ts, fun e he => by
    rcases List.mem_cons.mp he with rfl | he
    · exact p
    · exact h.pl e he⟩
theorem can_sz {f : Int} {n : Nat} {o : Ord} {ps : List Tm} (h : Can f n o ps) (h4 : n ≤ 4) (hl : ps.length ≤ 100000) : Sz 3 (polyD f ps) := sz_poly hl fun u hu => by have := (h.ok u hu).1.2.1.1; omega
theorem eqv_self {f : Int} {n : Nat} {o : Ord} {ps : List Tm} (h : Can f n o ps) (h4 : n ≤ 4) (hl : ps.length ≤ 100000) : PyData.eqv (polyD f ps) (polyD f ps) = true := SeqAt.eqv_refl _ (sz_lay (can_sz h h4 hl)).1
theorem d_call {t : TabsAt} {r sa : Addr} {ns : List Int} {f : Int} {n : Nat} {o : Ord} {rv : V} {L : List (V × List Tm)} {H : Hp} (h : ST t K r sa ns f n o rv L H) {v : V} {ps : List Tm} (hm : (v, ps) ∈ L) {B : Int} {E M N : Nat} {D : Int} {l : IT} (g : W f n o B E M N D ps l) (hB : BOk f B) (hN : N ≤ 500) (hb : N * (M + 31) * 60 < NBn) {i : Nat} (hi : i < n) {Q : VK}
    (k : W f n o B (E + 1) (M * E) N D (polyL f n (rowsL n o) (derT f i ps)) (derI i l) → ∀ v' H', Ex t H H' → ST t K r sa ns f n o rv ((v', polyL f n (rowsL n o) (derT f i ps)) :: L) H' → Q v' H') : sp_derivative t K [rv, v, .int i] H Q E0 := by
  have hF := h.hv.hf.isF
  have h1 := h.hv.h1
  have h4 := h.hv.h4
  have ho := h.hv.ho
  obtain ⟨a, b⟩ := w_der hF h1 h4 ho hi g hB hb
  have nums := der_num hF h1 h4 ho hi g.can a
  have mons := der_mon (f := f) hi fun u hu => (g.can.ok u hu).1.2
  exact ⟨f, n, o, rv, v, ps, i, rfl, h.hv, h.pl _ hm, g.can.poly h1 h4 ho (Nat.le_trans g.len hN), hi, a, fun u hu => ⟨nums u hu, mons u hu⟩, h.ts, fun v' H' x p => k b v' H' x ((h.ex x).add p)⟩
theorem p_call {t : TabsAt} {r sa : Addr} {ns : List Int} {f : Int} {n : Nat} {o : Ord} {rv : V} {L : List (V × List Tm)} {H : Hp} (h : ST t K r sa ns f n o rv L H) {v u : V} {ps qs : List Tm} (hm : (v, ps) ∈ L) (hu : (u, qs) ∈ L) {B : Int} {E M N M' N' : Nat} {D : Int} {l j : IT} (g : W f n o B E M N D ps l) (g' : W f n o B E M' N' D qs j) (hB : BOk f B) (hN : N ≤ 500) (hN' : N' ≤ 500) (hb : N * (M + 31) + N' * (M' + 31) < NBn) {Q : VK}
    (k : W f n o B E (M + M') (N + N') D (polyL f n (rowsL n o) (ps ++ qs)) (l ++ j) → ∀ v' H', Ex t H H' → ST t K r sa ns f n o rv ((v', polyL f n (rowsL n o) (ps ++ qs)) :: L) H' → Q v' H') : sp_plus t K [rv, v, u] H Q E0 := by
  have hF := h.hv.hf.isF
  have h1 := h.hv.h1
  have h4 := h.hv.h4
  have ho := h.hv.ho
  obtain ⟨a, b⟩ := w_plus hF h1 h4 ho g g' hB hb
  exact ⟨f, n, o, rv, v, u, ps, qs, rfl, h.hv, h.pl _ hm, h.pl _ hu, g.can.poly h1 h4 ho (Nat.le_trans g.len hN), g'.can.poly h1 h4 ho (Nat.le_trans g'.len hN'), a, h.ts, fun v' H' x p => k b v' H' x ((h.ex x).add p)⟩
def timL (f : Int) (n : Nat) (o : Ord) (ps qs : List Tm) : List Tm := unpL f n o (setT f (prodT (ownI (belowZ ps) ps) (ownI (belowZ qs) qs))) (belowZ ps * belowZ qs)
theorem t_call {t : TabsAt} {r sa : Addr} {ns : List Int} {f : Int} {n : Nat} {o : Ord} {rv : V} {L : List (V × List Tm)} {H : Hp} (h : ST t K r sa ns f n o rv L H) {v u : V} {ps qs : List Tm} (hm : (v, ps) ∈ L) (hu : (u, qs) ∈ L) {B C : Int} {E M N E' M' N' : Nat} {D D' : Int} {l j : IT} (g : W f n o B E M N D ps l) (g' : W f n o C E' M' N' D' qs j) (hB : BOk f B) (hC : BOk f C) (hN : N ≤ 100) (hN' : N' ≤ 100) (hd : D + D' ≤ 60) (hb : N * (M + 31) * (N' * (M' + 31)) + 62 < NBn) {Q : VK}
    (k : W f n o (B * C) (E + E') (M * M') (N * N') (D + D') (timL f n o ps qs) (mulI l j) → ∀ v' H', Ex t H H' → ST t K r sa ns f n o rv ((v', timL f n o ps qs) :: L) H' → Q v' H') : sp_times t K [rv, v, u] H Q E0 := by
  have hF := h.hv.hf.isF
  have h1 := h.hv.h1
  have h4 := h.hv.h4
  have ho := h.hv.ho
  obtain ⟨a, b⟩ := w_times hF g g' hB hC hd hb
  have l1 := g.len
  have l2 := g'.len
  have ll : ps.length * qs.length ≤ 100 * 100 := Nat.mul_le_mul (by omega) (by omega)
  exact ⟨f, n, o, rv, v, u, ps, qs, rfl, h.hv, h.pl _ hm, h.pl _ hu, g.can.poly h1 h4 ho (by omega), g'.can.poly h1 h4 ho (by omega), g.can.nd, g'.can.nd, g.den hF hB, g'.den hF hC, a, by omega, h.ts, fun v' H' x p => k b v' H' x ((h.ex x).add p)⟩
def sp_law (t : TabsAt) (K : PySem.W.Frag) : Sp := fun vs H Q _ => ∃ (sa : Addr) (ns : List Int), vs = [.ref sa] ∧ SqL K H sa (ns.map V.int) ∧ TS t H ∧ ∀ H', Q (.bl true) H'
theorem ok_law (T : Txt K mg) {t : TabsAt} (B : TBs T base t) : FnOk P w K mg base CX0 22 T.law.f T.law.fd P_law (sp_law t K) := by
  refine T.law.F.ok sc_law (fun vs H Q E h => ?_) (fun cdv A outer s H vs Q E hr h => ?_)
  · obtain ⟨sa, ns, rfl, _⟩ := h; rfl
  · obtain ⟨sa, ns, rfl, hS, hT, k⟩ := h
    refine ⟨_, (pss_cons (ps_set (i := 1) sc_law.nd rfl (Or.inl rfl) (pe_lst (pa_cons (pv 0) (pa_cons pe_int (pa_cons pe_int (pa_cons pe_int pa_nil))))))
  (pss_cons (ps_set (i := 2) sc_law.nd rfl (Or.inl rfl) (pe_op op_add pe_int (pe_call (ok_law_taken T) (hr.mono (by decide)) rfl T.law_taken.g T.law_taken.F.kp (b_law_taken T) .nil pass0 (pa_cons (pv 1) (pa_cons pe_int pa_nil)))))
  (pss_cons (ps_set (i := 3) sc_law.nd rfl (Or.inl rfl) (pe_call (ok_law_ring T) (hr.mono (by decide)) rfl T.law_ring.g T.law_ring.F.kp (b_law_ring T) .nil pass0 (pa_cons (pv 1) (pa_cons (pv 2) pa_nil))))
  (pss_cons (ps_par rfl sc_law.nd (i := 4) (j := 5) rfl rfl (by decide) rfl rfl (pa_cons (pe_call (ok_law_poly T) (hr.mono (by decide)) rfl T.law_poly.g T.law_poly.F.kp (b_law_poly T) .nil pass0 (pa_cons (pv 1) (pa_cons (pv 3) (pa_cons pe_int (pa_cons pe_int pa_nil))))) (pa_cons (pe_call (ok_law_poly T) (hr.mono (by decide)) rfl T.law_poly.g T.law_poly.F.kp (b_law_poly T) .nil pass0 (pa_cons (pv 1) (pa_cons (pv 3) (pa_cons pe_int (pa_cons pe_int pa_nil))))) pa_nil)) rfl)
  (pss_cons (ps_par rfl sc_law.nd (i := 6) (j := 7) rfl rfl (by decide) rfl rfl (pa_cons (pe_call (ok_law_taken T) (hr.mono (by decide)) rfl T.law_taken.g T.law_taken.F.kp (b_law_taken T) .nil pass0 (pa_cons (pv 1) (pa_cons (pv 2) pa_nil))) (pa_cons (pe_call (ok_law_taken T) (hr.mono (by decide)) rfl T.law_taken.g T.law_taken.F.kp (b_law_taken T) .nil pass0 (pa_cons (pv 1) (pa_cons (pv 2) pa_nil))) pa_nil)) rfl)
  (pss_cons (ps_par rfl sc_law.nd (i := 8) (j := 9) rfl rfl (by decide) rfl rfl (pa_cons (pe_call (ok_derivative T B) (hr.mono (by decide)) rfl T.derivative.g T.derivative.F.kp (b_derivative T) .nil pass0 (pa_cons (pv 3) (pa_cons (pv 4) (pa_cons (pv 6) pa_nil)))) (pa_cons (pe_call (ok_derivative T B) (hr.mono (by decide)) rfl T.derivative.g T.derivative.F.kp (b_derivative T) .nil pass0 (pa_cons (pv 3) (pa_cons (pv 5) (pa_cons (pv 6) pa_nil)))) pa_nil)) rfl)
  (pss_cons (ps_if (pt_not (pt_val (pe_call (ok_alike_at T 5) (hr.mono (by decide)) rfl T.law_alike.g T.law_alike.F.kp (b_law_alike T) .nil pass0 (pa_cons (pv 8) (pa_cons (pe_call (ok_law_derived T) (hr.mono (by decide)) rfl T.law_derived.g T.law_derived.F.kp (b_law_derived T) .nil pass0 (pa_cons (pv 3) (pa_cons (pv 4) (pa_cons (pv 6) pa_nil)))) pa_nil))))) (pss_one (ps_ret pe_bl)) pss_nil)
  (pss_cons (ps_if (pt_cmpR (r := rNeD K) (op_neD hr.units) (pe_call (ok_derivative T B) (hr.mono (by decide)) rfl T.derivative.g T.derivative.F.kp (b_derivative T) .nil pass0 (pa_cons (pv 3) (pa_cons (pe_call (ok_plus T B) (hr.mono (by decide)) rfl T.plus.g T.plus.F.kp (b_plus T) .nil pass0 (pa_cons (pv 3) (pa_cons (pv 4) (pa_cons (pv 5) pa_nil)))) (pa_cons (pv 6) pa_nil)))) (pe_call (ok_plus T B) (hr.mono (by decide)) rfl T.plus.g T.plus.F.kp (b_plus T) .nil pass0 (pa_cons (pv 3) (pa_cons (pv 8) (pa_cons (pv 9) pa_nil)))) (nomark _)) (pss_one (ps_ret pe_bl)) pss_nil)
  (pss_cons (ps_set (i := 10) sc_law.nd rfl (Or.inl rfl) (pe_call (ok_plus T B) (hr.mono (by decide)) rfl T.plus.g T.plus.F.kp (b_plus T) .nil pass0 (pa_cons (pv 3) (pa_cons (pe_call (ok_times T B) (hr.mono (by decide)) rfl T.times.g T.times.F.kp (b_times T) .nil pass0 (pa_cons (pv 3) (pa_cons (pv 8) (pa_cons (pv 5) pa_nil)))) (pa_cons (pe_call (ok_times T B) (hr.mono (by decide)) rfl T.times.g T.times.F.kp (b_times T) .nil pass0 (pa_cons (pv 3) (pa_cons (pv 4) (pa_cons (pv 9) pa_nil)))) pa_nil)))))
  (pss_cons (ps_if (pt_not (pt_val (pe_call (ok_alike_at T 5) (hr.mono (by decide)) rfl T.law_alike.g T.law_alike.F.kp (b_law_alike T) .nil pass0 (pa_cons (pe_call (ok_derivative T B) (hr.mono (by decide)) rfl T.derivative.g T.derivative.F.kp (b_derivative T) .nil pass0 (pa_cons (pv 3) (pa_cons (pe_call (ok_times T B) (hr.mono (by decide)) rfl T.times.g T.times.F.kp (b_times T) .nil pass0 (pa_cons (pv 3) (pa_cons (pv 4) (pa_cons (pv 5) pa_nil)))) (pa_cons (pv 6) pa_nil)))) (pa_cons (pv 10) pa_nil))))) (pss_one (ps_ret pe_bl)) pss_nil)
  (pss_cons (ps_if (pt_cmpR (r := rNeD K) (op_neD hr.units) (pe_call (ok_derivative T B) (hr.mono (by decide)) rfl T.derivative.g T.derivative.F.kp (b_derivative T) .nil pass0 (pa_cons (pv 3) (pa_cons (pv 8) (pa_cons (pv 7) pa_nil)))) (pe_call (ok_derivative T B) (hr.mono (by decide)) rfl T.derivative.g T.derivative.F.kp (b_derivative T) .nil pass0 (pa_cons (pv 3) (pa_cons (pe_call (ok_derivative T B) (hr.mono (by decide)) rfl T.derivative.g T.derivative.F.kp (b_derivative T) .nil pass0 (pa_cons (pv 3) (pa_cons (pv 4) (pa_cons (pv 7) pa_nil)))) (pa_cons (pv 6) pa_nil)))) (nomark _)) (pss_one (ps_ret pe_bl)) pss_nil)
  (pss_cons (ps_set (i := 11) sc_law.nd rfl (Or.inl rfl) (pe_call (ok_law_poly T) (hr.mono (by decide)) rfl T.law_poly.g T.law_poly.F.kp (b_law_poly T) .nil pass0 (pa_cons (pv 1) (pa_cons (pv 3) (pa_cons pe_int (pa_cons pe_int pa_nil))))))
  (pss_one (ps_ret (pe_or (pe_cmpR op_eq (pe_ix (r := rIxT K) ix_tup (pv 3) pe_int (fun _ _ => rfl)) pe_int (nomark _)) (pe_or (pe_cmpR op_gt (pe_ix (r := rIxT K) ix_tup (pv 3) pe_int (fun _ _ => rfl)) pe_int (nomark _)) (pe_one (pe_cmpR (r := rEqD K) (op_eqD hr.units) (pe_call (ok_derivative T B) (hr.mono (by decide)) rfl T.derivative.g T.derivative.F.kp (b_derivative T) .nil pass0 (pa_cons (pv 3) (pa_cons (pe_call (ok_power T B) (hr.mono (by decide)) rfl T.power.g T.power.F.kp (b_power T) .nil pass0 (pa_cons (pv 3) (pa_cons (pv 11) (pa_cons (pe_ix (r := rIxT K) ix_tup (pv 3) pe_int (fun _ _ => rfl)) pa_nil)))) (pa_cons (pv 6) pa_nil)))) (pe_tup pa_nil) (nomark _))))))))))))))))))), ?_⟩
    walk_at "rd"
    refine ⟨(show 4 ≤ sizeLine by decide), fun r hrn => ?_⟩
    have s0 := same_upd (o := .lst [.ref sa, .int 0, .int 4104, .int 0]) hrn
    have row0 : RowAt K (upd H r (.lst [.ref sa, .int 0, .int 4104, .int 0])) r sa ns := by
      refine .of (ns := ns) rfl ?_ (by decide) (by decide) (by decide) (by decide)
      rcases hS with hS | hS
      · refine .inl ⟨hS, ?_⟩
        rcases hS with h | ⟨u, h⟩ <;> exact ne_of_none h hrn
      · exact .inr hS
    have ts0 := hT.same s0
    walk_at "rd"
    refine ⟨r, sa, ns, 4, rfl, row0, by decide, by decide, fun v H1 v0 v1 row1 b1 => ?_⟩
    have K1 := LK.rk row0 ts0 (.draw row1 b1)
    obtain ⟨c, rfl⟩ := Int.eq_ofNat_of_zero_le v0
    walk_at "rd"
    dsimp only
    rw [show (1 : Int) + (c : Int) = ((c + 1 : Nat) : Int) by omega]
    generalize hn : c + 1 = n
    have hn1 : 1 ≤ n := by omega
    have hn4 : n ≤ 4 := by omega
    walk_at "rd"
    refine ⟨r, sa, ns, n, rfl, hn1, hn4, row1, fun f o rv H2 hf ho hrv rk2 => ?_⟩
    have K2 := LK.rk K1.row K1.ts rk2
    have hv2 : RgV K H2 rv f n o := ⟨hf, hn1, hn4, ho, hrv⟩
    have S2 : ST t K r sa ns f n o rv [] H2 := ⟨hv2, K2.row, K2.ts, fun e he => by cases he⟩
    have hF := hf.isF
    walk_at "rd"
    refine ⟨r, sa, ns, f, n, o, rv, 4, 6, rfl, S2.hv, S2.row, by decide, by decide, by decide, fun pw ps H3 hp hP rk3 => ?_⟩
    have S3 := (S2.rk rk3).add hp
    have wp := w_drawn hF (k := 4) (m := 6) hP
    walk_at "rd"
    refine ⟨r, sa, ns, f, n, o, rv, 4, 6, rfl, S3.hv, S3.row, by decide, by decide, by decide, fun qw qs H4 hq hQ rk4 => ?_⟩
    have S4 := (S3.rk rk4).add hq
    have wq := w_drawn hF (k := 4) (m := 6) hQ
    walk_at "rd"
    refine ⟨r, sa, ns, n, rfl, S4.row, by omega, by omega, fun vi H5 i0 i1 row5 b5 => ?_⟩
    have S5 := S4.rk (.draw row5 b5)
    obtain ⟨i, rfl⟩ := Int.eq_ofNat_of_zero_le i0
    walk_at "rd"
    refine ⟨r, sa, ns, n, rfl, S5.row, by omega, by omega, fun vj H6 j0 j1 row6 b6 => ?_⟩
    have S6 := S5.rk (.draw row6 b6)
    obtain ⟨j, rfl⟩ := Int.eq_ofNat_of_zero_le j0
    have hi : i < n := by omega
    have hj : j < n := by omega
    have b6o := b6_ok f
    have b36 := b36_ok f
    walk_at "rd"
    have big : 10 ^ 40 < NBn := by decide +kernel
    have len5 : ∀ {E M N : Nat} {D : Int} {A : List Tm} {l : IT} {B : Int}, W f n o B E M N D A l → N ≤ 100000 → Sz 5 (polyD f A) := fun g h => sz_le (show 3 ≤ 5 by decide) (can_sz g.can hn4 (Nat.le_trans g.len h))
    refine d_call S6 (v := pw) (ps := ps) (by first | exact List.mem_cons_self | exact (.tail _ List.mem_cons_self) | exact (.tail _ (.tail _ List.mem_cons_self)) | exact (.tail _ (.tail _ (.tail _ List.mem_cons_self))) | exact (.tail _ (.tail _ (.tail _ (.tail _ List.mem_cons_self)))) | exact (.tail _ (.tail _ (.tail _ (.tail _ (.tail _ List.mem_cons_self))))) | exact (.tail _ (.tail _ (.tail _ (.tail _ (.tail _ (.tail _ List.mem_cons_self)))))) | exact (.tail _ (.tail _ (.tail _ (.tail _ (.tail _ (.tail _ (.tail _ List.mem_cons_self))))))) | exact (.tail _ (.tail _ (.tail _ (.tail _ (.tail _ (.tail _ (.tail _ (.tail _ List.mem_cons_self)))))))) | exact (.tail _ (.tail _ (.tail _ (.tail _ (.tail _ (.tail _ (.tail _ (.tail _ (.tail _ List.mem_cons_self))))))))) | exact (.tail _ (.tail _ (.tail _ (.tail _ (.tail _ (.tail _ (.tail _ (.tail _ (.tail _ (.tail _ List.mem_cons_self)))))))))) | exact (.tail _ (.tail _ (.tail _ (.tail _ (.tail _ (.tail _ (.tail _ (.tail _ (.tail _ (.tail _ (.tail _ List.mem_cons_self))))))))))) | exact (.tail _ (.tail _ (.tail _ (.tail _ (.tail _ (.tail _ (.tail _ (.tail _ (.tail _ (.tail _ (.tail _ (.tail _ List.mem_cons_self)))))))))))) | exact (.tail _ (.tail _ (.tail _ (.tail _ (.tail _ (.tail _ (.tail _ (.tail _ (.tail _ (.tail _ (.tail _ (.tail _ (.tail _ List.mem_cons_self))))))))))))) | exact (.tail _ (.tail _ (.tail _ (.tail _ (.tail _ (.tail _ (.tail _ (.tail _ (.tail _ (.tail _ (.tail _ (.tail _ (.tail _ (.tail _ List.mem_cons_self)))))))))))))) | exact (.tail _ (.tail _ (.tail _ (.tail _ (.tail _ (.tail _ (.tail _ (.tail _ (.tail _ (.tail _ (.tail _ (.tail _ (.tail _ (.tail _ (.tail _ List.mem_cons_self)))))))))))))))) wp b6o (by decide) (by omega) hi fun wl lv H7 x7 S7 => ?_
    walk_at "rd"
    refine d_call S7 (v := qw) (ps := qs) (by first | exact List.mem_cons_self | exact (.tail _ List.mem_cons_self) | exact (.tail _ (.tail _ List.mem_cons_self)) | exact (.tail _ (.tail _ (.tail _ List.mem_cons_self))) | exact (.tail _ (.tail _ (.tail _ (.tail _ List.mem_cons_self)))) | exact (.tail _ (.tail _ (.tail _ (.tail _ (.tail _ List.mem_cons_self))))) | exact (.tail _ (.tail _ (.tail _ (.tail _ (.tail _ (.tail _ List.mem_cons_self)))))) | exact (.tail _ (.tail _ (.tail _ (.tail _ (.tail _ (.tail _ (.tail _ List.mem_cons_self))))))) | exact (.tail _ (.tail _ (.tail _ (.tail _ (.tail _ (.tail _ (.tail _ (.tail _ List.mem_cons_self)))))))) | exact (.tail _ (.tail _ (.tail _ (.tail _ (.tail _ (.tail _ (.tail _ (.tail _ (.tail _ List.mem_cons_self))))))))) | exact (.tail _ (.tail _ (.tail _ (.tail _ (.tail _ (.tail _ (.tail _ (.tail _ (.tail _ (.tail _ List.mem_cons_self)))))))))) | exact (.tail _ (.tail _ (.tail _ (.tail _ (.tail _ (.tail _ (.tail _ (.tail _ (.tail _ (.tail _ (.tail _ List.mem_cons_self))))))))))) | exact (.tail _ (.tail _ (.tail _ (.tail _ (.tail _ (.tail _ (.tail _ (.tail _ (.tail _ (.tail _ (.tail _ (.tail _ List.mem_cons_self)))))))))))) | exact (.tail _ (.tail _ (.tail _ (.tail _ (.tail _ (.tail _ (.tail _ (.tail _ (.tail _ (.tail _ (.tail _ (.tail _ (.tail _ List.mem_cons_self))))))))))))) | exact (.tail _ (.tail _ (.tail _ (.tail _ (.tail _ (.tail _ (.tail _ (.tail _ (.tail _ (.tail _ (.tail _ (.tail _ (.tail _ (.tail _ List.mem_cons_self)))))))))))))) | exact (.tail _ (.tail _ (.tail _ (.tail _ (.tail _ (.tail _ (.tail _ (.tail _ (.tail _ (.tail _ (.tail _ (.tail _ (.tail _ (.tail _ (.tail _ List.mem_cons_self)))))))))))))))) wq b6o (by decide) (by omega) hi fun wr rr H8 x8 S8 => ?_
    walk_at "rd"
    have sl := (w_der hF hn1 hn4 ho hi wp b6o (by omega)).1
    refine ⟨f, n, o, rv, pw, ps, i, rfl, S8.hv, S8.pl (pw, ps) (by first | exact List.mem_cons_self | exact (.tail _ List.mem_cons_self) | exact (.tail _ (.tail _ List.mem_cons_self)) | exact (.tail _ (.tail _ (.tail _ List.mem_cons_self))) | exact (.tail _ (.tail _ (.tail _ (.tail _ List.mem_cons_self)))) | exact (.tail _ (.tail _ (.tail _ (.tail _ (.tail _ List.mem_cons_self))))) | exact (.tail _ (.tail _ (.tail _ (.tail _ (.tail _ (.tail _ List.mem_cons_self)))))) | exact (.tail _ (.tail _ (.tail _ (.tail _ (.tail _ (.tail _ (.tail _ List.mem_cons_self))))))) | exact (.tail _ (.tail _ (.tail _ (.tail _ (.tail _ (.tail _ (.tail _ (.tail _ List.mem_cons_self)))))))) | exact (.tail _ (.tail _ (.tail _ (.tail _ (.tail _ (.tail _ (.tail _ (.tail _ (.tail _ List.mem_cons_self))))))))) | exact (.tail _ (.tail _ (.tail _ (.tail _ (.tail _ (.tail _ (.tail _ (.tail _ (.tail _ (.tail _ List.mem_cons_self)))))))))) | exact (.tail _ (.tail _ (.tail _ (.tail _ (.tail _ (.tail _ (.tail _ (.tail _ (.tail _ (.tail _ (.tail _ List.mem_cons_self))))))))))) | exact (.tail _ (.tail _ (.tail _ (.tail _ (.tail _ (.tail _ (.tail _ (.tail _ (.tail _ (.tail _ (.tail _ (.tail _ List.mem_cons_self)))))))))))) | exact (.tail _ (.tail _ (.tail _ (.tail _ (.tail _ (.tail _ (.tail _ (.tail _ (.tail _ (.tail _ (.tail _ (.tail _ (.tail _ List.mem_cons_self))))))))))))) | exact (.tail _ (.tail _ (.tail _ (.tail _ (.tail _ (.tail _ (.tail _ (.tail _ (.tail _ (.tail _ (.tail _ (.tail _ (.tail _ (.tail _ List.mem_cons_self)))))))))))))) | exact (.tail _ (.tail _ (.tail _ (.tail _ (.tail _ (.tail _ (.tail _ (.tail _ (.tail _ (.tail _ (.tail _ (.tail _ (.tail _ (.tail _ (.tail _ List.mem_cons_self)))))))))))))))), wp.can, Nat.le_trans wp.len (by decide), hi, sl, fun v9 H9 p9 s9 => ?_⟩
    have S9 := S8.same s9
    walk_at "rd"
    refine ⟨al_dp 5 (len5 wl (by decide)) (S9.pl (lv, _) (by first | exact List.mem_cons_self | exact (.tail _ List.mem_cons_self) | exact (.tail _ (.tail _ List.mem_cons_self)) | exact (.tail _ (.tail _ (.tail _ List.mem_cons_self))) | exact (.tail _ (.tail _ (.tail _ (.tail _ List.mem_cons_self)))) | exact (.tail _ (.tail _ (.tail _ (.tail _ (.tail _ List.mem_cons_self))))) | exact (.tail _ (.tail _ (.tail _ (.tail _ (.tail _ (.tail _ List.mem_cons_self)))))) | exact (.tail _ (.tail _ (.tail _ (.tail _ (.tail _ (.tail _ (.tail _ List.mem_cons_self))))))) | exact (.tail _ (.tail _ (.tail _ (.tail _ (.tail _ (.tail _ (.tail _ (.tail _ List.mem_cons_self)))))))) | exact (.tail _ (.tail _ (.tail _ (.tail _ (.tail _ (.tail _ (.tail _ (.tail _ (.tail _ List.mem_cons_self))))))))) | exact (.tail _ (.tail _ (.tail _ (.tail _ (.tail _ (.tail _ (.tail _ (.tail _ (.tail _ (.tail _ List.mem_cons_self)))))))))) | exact (.tail _ (.tail _ (.tail _ (.tail _ (.tail _ (.tail _ (.tail _ (.tail _ (.tail _ (.tail _ (.tail _ List.mem_cons_self))))))))))) | exact (.tail _ (.tail _ (.tail _ (.tail _ (.tail _ (.tail _ (.tail _ (.tail _ (.tail _ (.tail _ (.tail _ (.tail _ List.mem_cons_self)))))))))))) | exact (.tail _ (.tail _ (.tail _ (.tail _ (.tail _ (.tail _ (.tail _ (.tail _ (.tail _ (.tail _ (.tail _ (.tail _ (.tail _ List.mem_cons_self))))))))))))) | exact (.tail _ (.tail _ (.tail _ (.tail _ (.tail _ (.tail _ (.tail _ (.tail _ (.tail _ (.tail _ (.tail _ (.tail _ (.tail _ (.tail _ List.mem_cons_self)))))))))))))) | exact (.tail _ (.tail _ (.tail _ (.tail _ (.tail _ (.tail _ (.tail _ (.tail _ (.tail _ (.tail _ (.tail _ (.tail _ (.tail _ (.tail _ (.tail _ List.mem_cons_self))))))))))))))))).dp p9.dp, fun H10 s10 => ⟨true, rfl, iteF ?_⟩⟩
    have S10 := S9.same s10
    walk_at "rd"
    refine p_call S10 (v := pw) (ps := ps) (u := qw) (qs := qs) (by first | exact List.mem_cons_self | exact (.tail _ List.mem_cons_self) | exact (.tail _ (.tail _ List.mem_cons_self)) | exact (.tail _ (.tail _ (.tail _ List.mem_cons_self))) | exact (.tail _ (.tail _ (.tail _ (.tail _ List.mem_cons_self)))) | exact (.tail _ (.tail _ (.tail _ (.tail _ (.tail _ List.mem_cons_self))))) | exact (.tail _ (.tail _ (.tail _ (.tail _ (.tail _ (.tail _ List.mem_cons_self)))))) | exact (.tail _ (.tail _ (.tail _ (.tail _ (.tail _ (.tail _ (.tail _ List.mem_cons_self))))))) | exact (.tail _ (.tail _ (.tail _ (.tail _ (.tail _ (.tail _ (.tail _ (.tail _ List.mem_cons_self)))))))) | exact (.tail _ (.tail _ (.tail _ (.tail _ (.tail _ (.tail _ (.tail _ (.tail _ (.tail _ List.mem_cons_self))))))))) | exact (.tail _ (.tail _ (.tail _ (.tail _ (.tail _ (.tail _ (.tail _ (.tail _ (.tail _ (.tail _ List.mem_cons_self)))))))))) | exact (.tail _ (.tail _ (.tail _ (.tail _ (.tail _ (.tail _ (.tail _ (.tail _ (.tail _ (.tail _ (.tail _ List.mem_cons_self))))))))))) | exact (.tail _ (.tail _ (.tail _ (.tail _ (.tail _ (.tail _ (.tail _ (.tail _ (.tail _ (.tail _ (.tail _ (.tail _ List.mem_cons_self)))))))))))) | exact (.tail _ (.tail _ (.tail _ (.tail _ (.tail _ (.tail _ (.tail _ (.tail _ (.tail _ (.tail _ (.tail _ (.tail _ (.tail _ List.mem_cons_self))))))))))))) | exact (.tail _ (.tail _ (.tail _ (.tail _ (.tail _ (.tail _ (.tail _ (.tail _ (.tail _ (.tail _ (.tail _ (.tail _ (.tail _ (.tail _ List.mem_cons_self)))))))))))))) | exact (.tail _ (.tail _ (.tail _ (.tail _ (.tail _ (.tail _ (.tail _ (.tail _ (.tail _ (.tail _ (.tail _ (.tail _ (.tail _ (.tail _ (.tail _ List.mem_cons_self)))))))))))))))) (by first | exact List.mem_cons_self | exact (.tail _ List.mem_cons_self) | exact (.tail _ (.tail _ List.mem_cons_self)) | exact (.tail _ (.tail _ (.tail _ List.mem_cons_self))) | exact (.tail _ (.tail _ (.tail _ (.tail _ List.mem_cons_self)))) | exact (.tail _ (.tail _ (.tail _ (.tail _ (.tail _ List.mem_cons_self))))) | exact (.tail _ (.tail _ (.tail _ (.tail _ (.tail _ (.tail _ List.mem_cons_self)))))) | exact (.tail _ (.tail _ (.tail _ (.tail _ (.tail _ (.tail _ (.tail _ List.mem_cons_self))))))) | exact (.tail _ (.tail _ (.tail _ (.tail _ (.tail _ (.tail _ (.tail _ (.tail _ List.mem_cons_self)))))))) | exact (.tail _ (.tail _ (.tail _ (.tail _ (.tail _ (.tail _ (.tail _ (.tail _ (.tail _ List.mem_cons_self))))))))) | exact (.tail _ (.tail _ (.tail _ (.tail _ (.tail _ (.tail _ (.tail _ (.tail _ (.tail _ (.tail _ List.mem_cons_self)))))))))) | exact (.tail _ (.tail _ (.tail _ (.tail _ (.tail _ (.tail _ (.tail _ (.tail _ (.tail _ (.tail _ (.tail _ List.mem_cons_self))))))))))) | exact (.tail _ (.tail _ (.tail _ (.tail _ (.tail _ (.tail _ (.tail _ (.tail _ (.tail _ (.tail _ (.tail _ (.tail _ List.mem_cons_self)))))))))))) | exact (.tail _ (.tail _ (.tail _ (.tail _ (.tail _ (.tail _ (.tail _ (.tail _ (.tail _ (.tail _ (.tail _ (.tail _ (.tail _ List.mem_cons_self))))))))))))) | exact (.tail _ (.tail _ (.tail _ (.tail _ (.tail _ (.tail _ (.tail _ (.tail _ (.tail _ (.tail _ (.tail _ (.tail _ (.tail _ (.tail _ List.mem_cons_self)))))))))))))) | exact (.tail _ (.tail _ (.tail _ (.tail _ (.tail _ (.tail _ (.tail _ (.tail _ (.tail _ (.tail _ (.tail _ (.tail _ (.tail _ (.tail _ (.tail _ List.mem_cons_self)))))))))))))))) wp wq b6o (by decide) (by decide) (by omega) fun ws sv H11 x11 S11 => ?_
    walk_at "rd"
    refine d_call S11 (v := sv) (ps := _) List.mem_cons_self ws b6o (by decide) (by omega) hi fun wds dsv H12 x12 S12 => ?_
    walk_at "rd"
    refine p_call S12 (v := lv) (ps := _) (u := rr) (qs := _) (by first | exact List.mem_cons_self | exact (.tail _ List.mem_cons_self) | exact (.tail _ (.tail _ List.mem_cons_self)) | exact (.tail _ (.tail _ (.tail _ List.mem_cons_self))) | exact (.tail _ (.tail _ (.tail _ (.tail _ List.mem_cons_self)))) | exact (.tail _ (.tail _ (.tail _ (.tail _ (.tail _ List.mem_cons_self))))) | exact (.tail _ (.tail _ (.tail _ (.tail _ (.tail _ (.tail _ List.mem_cons_self)))))) | exact (.tail _ (.tail _ (.tail _ (.tail _ (.tail _ (.tail _ (.tail _ List.mem_cons_self))))))) | exact (.tail _ (.tail _ (.tail _ (.tail _ (.tail _ (.tail _ (.tail _ (.tail _ List.mem_cons_self)))))))) | exact (.tail _ (.tail _ (.tail _ (.tail _ (.tail _ (.tail _ (.tail _ (.tail _ (.tail _ List.mem_cons_self))))))))) | exact (.tail _ (.tail _ (.tail _ (.tail _ (.tail _ (.tail _ (.tail _ (.tail _ (.tail _ (.tail _ List.mem_cons_self)))))))))) | exact (.tail _ (.tail _ (.tail _ (.tail _ (.tail _ (.tail _ (.tail _ (.tail _ (.tail _ (.tail _ (.tail _ List.mem_cons_self))))))))))) | exact (.tail _ (.tail _ (.tail _ (.tail _ (.tail _ (.tail _ (.tail _ (.tail _ (.tail _ (.tail _ (.tail _ (.tail _ List.mem_cons_self)))))))))))) | exact (.tail _ (.tail _ (.tail _ (.tail _ (.tail _ (.tail _ (.tail _ (.tail _ (.tail _ (.tail _ (.tail _ (.tail _ (.tail _ List.mem_cons_self))))))))))))) | exact (.tail _ (.tail _ (.tail _ (.tail _ (.tail _ (.tail _ (.tail _ (.tail _ (.tail _ (.tail _ (.tail _ (.tail _ (.tail _ (.tail _ List.mem_cons_self)))))))))))))) | exact (.tail _ (.tail _ (.tail _ (.tail _ (.tail _ (.tail _ (.tail _ (.tail _ (.tail _ (.tail _ (.tail _ (.tail _ (.tail _ (.tail _ (.tail _ List.mem_cons_self)))))))))))))))) (by first | exact List.mem_cons_self | exact (.tail _ List.mem_cons_self) | exact (.tail _ (.tail _ List.mem_cons_self)) | exact (.tail _ (.tail _ (.tail _ List.mem_cons_self))) | exact (.tail _ (.tail _ (.tail _ (.tail _ List.mem_cons_self)))) | exact (.tail _ (.tail _ (.tail _ (.tail _ (.tail _ List.mem_cons_self))))) | exact (.tail _ (.tail _ (.tail _ (.tail _ (.tail _ (.tail _ List.mem_cons_self)))))) | exact (.tail _ (.tail _ (.tail _ (.tail _ (.tail _ (.tail _ (.tail _ List.mem_cons_self))))))) | exact (.tail _ (.tail _ (.tail _ (.tail _ (.tail _ (.tail _ (.tail _ (.tail _ List.mem_cons_self)))))))) | exact (.tail _ (.tail _ (.tail _ (.tail _ (.tail _ (.tail _ (.tail _ (.tail _ (.tail _ List.mem_cons_self))))))))) | exact (.tail _ (.tail _ (.tail _ (.tail _ (.tail _ (.tail _ (.tail _ (.tail _ (.tail _ (.tail _ List.mem_cons_self)))))))))) | exact (.tail _ (.tail _ (.tail _ (.tail _ (.tail _ (.tail _ (.tail _ (.tail _ (.tail _ (.tail _ (.tail _ List.mem_cons_self))))))))))) | exact (.tail _ (.tail _ (.tail _ (.tail _ (.tail _ (.tail _ (.tail _ (.tail _ (.tail _ (.tail _ (.tail _ (.tail _ List.mem_cons_self)))))))))))) | exact (.tail _ (.tail _ (.tail _ (.tail _ (.tail _ (.tail _ (.tail _ (.tail _ (.tail _ (.tail _ (.tail _ (.tail _ (.tail _ List.mem_cons_self))))))))))))) | exact (.tail _ (.tail _ (.tail _ (.tail _ (.tail _ (.tail _ (.tail _ (.tail _ (.tail _ (.tail _ (.tail _ (.tail _ (.tail _ (.tail _ List.mem_cons_self)))))))))))))) | exact (.tail _ (.tail _ (.tail _ (.tail _ (.tail _ (.tail _ (.tail _ (.tail _ (.tail _ (.tail _ (.tail _ (.tail _ (.tail _ (.tail _ (.tail _ List.mem_cons_self)))))))))))))))) wl wr b6o (by decide) (by decide) (by omega) fun wlr lrv H13 x13 S13 => ?_
    have e7 : polyL f n (rowsL n o) (derT f i (polyL f n (rowsL n o) (ps ++ qs))) = polyL f n (rowsL n o) (polyL f n (rowsL n o) (derT f i ps) ++ polyL f n (rowsL n o) (derT f i qs)) :=
      rep_uniq hF hn1 hn4 ho wds.can wlr.can b6o.pos b6o.pos (fun z => ⟨b6o.one z, b6o.one z⟩) wds.rep wlr.rep fun m hm => by rw [der_app]; exact ⟨0, by omega⟩
    have a12 := S13.pl (dsv, _) (by first | exact List.mem_cons_self | exact (.tail _ List.mem_cons_self) | exact (.tail _ (.tail _ List.mem_cons_self)) | exact (.tail _ (.tail _ (.tail _ List.mem_cons_self))) | exact (.tail _ (.tail _ (.tail _ (.tail _ List.mem_cons_self)))) | exact (.tail _ (.tail _ (.tail _ (.tail _ (.tail _ List.mem_cons_self))))) | exact (.tail _ (.tail _ (.tail _ (.tail _ (.tail _ (.tail _ List.mem_cons_self)))))) | exact (.tail _ (.tail _ (.tail _ (.tail _ (.tail _ (.tail _ (.tail _ List.mem_cons_self))))))) | exact (.tail _ (.tail _ (.tail _ (.tail _ (.tail _ (.tail _ (.tail _ (.tail _ List.mem_cons_self)))))))) | exact (.tail _ (.tail _ (.tail _ (.tail _ (.tail _ (.tail _ (.tail _ (.tail _ (.tail _ List.mem_cons_self))))))))) | exact (.tail _ (.tail _ (.tail _ (.tail _ (.tail _ (.tail _ (.tail _ (.tail _ (.tail _ (.tail _ List.mem_cons_self)))))))))) | exact (.tail _ (.tail _ (.tail _ (.tail _ (.tail _ (.tail _ (.tail _ (.tail _ (.tail _ (.tail _ (.tail _ List.mem_cons_self))))))))))) | exact (.tail _ (.tail _ (.tail _ (.tail _ (.tail _ (.tail _ (.tail _ (.tail _ (.tail _ (.tail _ (.tail _ (.tail _ List.mem_cons_self)))))))))))) | exact (.tail _ (.tail _ (.tail _ (.tail _ (.tail _ (.tail _ (.tail _ (.tail _ (.tail _ (.tail _ (.tail _ (.tail _ (.tail _ List.mem_cons_self))))))))))))) | exact (.tail _ (.tail _ (.tail _ (.tail _ (.tail _ (.tail _ (.tail _ (.tail _ (.tail _ (.tail _ (.tail _ (.tail _ (.tail _ (.tail _ List.mem_cons_self)))))))))))))) | exact (.tail _ (.tail _ (.tail _ (.tail _ (.tail _ (.tail _ (.tail _ (.tail _ (.tail _ (.tail _ (.tail _ (.tail _ (.tail _ (.tail _ (.tail _ List.mem_cons_self))))))))))))))))
    have a13 := S13.pl (lrv, _) (by first | exact List.mem_cons_self | exact (.tail _ List.mem_cons_self) | exact (.tail _ (.tail _ List.mem_cons_self)) | exact (.tail _ (.tail _ (.tail _ List.mem_cons_self))) | exact (.tail _ (.tail _ (.tail _ (.tail _ List.mem_cons_self)))) | exact (.tail _ (.tail _ (.tail _ (.tail _ (.tail _ List.mem_cons_self))))) | exact (.tail _ (.tail _ (.tail _ (.tail _ (.tail _ (.tail _ List.mem_cons_self)))))) | exact (.tail _ (.tail _ (.tail _ (.tail _ (.tail _ (.tail _ (.tail _ List.mem_cons_self))))))) | exact (.tail _ (.tail _ (.tail _ (.tail _ (.tail _ (.tail _ (.tail _ (.tail _ List.mem_cons_self)))))))) | exact (.tail _ (.tail _ (.tail _ (.tail _ (.tail _ (.tail _ (.tail _ (.tail _ (.tail _ List.mem_cons_self))))))))) | exact (.tail _ (.tail _ (.tail _ (.tail _ (.tail _ (.tail _ (.tail _ (.tail _ (.tail _ (.tail _ List.mem_cons_self)))))))))) | exact (.tail _ (.tail _ (.tail _ (.tail _ (.tail _ (.tail _ (.tail _ (.tail _ (.tail _ (.tail _ (.tail _ List.mem_cons_self))))))))))) | exact (.tail _ (.tail _ (.tail _ (.tail _ (.tail _ (.tail _ (.tail _ (.tail _ (.tail _ (.tail _ (.tail _ (.tail _ List.mem_cons_self)))))))))))) | exact (.tail _ (.tail _ (.tail _ (.tail _ (.tail _ (.tail _ (.tail _ (.tail _ (.tail _ (.tail _ (.tail _ (.tail _ (.tail _ List.mem_cons_self))))))))))))) | exact (.tail _ (.tail _ (.tail _ (.tail _ (.tail _ (.tail _ (.tail _ (.tail _ (.tail _ (.tail _ (.tail _ (.tail _ (.tail _ (.tail _ List.mem_cons_self)))))))))))))) | exact (.tail _ (.tail _ (.tail _ (.tail _ (.tail _ (.tail _ (.tail _ (.tail _ (.tail _ (.tail _ (.tail _ (.tail _ (.tail _ (.tail _ (.tail _ List.mem_cons_self))))))))))))))))
    rw [e7] at a12
    have z13 := can_sz wlr.can hn4 (Nat.le_trans wlr.len (by decide))
    refine ⟨_, _, a12.dp, a13.dp, sz_shaped z13 (by decide), sz_shaped z13 (by decide), ?_⟩
    rw [eqv_self wlr.can hn4 (Nat.le_trans wlr.len (by decide))]
    refine ⟨_, rfl, iteF ?_⟩
    walk_at "rd"
    refine t_call S13 (v := lv) (ps := _) (u := qw) (qs := qs) (by first | exact List.mem_cons_self | exact (.tail _ List.mem_cons_self) | exact (.tail _ (.tail _ List.mem_cons_self)) | exact (.tail _ (.tail _ (.tail _ List.mem_cons_self))) | exact (.tail _ (.tail _ (.tail _ (.tail _ List.mem_cons_self)))) | exact (.tail _ (.tail _ (.tail _ (.tail _ (.tail _ List.mem_cons_self))))) | exact (.tail _ (.tail _ (.tail _ (.tail _ (.tail _ (.tail _ List.mem_cons_self)))))) | exact (.tail _ (.tail _ (.tail _ (.tail _ (.tail _ (.tail _ (.tail _ List.mem_cons_self))))))) | exact (.tail _ (.tail _ (.tail _ (.tail _ (.tail _ (.tail _ (.tail _ (.tail _ List.mem_cons_self)))))))) | exact (.tail _ (.tail _ (.tail _ (.tail _ (.tail _ (.tail _ (.tail _ (.tail _ (.tail _ List.mem_cons_self))))))))) | exact (.tail _ (.tail _ (.tail _ (.tail _ (.tail _ (.tail _ (.tail _ (.tail _ (.tail _ (.tail _ List.mem_cons_self)))))))))) | exact (.tail _ (.tail _ (.tail _ (.tail _ (.tail _ (.tail _ (.tail _ (.tail _ (.tail _ (.tail _ (.tail _ List.mem_cons_self))))))))))) | exact (.tail _ (.tail _ (.tail _ (.tail _ (.tail _ (.tail _ (.tail _ (.tail _ (.tail _ (.tail _ (.tail _ (.tail _ List.mem_cons_self)))))))))))) | exact (.tail _ (.tail _ (.tail _ (.tail _ (.tail _ (.tail _ (.tail _ (.tail _ (.tail _ (.tail _ (.tail _ (.tail _ (.tail _ List.mem_cons_self))))))))))))) | exact (.tail _ (.tail _ (.tail _ (.tail _ (.tail _ (.tail _ (.tail _ (.tail _ (.tail _ (.tail _ (.tail _ (.tail _ (.tail _ (.tail _ List.mem_cons_self)))))))))))))) | exact (.tail _ (.tail _ (.tail _ (.tail _ (.tail _ (.tail _ (.tail _ (.tail _ (.tail _ (.tail _ (.tail _ (.tail _ (.tail _ (.tail _ (.tail _ List.mem_cons_self)))))))))))))))) (by first | exact List.mem_cons_self | exact (.tail _ List.mem_cons_self) | exact (.tail _ (.tail _ List.mem_cons_self)) | exact (.tail _ (.tail _ (.tail _ List.mem_cons_self))) | exact (.tail _ (.tail _ (.tail _ (.tail _ List.mem_cons_self)))) | exact (.tail _ (.tail _ (.tail _ (.tail _ (.tail _ List.mem_cons_self))))) | exact (.tail _ (.tail _ (.tail _ (.tail _ (.tail _ (.tail _ List.mem_cons_self)))))) | exact (.tail _ (.tail _ (.tail _ (.tail _ (.tail _ (.tail _ (.tail _ List.mem_cons_self))))))) | exact (.tail _ (.tail _ (.tail _ (.tail _ (.tail _ (.tail _ (.tail _ (.tail _ List.mem_cons_self)))))))) | exact (.tail _ (.tail _ (.tail _ (.tail _ (.tail _ (.tail _ (.tail _ (.tail _ (.tail _ List.mem_cons_self))))))))) | exact (.tail _ (.tail _ (.tail _ (.tail _ (.tail _ (.tail _ (.tail _ (.tail _ (.tail _ (.tail _ List.mem_cons_self)))))))))) | exact (.tail _ (.tail _ (.tail _ (.tail _ (.tail _ (.tail _ (.tail _ (.tail _ (.tail _ (.tail _ (.tail _ List.mem_cons_self))))))))))) | exact (.tail _ (.tail _ (.tail _ (.tail _ (.tail _ (.tail _ (.tail _ (.tail _ (.tail _ (.tail _ (.tail _ (.tail _ List.mem_cons_self)))))))))))) | exact (.tail _ (.tail _ (.tail _ (.tail _ (.tail _ (.tail _ (.tail _ (.tail _ (.tail _ (.tail _ (.tail _ (.tail _ (.tail _ List.mem_cons_self))))))))))))) | exact (.tail _ (.tail _ (.tail _ (.tail _ (.tail _ (.tail _ (.tail _ (.tail _ (.tail _ (.tail _ (.tail _ (.tail _ (.tail _ (.tail _ List.mem_cons_self)))))))))))))) | exact (.tail _ (.tail _ (.tail _ (.tail _ (.tail _ (.tail _ (.tail _ (.tail _ (.tail _ (.tail _ (.tail _ (.tail _ (.tail _ (.tail _ (.tail _ List.mem_cons_self)))))))))))))))) wl wq b6o b6o (by decide) (by decide) (by decide) (by omega) fun wt1 t1 H14 x14 S14 => ?_
    walk_at "rd"
    refine t_call S14 (v := pw) (ps := ps) (u := rr) (qs := _) (by first | exact List.mem_cons_self | exact (.tail _ List.mem_cons_self) | exact (.tail _ (.tail _ List.mem_cons_self)) | exact (.tail _ (.tail _ (.tail _ List.mem_cons_self))) | exact (.tail _ (.tail _ (.tail _ (.tail _ List.mem_cons_self)))) | exact (.tail _ (.tail _ (.tail _ (.tail _ (.tail _ List.mem_cons_self))))) | exact (.tail _ (.tail _ (.tail _ (.tail _ (.tail _ (.tail _ List.mem_cons_self)))))) | exact (.tail _ (.tail _ (.tail _ (.tail _ (.tail _ (.tail _ (.tail _ List.mem_cons_self))))))) | exact (.tail _ (.tail _ (.tail _ (.tail _ (.tail _ (.tail _ (.tail _ (.tail _ List.mem_cons_self)))))))) | exact (.tail _ (.tail _ (.tail _ (.tail _ (.tail _ (.tail _ (.tail _ (.tail _ (.tail _ List.mem_cons_self))))))))) | exact (.tail _ (.tail _ (.tail _ (.tail _ (.tail _ (.tail _ (.tail _ (.tail _ (.tail _ (.tail _ List.mem_cons_self)))))))))) | exact (.tail _ (.tail _ (.tail _ (.tail _ (.tail _ (.tail _ (.tail _ (.tail _ (.tail _ (.tail _ (.tail _ List.mem_cons_self))))))))))) | exact (.tail _ (.tail _ (.tail _ (.tail _ (.tail _ (.tail _ (.tail _ (.tail _ (.tail _ (.tail _ (.tail _ (.tail _ List.mem_cons_self)))))))))))) | exact (.tail _ (.tail _ (.tail _ (.tail _ (.tail _ (.tail _ (.tail _ (.tail _ (.tail _ (.tail _ (.tail _ (.tail _ (.tail _ List.mem_cons_self))))))))))))) | exact (.tail _ (.tail _ (.tail _ (.tail _ (.tail _ (.tail _ (.tail _ (.tail _ (.tail _ (.tail _ (.tail _ (.tail _ (.tail _ (.tail _ List.mem_cons_self)))))))))))))) | exact (.tail _ (.tail _ (.tail _ (.tail _ (.tail _ (.tail _ (.tail _ (.tail _ (.tail _ (.tail _ (.tail _ (.tail _ (.tail _ (.tail _ (.tail _ List.mem_cons_self)))))))))))))))) (by first | exact List.mem_cons_self | exact (.tail _ List.mem_cons_self) | exact (.tail _ (.tail _ List.mem_cons_self)) | exact (.tail _ (.tail _ (.tail _ List.mem_cons_self))) | exact (.tail _ (.tail _ (.tail _ (.tail _ List.mem_cons_self)))) | exact (.tail _ (.tail _ (.tail _ (.tail _ (.tail _ List.mem_cons_self))))) | exact (.tail _ (.tail _ (.tail _ (.tail _ (.tail _ (.tail _ List.mem_cons_self)))))) | exact (.tail _ (.tail _ (.tail _ (.tail _ (.tail _ (.tail _ (.tail _ List.mem_cons_self))))))) | exact (.tail _ (.tail _ (.tail _ (.tail _ (.tail _ (.tail _ (.tail _ (.tail _ List.mem_cons_self)))))))) | exact (.tail _ (.tail _ (.tail _ (.tail _ (.tail _ (.tail _ (.tail _ (.tail _ (.tail _ List.mem_cons_self))))))))) | exact (.tail _ (.tail _ (.tail _ (.tail _ (.tail _ (.tail _ (.tail _ (.tail _ (.tail _ (.tail _ List.mem_cons_self)))))))))) | exact (.tail _ (.tail _ (.tail _ (.tail _ (.tail _ (.tail _ (.tail _ (.tail _ (.tail _ (.tail _ (.tail _ List.mem_cons_self))))))))))) | exact (.tail _ (.tail _ (.tail _ (.tail _ (.tail _ (.tail _ (.tail _ (.tail _ (.tail _ (.tail _ (.tail _ (.tail _ List.mem_cons_self)))))))))))) | exact (.tail _ (.tail _ (.tail _ (.tail _ (.tail _ (.tail _ (.tail _ (.tail _ (.tail _ (.tail _ (.tail _ (.tail _ (.tail _ List.mem_cons_self))))))))))))) | exact (.tail _ (.tail _ (.tail _ (.tail _ (.tail _ (.tail _ (.tail _ (.tail _ (.tail _ (.tail _ (.tail _ (.tail _ (.tail _ (.tail _ List.mem_cons_self)))))))))))))) | exact (.tail _ (.tail _ (.tail _ (.tail _ (.tail _ (.tail _ (.tail _ (.tail _ (.tail _ (.tail _ (.tail _ (.tail _ (.tail _ (.tail _ (.tail _ List.mem_cons_self)))))))))))))))) wp wr b6o b6o (by decide) (by decide) (by decide) (by omega) fun wt2 t2 H15 x15 S15 => ?_
    walk_at "rd"
    refine p_call S15 (v := t1) (ps := _) (u := t2) (qs := _) (by first | exact List.mem_cons_self | exact (.tail _ List.mem_cons_self) | exact (.tail _ (.tail _ List.mem_cons_self)) | exact (.tail _ (.tail _ (.tail _ List.mem_cons_self))) | exact (.tail _ (.tail _ (.tail _ (.tail _ List.mem_cons_self)))) | exact (.tail _ (.tail _ (.tail _ (.tail _ (.tail _ List.mem_cons_self))))) | exact (.tail _ (.tail _ (.tail _ (.tail _ (.tail _ (.tail _ List.mem_cons_self)))))) | exact (.tail _ (.tail _ (.tail _ (.tail _ (.tail _ (.tail _ (.tail _ List.mem_cons_self))))))) | exact (.tail _ (.tail _ (.tail _ (.tail _ (.tail _ (.tail _ (.tail _ (.tail _ List.mem_cons_self)))))))) | exact (.tail _ (.tail _ (.tail _ (.tail _ (.tail _ (.tail _ (.tail _ (.tail _ (.tail _ List.mem_cons_self))))))))) | exact (.tail _ (.tail _ (.tail _ (.tail _ (.tail _ (.tail _ (.tail _ (.tail _ (.tail _ (.tail _ List.mem_cons_self)))))))))) | exact (.tail _ (.tail _ (.tail _ (.tail _ (.tail _ (.tail _ (.tail _ (.tail _ (.tail _ (.tail _ (.tail _ List.mem_cons_self))))))))))) | exact (.tail _ (.tail _ (.tail _ (.tail _ (.tail _ (.tail _ (.tail _ (.tail _ (.tail _ (.tail _ (.tail _ (.tail _ List.mem_cons_self)))))))))))) | exact (.tail _ (.tail _ (.tail _ (.tail _ (.tail _ (.tail _ (.tail _ (.tail _ (.tail _ (.tail _ (.tail _ (.tail _ (.tail _ List.mem_cons_self))))))))))))) | exact (.tail _ (.tail _ (.tail _ (.tail _ (.tail _ (.tail _ (.tail _ (.tail _ (.tail _ (.tail _ (.tail _ (.tail _ (.tail _ (.tail _ List.mem_cons_self)))))))))))))) | exact (.tail _ (.tail _ (.tail _ (.tail _ (.tail _ (.tail _ (.tail _ (.tail _ (.tail _ (.tail _ (.tail _ (.tail _ (.tail _ (.tail _ (.tail _ List.mem_cons_self)))))))))))))))) (by first | exact List.mem_cons_self | exact (.tail _ List.mem_cons_self) | exact (.tail _ (.tail _ List.mem_cons_self)) | exact (.tail _ (.tail _ (.tail _ List.mem_cons_self))) | exact (.tail _ (.tail _ (.tail _ (.tail _ List.mem_cons_self)))) | exact (.tail _ (.tail _ (.tail _ (.tail _ (.tail _ List.mem_cons_self))))) | exact (.tail _ (.tail _ (.tail _ (.tail _ (.tail _ (.tail _ List.mem_cons_self)))))) | exact (.tail _ (.tail _ (.tail _ (.tail _ (.tail _ (.tail _ (.tail _ List.mem_cons_self))))))) | exact (.tail _ (.tail _ (.tail _ (.tail _ (.tail _ (.tail _ (.tail _ (.tail _ List.mem_cons_self)))))))) | exact (.tail _ (.tail _ (.tail _ (.tail _ (.tail _ (.tail _ (.tail _ (.tail _ (.tail _ List.mem_cons_self))))))))) | exact (.tail _ (.tail _ (.tail _ (.tail _ (.tail _ (.tail _ (.tail _ (.tail _ (.tail _ (.tail _ List.mem_cons_self)))))))))) | exact (.tail _ (.tail _ (.tail _ (.tail _ (.tail _ (.tail _ (.tail _ (.tail _ (.tail _ (.tail _ (.tail _ List.mem_cons_self))))))))))) | exact (.tail _ (.tail _ (.tail _ (.tail _ (.tail _ (.tail _ (.tail _ (.tail _ (.tail _ (.tail _ (.tail _ (.tail _ List.mem_cons_self)))))))))))) | exact (.tail _ (.tail _ (.tail _ (.tail _ (.tail _ (.tail _ (.tail _ (.tail _ (.tail _ (.tail _ (.tail _ (.tail _ (.tail _ List.mem_cons_self))))))))))))) | exact (.tail _ (.tail _ (.tail _ (.tail _ (.tail _ (.tail _ (.tail _ (.tail _ (.tail _ (.tail _ (.tail _ (.tail _ (.tail _ (.tail _ List.mem_cons_self)))))))))))))) | exact (.tail _ (.tail _ (.tail _ (.tail _ (.tail _ (.tail _ (.tail _ (.tail _ (.tail _ (.tail _ (.tail _ (.tail _ (.tail _ (.tail _ (.tail _ List.mem_cons_self)))))))))))))))) wt1 wt2 b36 (by decide) (by decide) (by omega) fun wdue due H16 x16 S16 => ?_
    walk_at "rd"
    refine t_call S16 (v := pw) (ps := ps) (u := qw) (qs := qs) (by first | exact List.mem_cons_self | exact (.tail _ List.mem_cons_self) | exact (.tail _ (.tail _ List.mem_cons_self)) | exact (.tail _ (.tail _ (.tail _ List.mem_cons_self))) | exact (.tail _ (.tail _ (.tail _ (.tail _ List.mem_cons_self)))) | exact (.tail _ (.tail _ (.tail _ (.tail _ (.tail _ List.mem_cons_self))))) | exact (.tail _ (.tail _ (.tail _ (.tail _ (.tail _ (.tail _ List.mem_cons_self)))))) | exact (.tail _ (.tail _ (.tail _ (.tail _ (.tail _ (.tail _ (.tail _ List.mem_cons_self))))))) | exact (.tail _ (.tail _ (.tail _ (.tail _ (.tail _ (.tail _ (.tail _ (.tail _ List.mem_cons_self)))))))) | exact (.tail _ (.tail _ (.tail _ (.tail _ (.tail _ (.tail _ (.tail _ (.tail _ (.tail _ List.mem_cons_self))))))))) | exact (.tail _ (.tail _ (.tail _ (.tail _ (.tail _ (.tail _ (.tail _ (.tail _ (.tail _ (.tail _ List.mem_cons_self)))))))))) | exact (.tail _ (.tail _ (.tail _ (.tail _ (.tail _ (.tail _ (.tail _ (.tail _ (.tail _ (.tail _ (.tail _ List.mem_cons_self))))))))))) | exact (.tail _ (.tail _ (.tail _ (.tail _ (.tail _ (.tail _ (.tail _ (.tail _ (.tail _ (.tail _ (.tail _ (.tail _ List.mem_cons_self)))))))))))) | exact (.tail _ (.tail _ (.tail _ (.tail _ (.tail _ (.tail _ (.tail _ (.tail _ (.tail _ (.tail _ (.tail _ (.tail _ (.tail _ List.mem_cons_self))))))))))))) | exact (.tail _ (.tail _ (.tail _ (.tail _ (.tail _ (.tail _ (.tail _ (.tail _ (.tail _ (.tail _ (.tail _ (.tail _ (.tail _ (.tail _ List.mem_cons_self)))))))))))))) | exact (.tail _ (.tail _ (.tail _ (.tail _ (.tail _ (.tail _ (.tail _ (.tail _ (.tail _ (.tail _ (.tail _ (.tail _ (.tail _ (.tail _ (.tail _ List.mem_cons_self)))))))))))))))) (by first | exact List.mem_cons_self | exact (.tail _ List.mem_cons_self) | exact (.tail _ (.tail _ List.mem_cons_self)) | exact (.tail _ (.tail _ (.tail _ List.mem_cons_self))) | exact (.tail _ (.tail _ (.tail _ (.tail _ List.mem_cons_self)))) | exact (.tail _ (.tail _ (.tail _ (.tail _ (.tail _ List.mem_cons_self))))) | exact (.tail _ (.tail _ (.tail _ (.tail _ (.tail _ (.tail _ List.mem_cons_self)))))) | exact (.tail _ (.tail _ (.tail _ (.tail _ (.tail _ (.tail _ (.tail _ List.mem_cons_self))))))) | exact (.tail _ (.tail _ (.tail _ (.tail _ (.tail _ (.tail _ (.tail _ (.tail _ List.mem_cons_self)))))))) | exact (.tail _ (.tail _ (.tail _ (.tail _ (.tail _ (.tail _ (.tail _ (.tail _ (.tail _ List.mem_cons_self))))))))) | exact (.tail _ (.tail _ (.tail _ (.tail _ (.tail _ (.tail _ (.tail _ (.tail _ (.tail _ (.tail _ List.mem_cons_self)))))))))) | exact (.tail _ (.tail _ (.tail _ (.tail _ (.tail _ (.tail _ (.tail _ (.tail _ (.tail _ (.tail _ (.tail _ List.mem_cons_self))))))))))) | exact (.tail _ (.tail _ (.tail _ (.tail _ (.tail _ (.tail _ (.tail _ (.tail _ (.tail _ (.tail _ (.tail _ (.tail _ List.mem_cons_self)))))))))))) | exact (.tail _ (.tail _ (.tail _ (.tail _ (.tail _ (.tail _ (.tail _ (.tail _ (.tail _ (.tail _ (.tail _ (.tail _ (.tail _ List.mem_cons_self))))))))))))) | exact (.tail _ (.tail _ (.tail _ (.tail _ (.tail _ (.tail _ (.tail _ (.tail _ (.tail _ (.tail _ (.tail _ (.tail _ (.tail _ (.tail _ List.mem_cons_self)))))))))))))) | exact (.tail _ (.tail _ (.tail _ (.tail _ (.tail _ (.tail _ (.tail _ (.tail _ (.tail _ (.tail _ (.tail _ (.tail _ (.tail _ (.tail _ (.tail _ List.mem_cons_self)))))))))))))))) wp wq b6o b6o (by decide) (by decide) (by decide) (by omega) fun wt3 t3 H17 x17 S17 => ?_
    walk_at "rd"
    refine d_call S17 (v := t3) (ps := _) List.mem_cons_self wt3 b36 (by decide) (by omega) hi fun wdt dt H18 x18 S18 => ?_
    walk_at "rd"
    have ilp := wp.rep.1
    have ilq := wq.rep.1
    have e9 : polyL f n (rowsL n o) (derT f i (timL f n o ps qs)) = polyL f n (rowsL n o) (timL f n o (polyL f n (rowsL n o) (derT f i ps)) qs ++ timL f n o ps (polyL f n (rowsL n o) (derT f i qs))) :=
      rep_uniq hF hn1 hn4 ho wdt.can wdue.can b36.pos b36.pos (fun z => ⟨b36.one z, b36.one z⟩) wdt.rep wdue.rep fun m hm => by
        rw [der_mul ilq m ilp, coefI_app]
        exact ⟨0, by omega⟩
    have a16 := S18.pl (due, _) (by first | exact List.mem_cons_self | exact (.tail _ List.mem_cons_self) | exact (.tail _ (.tail _ List.mem_cons_self)) | exact (.tail _ (.tail _ (.tail _ List.mem_cons_self))) | exact (.tail _ (.tail _ (.tail _ (.tail _ List.mem_cons_self)))) | exact (.tail _ (.tail _ (.tail _ (.tail _ (.tail _ List.mem_cons_self))))) | exact (.tail _ (.tail _ (.tail _ (.tail _ (.tail _ (.tail _ List.mem_cons_self)))))) | exact (.tail _ (.tail _ (.tail _ (.tail _ (.tail _ (.tail _ (.tail _ List.mem_cons_self))))))) | exact (.tail _ (.tail _ (.tail _ (.tail _ (.tail _ (.tail _ (.tail _ (.tail _ List.mem_cons_self)))))))) | exact (.tail _ (.tail _ (.tail _ (.tail _ (.tail _ (.tail _ (.tail _ (.tail _ (.tail _ List.mem_cons_self))))))))) | exact (.tail _ (.tail _ (.tail _ (.tail _ (.tail _ (.tail _ (.tail _ (.tail _ (.tail _ (.tail _ List.mem_cons_self)))))))))) | exact (.tail _ (.tail _ (.tail _ (.tail _ (.tail _ (.tail _ (.tail _ (.tail _ (.tail _ (.tail _ (.tail _ List.mem_cons_self))))))))))) | exact (.tail _ (.tail _ (.tail _ (.tail _ (.tail _ (.tail _ (.tail _ (.tail _ (.tail _ (.tail _ (.tail _ (.tail _ List.mem_cons_self)))))))))))) | exact (.tail _ (.tail _ (.tail _ (.tail _ (.tail _ (.tail _ (.tail _ (.tail _ (.tail _ (.tail _ (.tail _ (.tail _ (.tail _ List.mem_cons_self))))))))))))) | exact (.tail _ (.tail _ (.tail _ (.tail _ (.tail _ (.tail _ (.tail _ (.tail _ (.tail _ (.tail _ (.tail _ (.tail _ (.tail _ (.tail _ List.mem_cons_self)))))))))))))) | exact (.tail _ (.tail _ (.tail _ (.tail _ (.tail _ (.tail _ (.tail _ (.tail _ (.tail _ (.tail _ (.tail _ (.tail _ (.tail _ (.tail _ (.tail _ List.mem_cons_self))))))))))))))))
    have a18 := S18.pl (dt, _) (by first | exact List.mem_cons_self | exact (.tail _ List.mem_cons_self) | exact (.tail _ (.tail _ List.mem_cons_self)) | exact (.tail _ (.tail _ (.tail _ List.mem_cons_self))) | exact (.tail _ (.tail _ (.tail _ (.tail _ List.mem_cons_self)))) | exact (.tail _ (.tail _ (.tail _ (.tail _ (.tail _ List.mem_cons_self))))) | exact (.tail _ (.tail _ (.tail _ (.tail _ (.tail _ (.tail _ List.mem_cons_self)))))) | exact (.tail _ (.tail _ (.tail _ (.tail _ (.tail _ (.tail _ (.tail _ List.mem_cons_self))))))) | exact (.tail _ (.tail _ (.tail _ (.tail _ (.tail _ (.tail _ (.tail _ (.tail _ List.mem_cons_self)))))))) | exact (.tail _ (.tail _ (.tail _ (.tail _ (.tail _ (.tail _ (.tail _ (.tail _ (.tail _ List.mem_cons_self))))))))) | exact (.tail _ (.tail _ (.tail _ (.tail _ (.tail _ (.tail _ (.tail _ (.tail _ (.tail _ (.tail _ List.mem_cons_self)))))))))) | exact (.tail _ (.tail _ (.tail _ (.tail _ (.tail _ (.tail _ (.tail _ (.tail _ (.tail _ (.tail _ (.tail _ List.mem_cons_self))))))))))) | exact (.tail _ (.tail _ (.tail _ (.tail _ (.tail _ (.tail _ (.tail _ (.tail _ (.tail _ (.tail _ (.tail _ (.tail _ List.mem_cons_self)))))))))))) | exact (.tail _ (.tail _ (.tail _ (.tail _ (.tail _ (.tail _ (.tail _ (.tail _ (.tail _ (.tail _ (.tail _ (.tail _ (.tail _ List.mem_cons_self))))))))))))) | exact (.tail _ (.tail _ (.tail _ (.tail _ (.tail _ (.tail _ (.tail _ (.tail _ (.tail _ (.tail _ (.tail _ (.tail _ (.tail _ (.tail _ List.mem_cons_self)))))))))))))) | exact (.tail _ (.tail _ (.tail _ (.tail _ (.tail _ (.tail _ (.tail _ (.tail _ (.tail _ (.tail _ (.tail _ (.tail _ (.tail _ (.tail _ (.tail _ List.mem_cons_self))))))))))))))))
    rw [e9] at a18
    refine ⟨al_dp 5 (len5 wdue (by decide)) a18.dp a16.dp, fun H19 s19 => ⟨true, rfl, iteF ?_⟩⟩
    have S19 := S18.same s19
    walk_at "rd"
    refine d_call S19 (v := lv) (ps := _) (by first | exact List.mem_cons_self | exact (.tail _ List.mem_cons_self) | exact (.tail _ (.tail _ List.mem_cons_self)) | exact (.tail _ (.tail _ (.tail _ List.mem_cons_self))) | exact (.tail _ (.tail _ (.tail _ (.tail _ List.mem_cons_self)))) | exact (.tail _ (.tail _ (.tail _ (.tail _ (.tail _ List.mem_cons_self))))) | exact (.tail _ (.tail _ (.tail _ (.tail _ (.tail _ (.tail _ List.mem_cons_self)))))) | exact (.tail _ (.tail _ (.tail _ (.tail _ (.tail _ (.tail _ (.tail _ List.mem_cons_self))))))) | exact (.tail _ (.tail _ (.tail _ (.tail _ (.tail _ (.tail _ (.tail _ (.tail _ List.mem_cons_self)))))))) | exact (.tail _ (.tail _ (.tail _ (.tail _ (.tail _ (.tail _ (.tail _ (.tail _ (.tail _ List.mem_cons_self))))))))) | exact (.tail _ (.tail _ (.tail _ (.tail _ (.tail _ (.tail _ (.tail _ (.tail _ (.tail _ (.tail _ List.mem_cons_self)))))))))) | exact (.tail _ (.tail _ (.tail _ (.tail _ (.tail _ (.tail _ (.tail _ (.tail _ (.tail _ (.tail _ (.tail _ List.mem_cons_self))))))))))) | exact (.tail _ (.tail _ (.tail _ (.tail _ (.tail _ (.tail _ (.tail _ (.tail _ (.tail _ (.tail _ (.tail _ (.tail _ List.mem_cons_self)))))))))))) | exact (.tail _ (.tail _ (.tail _ (.tail _ (.tail _ (.tail _ (.tail _ (.tail _ (.tail _ (.tail _ (.tail _ (.tail _ (.tail _ List.mem_cons_self))))))))))))) | exact (.tail _ (.tail _ (.tail _ (.tail _ (.tail _ (.tail _ (.tail _ (.tail _ (.tail _ (.tail _ (.tail _ (.tail _ (.tail _ (.tail _ List.mem_cons_self)))))))))))))) | exact (.tail _ (.tail _ (.tail _ (.tail _ (.tail _ (.tail _ (.tail _ (.tail _ (.tail _ (.tail _ (.tail _ (.tail _ (.tail _ (.tail _ (.tail _ List.mem_cons_self)))))))))))))))) wl b6o (by decide) (by omega) hj fun wlj lj H20 x20 S20 => ?_
    walk_at "rd"
    refine d_call S20 (v := pw) (ps := ps) (by first | exact List.mem_cons_self | exact (.tail _ List.mem_cons_self) | exact (.tail _ (.tail _ List.mem_cons_self)) | exact (.tail _ (.tail _ (.tail _ List.mem_cons_self))) | exact (.tail _ (.tail _ (.tail _ (.tail _ List.mem_cons_self)))) | exact (.tail _ (.tail _ (.tail _ (.tail _ (.tail _ List.mem_cons_self))))) | exact (.tail _ (.tail _ (.tail _ (.tail _ (.tail _ (.tail _ List.mem_cons_self)))))) | exact (.tail _ (.tail _ (.tail _ (.tail _ (.tail _ (.tail _ (.tail _ List.mem_cons_self))))))) | exact (.tail _ (.tail _ (.tail _ (.tail _ (.tail _ (.tail _ (.tail _ (.tail _ List.mem_cons_self)))))))) | exact (.tail _ (.tail _ (.tail _ (.tail _ (.tail _ (.tail _ (.tail _ (.tail _ (.tail _ List.mem_cons_self))))))))) | exact (.tail _ (.tail _ (.tail _ (.tail _ (.tail _ (.tail _ (.tail _ (.tail _ (.tail _ (.tail _ List.mem_cons_self)))))))))) | exact (.tail _ (.tail _ (.tail _ (.tail _ (.tail _ (.tail _ (.tail _ (.tail _ (.tail _ (.tail _ (.tail _ List.mem_cons_self))))))))))) | exact (.tail _ (.tail _ (.tail _ (.tail _ (.tail _ (.tail _ (.tail _ (.tail _ (.tail _ (.tail _ (.tail _ (.tail _ List.mem_cons_self)))))))))))) | exact (.tail _ (.tail _ (.tail _ (.tail _ (.tail _ (.tail _ (.tail _ (.tail _ (.tail _ (.tail _ (.tail _ (.tail _ (.tail _ List.mem_cons_self))))))))))))) | exact (.tail _ (.tail _ (.tail _ (.tail _ (.tail _ (.tail _ (.tail _ (.tail _ (.tail _ (.tail _ (.tail _ (.tail _ (.tail _ (.tail _ List.mem_cons_self)))))))))))))) | exact (.tail _ (.tail _ (.tail _ (.tail _ (.tail _ (.tail _ (.tail _ (.tail _ (.tail _ (.tail _ (.tail _ (.tail _ (.tail _ (.tail _ (.tail _ List.mem_cons_self)))))))))))))))) wp b6o (by decide) (by omega) hj fun wpj pj H21 x21 S21 => ?_
    walk_at "rd"
    refine d_call S21 (v := pj) (ps := _) List.mem_cons_self wpj b6o (by decide) (by omega) hi fun wpji pji H22 x22 S22 => ?_
    have e10 : polyL f n (rowsL n o) (derT f j (polyL f n (rowsL n o) (derT f i ps))) = polyL f n (rowsL n o) (derT f i (polyL f n (rowsL n o) (derT f j ps))) :=
      rep_uniq hF hn1 hn4 ho wlj.can wpji.can b6o.pos b6o.pos (fun z => ⟨b6o.one z, b6o.one z⟩) wlj.rep wpji.rep fun m hm => by
        rw [der_der hj hi ilp hm]
        exact ⟨0, by omega⟩
    have a20 := S22.pl (lj, _) (by first | exact List.mem_cons_self | exact (.tail _ List.mem_cons_self) | exact (.tail _ (.tail _ List.mem_cons_self)) | exact (.tail _ (.tail _ (.tail _ List.mem_cons_self))) | exact (.tail _ (.tail _ (.tail _ (.tail _ List.mem_cons_self)))) | exact (.tail _ (.tail _ (.tail _ (.tail _ (.tail _ List.mem_cons_self))))) | exact (.tail _ (.tail _ (.tail _ (.tail _ (.tail _ (.tail _ List.mem_cons_self)))))) | exact (.tail _ (.tail _ (.tail _ (.tail _ (.tail _ (.tail _ (.tail _ List.mem_cons_self))))))) | exact (.tail _ (.tail _ (.tail _ (.tail _ (.tail _ (.tail _ (.tail _ (.tail _ List.mem_cons_self)))))))) | exact (.tail _ (.tail _ (.tail _ (.tail _ (.tail _ (.tail _ (.tail _ (.tail _ (.tail _ List.mem_cons_self))))))))) | exact (.tail _ (.tail _ (.tail _ (.tail _ (.tail _ (.tail _ (.tail _ (.tail _ (.tail _ (.tail _ List.mem_cons_self)))))))))) | exact (.tail _ (.tail _ (.tail _ (.tail _ (.tail _ (.tail _ (.tail _ (.tail _ (.tail _ (.tail _ (.tail _ List.mem_cons_self))))))))))) | exact (.tail _ (.tail _ (.tail _ (.tail _ (.tail _ (.tail _ (.tail _ (.tail _ (.tail _ (.tail _ (.tail _ (.tail _ List.mem_cons_self)))))))))))) | exact (.tail _ (.tail _ (.tail _ (.tail _ (.tail _ (.tail _ (.tail _ (.tail _ (.tail _ (.tail _ (.tail _ (.tail _ (.tail _ List.mem_cons_self))))))))))))) | exact (.tail _ (.tail _ (.tail _ (.tail _ (.tail _ (.tail _ (.tail _ (.tail _ (.tail _ (.tail _ (.tail _ (.tail _ (.tail _ (.tail _ List.mem_cons_self)))))))))))))) | exact (.tail _ (.tail _ (.tail _ (.tail _ (.tail _ (.tail _ (.tail _ (.tail _ (.tail _ (.tail _ (.tail _ (.tail _ (.tail _ (.tail _ (.tail _ List.mem_cons_self))))))))))))))))
    have a22 := S22.pl (pji, _) (by first | exact List.mem_cons_self | exact (.tail _ List.mem_cons_self) | exact (.tail _ (.tail _ List.mem_cons_self)) | exact (.tail _ (.tail _ (.tail _ List.mem_cons_self))) | exact (.tail _ (.tail _ (.tail _ (.tail _ List.mem_cons_self)))) | exact (.tail _ (.tail _ (.tail _ (.tail _ (.tail _ List.mem_cons_self))))) | exact (.tail _ (.tail _ (.tail _ (.tail _ (.tail _ (.tail _ List.mem_cons_self)))))) | exact (.tail _ (.tail _ (.tail _ (.tail _ (.tail _ (.tail _ (.tail _ List.mem_cons_self))))))) | exact (.tail _ (.tail _ (.tail _ (.tail _ (.tail _ (.tail _ (.tail _ (.tail _ List.mem_cons_self)))))))) | exact (.tail _ (.tail _ (.tail _ (.tail _ (.tail _ (.tail _ (.tail _ (.tail _ (.tail _ List.mem_cons_self))))))))) | exact (.tail _ (.tail _ (.tail _ (.tail _ (.tail _ (.tail _ (.tail _ (.tail _ (.tail _ (.tail _ List.mem_cons_self)))))))))) | exact (.tail _ (.tail _ (.tail _ (.tail _ (.tail _ (.tail _ (.tail _ (.tail _ (.tail _ (.tail _ (.tail _ List.mem_cons_self))))))))))) | exact (.tail _ (.tail _ (.tail _ (.tail _ (.tail _ (.tail _ (.tail _ (.tail _ (.tail _ (.tail _ (.tail _ (.tail _ List.mem_cons_self)))))))))))) | exact (.tail _ (.tail _ (.tail _ (.tail _ (.tail _ (.tail _ (.tail _ (.tail _ (.tail _ (.tail _ (.tail _ (.tail _ (.tail _ List.mem_cons_self))))))))))))) | exact (.tail _ (.tail _ (.tail _ (.tail _ (.tail _ (.tail _ (.tail _ (.tail _ (.tail _ (.tail _ (.tail _ (.tail _ (.tail _ (.tail _ List.mem_cons_self)))))))))))))) | exact (.tail _ (.tail _ (.tail _ (.tail _ (.tail _ (.tail _ (.tail _ (.tail _ (.tail _ (.tail _ (.tail _ (.tail _ (.tail _ (.tail _ (.tail _ List.mem_cons_self))))))))))))))))
    rw [e10] at a20
    have z22 := can_sz wpji.can hn4 (Nat.le_trans wpji.len (by decide))
    refine ⟨_, _, a20.dp, a22.dp, sz_shaped z22 (by decide), sz_shaped z22 (by decide), ?_⟩
    rw [eqv_self wpji.can hn4 (Nat.le_trans wpji.len (by decide))]
    refine ⟨_, rfl, iteF ?_⟩
    walk_at "rd"
    refine ⟨r, sa, ns, f, n, o, rv, 3, 3, rfl, S22.hv, S22.row, by decide, by decide, by decide, fun smv sm H23 hsm hSM rk23 => ?_⟩
    have S23 := (S22.rk rk23).add hsm
    obtain ⟨ra, ov, erv, hR, hov⟩ := ring_parts S23.hv.hd
    walk_at "rd"
    refine ⟨ra, _, _, _, erv, rfl, hR, rfl, ?_⟩
    walk_at "rd"
    refine iteV (fun hf0 => k _) (fun hf0 => ?_)
    walk_at "rd"
    refine ⟨ra, _, _, _, erv, rfl, hR, rfl, ?_⟩
    walk_at "rd"
    refine iteD (fun h12 => k _) (fun h12 => ?_)
    have hf4 : f = 2 ∨ f = 3 ∨ f = 5 ∨ f = 7 := by
      unfold FieldOk at hf
      omega
    obtain ⟨e, he, e12, q1, q2, q3, q4, q5, q6, q7, q8⟩ := pow_small hF hf0 hf4 hn1 hn4 ho hSM
    obtain ⟨q9, q10⟩ := q8 i hi
    have wsm := w_drawn hF (k := 3) (m := 3) hSM
    walk_at "rd"
    refine ⟨ra, _, _, _, erv, rfl, hR, rfl, ?_⟩
    walk_at "rd"
    refine ⟨f, n, o, rv, smv, sm, e, by rw [← he]; rfl, S23.hv, hsm, hSM.can.poly hn1 hn4 ho (Nat.le_trans hSM.len (by decide)), hSM.can.nd, wsm.den hF b6o, e12, q1, q2, q3, q4, q5, S23.ts, fun v24 H24 x24 p24 => ?_⟩
    have S24 := (S23.ex x24).add p24
    walk_at "rd"
    have nums := der_num hF hn1 hn4 ho hi q6 q9
    have mons := der_mon (f := f) hi fun u hu => (q6.ok u hu).1.2
    refine ⟨f, n, o, rv, v24, _, i, rfl, S24.hv, p24, q6.poly hn1 hn4 ho q7, hi, q9, fun u hu => ⟨nums u hu, mons u hu⟩, S24.ts, fun v25 H25 x25 p25 => ?_⟩
    rw [q10] at p25
    walk_at "rd"
    refine ⟨(show 0 ≤ sizeLine by decide), fun q hq => ?_⟩
    have s26 := same_upd (o := .tup []) hq
    have z0 : Sz 3 (polyD f []) := sz_poly (Nat.zero_le _) fun u hu => by cases hu
    refine ⟨polyD f [], .tuple [], (p25.tq (tq_same s26)).dp, .tup (.inl (.inl upd_same)) .nil, sz_shaped z0 (by decide), by rfl, ?_⟩
    exact k _
end

/-! ### the end -/
section
open PySem.Spec PyProof.Rows LamX
/-- as the layer's end with tables; handed on besides: the whole top -/
theorem walk_top {l : PySem.W.OpenLaw} {n k : Nat} {q : Program} {loose : List Str} {XP : (Str → Option Value) → Heap → Prop} {YP : World → Heap → Prop} {d : DefRec} {K : Params → PySem.W.Frag} {CX : World → CXT} {x : Str}
    (hn : l.most = some n) (hn2 : n ≤ sizeLine) (hdf : d.params.defaults = []) (hr : Room k callerA) (hY : ∀ (w : World) (h : Heap), YP w h → (K w.params).In h)
    (F : ∀ (w : World) (s₀ : Shared) (mg mb : Str → Option Value) (fa : Addr) (h : Heap), PySem.W.Ground q loose [] XP w s₀ mg mb h → (K w.params).In h → h.Ns mainGlobals mg → mg d.name = some (.ref fa) → LawAtS l w (K w.params) (CX w) k n x mg fa h)
    (hCX : ∀ (w : World) (H : Hp) (s : Shared) (e : Value) (s' : Shared), CX w [] H s (fun _ _ _ => False) e s' → False) :
    PySem.W.WalkO q loose XP YP l.row.toRowW d [] (fun f vs => PySem.call f vs) := by
  refine Att.attach_callB hn hdf fun w s₀ s₁ mg mb fa o pm cd doc a vs ns G Y ho hd hcd hmg hobj hints hlen hbits hg => ?_
  have KX := hY w _ Y
  obtain ⟨fd, cs, sp, hT, nT, C, hb, hsp, hF⟩ := F w s₀ mg mb fa _ G KX G.T.g hmg
  exact law_callTs KX G.T.g G.T.b G.T.builtins G.T.nolimit hg hT nT C G.T.bmain hobj hints (Nat.le_trans hlen hn2) hr hF hb (fun H hH hS => hsp H a ns hlen hbits hH hS) fun H e s' => hCX w H s₁ e s'
/-- the code object and its table of a def, by the written part -/
theorem tab_in {K : PySem.W.Frag} {x : Str} {f c P : Addr} {oc e : Value} {od dd : Option Addr} {fd : FuncData} {vs : Array Value} {s1 s2 : Array (Option Value)} (a : PySem.W.nsIn K mainGlobals x = some (some (.ref f))) (l : K.lookup f = some ⟨oc, od, .func fd, s1⟩) (hc : fd.code = .ref c)
    (lc : K.lookup c = some ⟨e, dd, .fields vs, s2⟩) (hv : vs[11]? = some (.ref P)) : PySem.W.tabIn K x = some (c, P) := by
  unfold PySem.W.tabIn
  rw [a]
  simp only [l, hc, lc, hv]
/-- a whole number of the top that the head does not write out -/
theorem loose_int {q : Program} {lv : List (Str × PySem.W.WData)} {mg : Str → Option Value} {h : Heap} {x : Str} {i : Int} (X : PySem.W.XL q lv mg h) (hm : (x, PySem.W.WData.int i) ∈ lv) : ∃ t, mg x = some (.int i t) := by
  obtain ⟨v, a, r⟩ := X.2.val _ hm
  cases r
  exact ⟨_, a⟩
end

section
open PyProof.Rows
theorem code_of {K : PySem.W.Frag} {mg : Str → Option Value} {h : Heap} {x : Str} {st : Stmt} {c P : Addr} (D : DefAt K mg x st) (X : K.In h) (G : h.Ns mainGlobals mg) (ht : PySem.W.tabIn K x = some (c, P)) : D.fd.code = .ref c := by
  obtain ⟨oc, od, kV, doc, pm, an, cdv, ct, osl, e, lk, hcd⟩ := D.F.ex
  exact PySem.W.law_code X G ht D.g (X _ _ lk) rfl
theorem mem_n {α : Type} {p : α → Prop} : ∀ x ∈ ([] : List α), p x := fun _ h => by cases h
theorem mem_c {α : Type} {p : α → Prop} {a : α} {l : List α} (ha : p a) (hl : ∀ x ∈ l, p x) : ∀ x ∈ a :: l, p x := fun x hx => by
  rcases List.mem_cons.mp hx with rfl | h
  · exact ha
  · exact hl x h
theorem gx_of {base : Heap} {mg : Str → Option Value} {c P : Addr} (h : LamX.TabB base mg c P) : GxR.TabB base mg c P := ⟨h.code, h.bm, h.gP⟩
/-- addresses told by names -/
def nmA (l : List (Str × Addr)) (x : Str) : Addr := (l.lookup x).getD 0
theorem law_at {l : PySem.W.OpenLaw} {w : World} {K : PySem.W.Frag} {mg mb : Str → Option Value} {q : Program} {loose : List Str} {mean : ExcName → Option Value} {fa : Addr} {c : Str → Addr} {t : TabsAt} {h : Heap} { d1 d2 d3 : DefRec} (TT : PyProof.Rows.Top q loose mean mg mb h) (X : K.In h) (G : h.Ns mainGlobals mg) (hfa : mg "law" = some (.ref fa))
    (r1 : (PyProof.Rows.recsOf q).find? (fun e => e.name == ("is_row_of_integers" : Str)) = some d1) (r2 : (PyProof.Rows.recsOf q).find? (fun e => e.name == ("is_polynomial" : Str)) = some d2) (r3 : (PyProof.Rows.recsOf q).find? (fun e => e.name == ("sum_of_terms" : Str)) = some d3)
    (t1 : PySem.W.tabIn K "is_row_of_integers" = some (c "is_row_of_integers", t.a "is_row_of_integers")) (t2 : PySem.W.tabIn K "is_polynomial" = some (c "is_polynomial", t.a "is_polynomial")) (t3 : PySem.W.tabIn K "sum_of_terms" = some (c "sum_of_terms", t.a "sum_of_terms"))
    (n1 : K.lookup (t.a "is_row_of_integers") = none) (n2 : K.lookup (t.a "is_polynomial") = none) (n3 : K.lookup (t.a "sum_of_terms") = none) (T : Txt K mg) : LamX.LawAtS l w K CX0 22 63 "script" mg fa h := by
  obtain ⟨C1, p1⟩ := PySem.W.tab_of TT X r1 t1; obtain ⟨C2, p2⟩ := PySem.W.tab_of TT X r2 t2; obtain ⟨C3, p3⟩ := PySem.W.tab_of TT X r3 t3
  have e := hfa.symm.trans T.law.g
  cases e
  refine ⟨T.law.fd, [(c "is_row_of_integers", t.a "is_row_of_integers"), (c "is_polynomial", t.a "is_polynomial"), (c "sum_of_terms", t.a "sum_of_terms")], sp_law t K, (mem_c p1 (mem_c p2 (mem_c p3 mem_n) ) ), (mem_c n1 (mem_c n2 (mem_c n3 mem_n) ) ), (mem_c C1 (mem_c C2 (mem_c C3 mem_n) ) ), fun s u => ?_, fun H a ns hl hbits hT hS => ?_, fun base hb hn hT => ok_law T (t := t) { c := c, h_is_row_of_integers := code_of T.is_row_of_integers X G t1, b_is_row_of_integers := gx_of (hT (c "is_row_of_integers", t.a "is_row_of_integers") (by simp)), h_is_polynomial := code_of T.is_polynomial X G t2, b_is_polynomial := gx_of (hT (c "is_polynomial", t.a "is_polynomial") (by simp)), h_sum_of_terms := code_of T.sum_of_terms X G t3, b_sum_of_terms := hT (c "sum_of_terms", t.a "sum_of_terms") (by simp) }⟩
  · obtain ⟨oc, od, kV, doc, pm, an, cdv, ct, osl, e, lk, hcd⟩ := T.law.F.ex
    rw [e]
    exact .of_eq rfl
  · refine ⟨a, ns, rfl, hS, ⟨fun x hx => ?_, fun x hx => ?_⟩, fun _ => rfl⟩
    · revert x
      exact (mem_c ⟨_, hT (c "is_row_of_integers", t.a "is_row_of_integers") (by simp), True.intro⟩ (mem_c ⟨_, hT (c "is_polynomial", t.a "is_polynomial") (by simp), True.intro⟩ mem_n) )
    · revert x
      exact (mem_c (fun p hp => by unfold lamT at hp; rw [List.mem_singleton] at hp; subst hp; exact LamX.TabS.nil (hT (c "sum_of_terms", t.a "sum_of_terms") (by simp))) mem_n)
theorem tup_written {K : PySem.W.Frag} {a : Addr} {xs : List Int} {dd : Option Addr} {its : Array Value} {n : Nat} {sl : Array (Option Value)} (l : K.lookup a = some ⟨.type "tuple", dd, .seq its n, sl⟩) (hz : its.size ≤ sizeLine) (hv : Vals (xs.map V.int) its.toList) : ∀ H, SqT K H a (xs.map V.int) := fun _ => .inr ⟨_, its, n, l, rfl, rfl, hz, hv⟩
noncomputable def codI {K : PySem.W.Frag} {h : Heap} {mg : Str → Option Value} (X : K.In h) (G : h.Ns mainGlobals mg) {C f1 f2 f3 Td aE : Addr}
    {od1 an1 od2 an2 od3 an3 : Option Addr} {sl1 sl2 sl3 : Array (Option Value)} {oc1 kV1 dc1 pm1 cd1 ct1 oc2 kV2 dc2 pm2 cd2 ct2 oc3 kV3 dc3 pm3 cd3 ct3 : Value}
    {tdd edd : Option Addr} {tIts eIts : Array Value} {tn en : Nat} {tsl esl : Array (Option Value)}
    (lT : K.lookup Td = some ⟨.type "tuple", tdd, .seq tIts tn, tsl⟩) (vT : Vals [V.non, .ref aE] tIts.toList) (lE : K.lookup aE = some ⟨.type "tuple", edd, .seq eIts en, esl⟩) (zE : eIts.size ≤ sizeLine) (vE : Vals ([] : List V) eIts.toList)
    (aC : PySem.W.nsIn K mainGlobals "Coding" = some (some (.ref C)))
    (a1 : PySem.W.findIn K (.ref C) "__init__" = some (some (.ref f1))) (i1 : PySem.W.isFn K (.ref f1) = true) (l1 : K.lookup f1 = some ⟨oc1, od1, .func (PySem.W.fnOf "__init__" "Coding.__init__" (defArgs s_Coding___init__) (defBody s_Coding___init__) (defScope s_Coding___init__) (.ref Td) kV1 dc1 pm1 an1 cd1 ct1), sl1⟩) (e1 : PySem.W.codeIn K cd1 "Coding.__init__" = true)
    (a2 : PySem.W.findIn K (.ref C) "unit" = some (some (.ref f2))) (i2 : PySem.W.isFn K (.ref f2) = true) (l2 : K.lookup f2 = some ⟨oc2, od2, .func (PySem.W.fnOf "unit" "Coding.unit" (defArgs s_Coding_unit) (defBody s_Coding_unit) (defScope s_Coding_unit) .none kV2 dc2 pm2 an2 cd2 ct2), sl2⟩) (e2 : PySem.W.codeIn K cd2 "Coding.unit" = true)
    (a3 : PySem.W.findIn K (.ref C) "code" = some (some (.ref f3))) (i3 : PySem.W.isFn K (.ref f3) = true) (l3 : K.lookup f3 = some ⟨oc3, od3, .func (PySem.W.fnOf "code" "Coding.code" (defArgs s_Coding_code) (defBody s_Coding_code) (defScope s_Coding_code) .none kV3 dc3 pm3 an3 cd3 ct3), sl3⟩) (e3 : PySem.W.codeIn K cd3 "Coding.code" = true)
    (k1 : PySem.W.keepIn K (.ref f1) = true) (k2 : PySem.W.keepIn K (.ref f2) = true) (k3 : PySem.W.keepIn K (.ref f3) = true)
    (pg : PySem.W.plainGet K C Str.empty = true) (hd : PySem.W.hasDictIn K C = true) (po : PySem.W.plainOver K C = true) (sa : PySem.W.findIn K (.ref C) "__setattr__" = some (some (.builtin "object.__setattr__"))) (mk : PySem.W.makesIn K C = true) (kc : PySem.W.keepIn K (.ref C) = true)
    (m1 : PySem.W.findIn K (.ref C) "field" = some none) (m2 : PySem.W.findIn K (.ref C) "many" = some none) (m3 : PySem.W.findIn K (.ref C) "rows" = some none) (m4 : PySem.W.findIn K (.ref C) "shifts" = some none) (m5 : PySem.W.findIn K (.ref C) "units" = some none) (m6 : PySem.W.findIn K (.ref C) "guard" = some none) (m7 : PySem.W.findIn K (.ref C) "grades" = some none) (m8 : PySem.W.findIn K (.ref C) "marks" = some none) (m9 : PySem.W.findIn K (.ref C) "marked" = some none) : CodAt K mg :=
  { C := C, g := PySem.W.mg_of X G aC, cls := ⟨pg, hd, po, sa⟩, fi := f1, fdi := _, aE := aE, t_E := tup_written (xs := []) lE zE vE, Fi := ⟨⟨_, _, _, _, _, _, _, _, _, _, rfl, l1, e1, .inr ⟨by simp, Td, _, tIts.toList, tn, rfl, lT, by simp, vT⟩, .inl rfl⟩, k1⟩, mkr := ⟨mk, a1, i1, kc⟩, fu := f2, fdu := _, Fu := fun_mk (st := s_Coding_unit) l2 e2 k2, m_unit := ⟨a2, i2, k2⟩,
    fc := f3, fdc := _, Fc := fun_mk (st := s_Coding_code) l3 e3 k3, m_code := ⟨a3, i3, k3⟩, n_field := m1, n_many := m2, n_rows := m3, n_shifts := m4, n_units := m5, n_guard := m6, n_grades := m7, n_marks := m8, n_marked := m9 }
theorem meth_at {K : PySem.W.Frag} {C C4 f4 : Addr} {x : Str} (h : (Value.ref C) = Value.ref C4) (m : Meth K C4 x f4) : Meth K C x f4 := by
  cases h
  exact m
/-- as the end asks it: names, addresses -/
theorem fin {l : PySem.W.OpenLaw} {w : World} {K : PySem.W.Frag} {mg mb : Str → Option Value} {q : Program} {loose : List Str} {mean : ExcName → Option Value} {fa c1 p1 c2 p2 c3 p3 aP : Addr} {h : Heap} { d1 d2 d3 : DefRec} { t_PLACE t_MASK t_WIDTH t_MOST_VARIABLES t_MOST_WEIGHT t_MOST_DEGREE t_NUMBER_BOUND t_MOST_TERMS t_MOST_POWER : Tok}
    (TT : PyProof.Rows.Top q loose mean mg mb h) (X : K.In h) (G : h.Ns mainGlobals mg) (hfa : mg "law" = some (.ref fa))
    (r1 : (PyProof.Rows.recsOf q).find? (fun e => e.name == ("is_row_of_integers" : Str)) = some d1) (r2 : (PyProof.Rows.recsOf q).find? (fun e => e.name == ("is_polynomial" : Str)) = some d2) (r3 : (PyProof.Rows.recsOf q).find? (fun e => e.name == ("sum_of_terms" : Str)) = some d3)
    (t1 : PySem.W.tabIn K "is_row_of_integers" = some (c1, p1)) (t2 : PySem.W.tabIn K "is_polynomial" = some (c2, p2)) (t3 : PySem.W.tabIn K "sum_of_terms" = some (c3, p3))
    (n1 : K.lookup p1 = none) (n2 : K.lookup p2 = none) (n3 : K.lookup p3 = none)
    (ne : ∀ x ∈ gensL ++ lamsL, ∀ y ∈ gensL ++ lamsL, x ≠ y → nmA [("is_row_of_integers", p1), ("is_polynomial", p2), ("sum_of_terms", p3)] x ≠ nmA [("is_row_of_integers", p1), ("is_polynomial", p2), ("sum_of_terms", p3)] y)
    (single_rows : DefAt K mg "single_rows" s_single_rows)
    (falling_rows : DefAt K mg "falling_rows" s_falling_rows)
    (rows_of : DefAt K mg "rows_of" s_rows_of)
    (block_rows : DefAt K mg "block_rows" s_block_rows)
    (zero_of : DefAt K mg "zero_of" s_zero_of)
    (inverse_modulo : DefAt K mg "inverse_modulo" s_inverse_modulo)
    (make_number : DefAt K mg "make_number" s_make_number)
    (add_numbers : DefAt K mg "add_numbers" s_add_numbers)
    (multiply_numbers : DefAt K mg "multiply_numbers" s_multiply_numbers)
    (as_fraction : DefAt K mg "as_fraction" s_as_fraction)
    (is_integer : DefAt K mg "is_integer" s_is_integer)
    (is_integer_in : DefAt K mg "is_integer_in" s_is_integer_in)
    (is_tuple_of : DefAt K mg "is_tuple_of" s_is_tuple_of)
    (is_tuple_up_to : DefAt K mg "is_tuple_up_to" s_is_tuple_up_to)
    (is_field : DefAt K mg "is_field" s_is_field)
    (is_fraction : DefAt K mg "is_fraction" s_is_fraction)
    (is_number : DefAt K mg "is_number" s_is_number)
    (is_order : DefAt K mg "is_order" s_is_order)
    (is_ring : DefAt K mg "is_ring" s_is_ring)
    (is_row_of_integers : DefAt K mg "is_row_of_integers" s_is_row_of_integers)
    (is_monomial : DefAt K mg "is_monomial" s_is_monomial)
    (is_loose_term : DefAt K mg "is_loose_term" s_is_loose_term)
    (is_polynomial : DefAt K mg "is_polynomial" s_is_polynomial)
    (check_integer_in : DefAt K mg "check_integer_in" s_check_integer_in)
    (check_ring : DefAt K mg "check_ring" s_check_ring)
    (check_variable : DefAt K mg "check_variable" s_check_variable)
    (check_polynomial : DefAt K mg "check_polynomial" s_check_polynomial)
    (check_two_polynomials : DefAt K mg "check_two_polynomials" s_check_two_polynomials)
    (shifted : DefAt K mg "shifted" s_shifted)
    (packed : DefAt K mg "packed" s_packed)
    (unpacked : DefAt K mg "unpacked" s_unpacked)
    (sum_of_terms : DefAt K mg "sum_of_terms" s_sum_of_terms)
    (settled : DefAt K mg "settled" s_settled)
    (packed_product : DefAt K mg "packed_product" s_packed_product)
    (plus : DefAt K mg "plus" s_plus)
    (times : DefAt K mg "times" s_times)
    (power : DefAt K mg "power" s_power)
    (powers_up_to : DefAt K mg "powers_up_to" s_powers_up_to)
    (derivative : DefAt K mg "derivative" s_derivative)
    (law_taken : DefAt K mg "_law_taken" s_law_taken)
    (law_pick : DefAt K mg "_law_pick" s_law_pick)
    (law_order : DefAt K mg "_law_order" s_law_order)
    (law_ring : DefAt K mg "_law_ring" s_law_ring)
    (law_mono : DefAt K mg "_law_mono" s_law_mono)
    (law_gcd : DefAt K mg "_law_gcd" s_law_gcd)
    (law_num : DefAt K mg "_law_num" s_law_num)
    (law_number : DefAt K mg "_law_number" s_law_number)
    (law_zero : DefAt K mg "_law_zero" s_law_zero)
    (law_revlex : DefAt K mg "_law_revlex" s_law_revlex)
    (law_key : DefAt K mg "_law_key" s_law_key)
    (law_made : DefAt K mg "_law_made" s_law_made)
    (law_poly : DefAt K mg "_law_poly" s_law_poly)
    (law_alike : DefAt K mg "_law_alike" s_law_alike)
    (law_mul : DefAt K mg "_law_mul" s_law_mul)
    (law_derived : DefAt K mg "_law_derived" s_law_derived)
    (law : DefAt K mg "law" s_law)
    (Cd : CodAt K mg)
    (z_len : PySem.W.nsIn K mainGlobals "len" = some none) (z_isinstance : PySem.W.nsIn K mainGlobals "isinstance" = some none) (z_int : PySem.W.nsIn K mainGlobals "int" = some none) (z_bool : PySem.W.nsIn K mainGlobals "bool" = some none) (z_str : PySem.W.nsIn K mainGlobals "str" = some none) (z_tuple : PySem.W.nsIn K mainGlobals "tuple" = some none) (z_list : PySem.W.nsIn K mainGlobals "list" = some none) (z_range : PySem.W.nsIn K mainGlobals "range" = some none) (z_reversed : PySem.W.nsIn K mainGlobals "reversed" = some none) (z_zip : PySem.W.nsIn K mainGlobals "zip" = some none) (z_sum : PySem.W.nsIn K mainGlobals "sum" = some none) (z_max : PySem.W.nsIn K mainGlobals "max" = some none) (z_all : PySem.W.nsIn K mainGlobals "all" = some none) (z_any : PySem.W.nsIn K mainGlobals "any" = some none) (z_sorted : PySem.W.nsIn K mainGlobals "sorted" = some none) (z_abs : PySem.W.nsIn K mainGlobals "abs" = some none) (z_enumerate : PySem.W.nsIn K mainGlobals "enumerate" = some none)
    (y2 : PySem.W.nsIn K mainGlobals "PRIMES" = some (some (.ref aP))) (y3 : ∀ H, SqT K H aP ([2, 3, 5, 7, 11, 13, 17, 19, 23, 29, 31].map V.int))
    (g_PLACE : mg "PLACE" = some (.int PLi t_PLACE)) (g_MASK : mg "MASK" = some (.int MKi t_MASK)) (g_WIDTH : mg "WIDTH" = some (.int 48 t_WIDTH)) (g_MOST_VARIABLES : mg "MOST_VARIABLES" = some (.int 4 t_MOST_VARIABLES)) (g_MOST_WEIGHT : mg "MOST_WEIGHT" = some (.int 20 t_MOST_WEIGHT)) (g_MOST_DEGREE : mg "MOST_DEGREE" = some (.int 60 t_MOST_DEGREE)) (g_NUMBER_BOUND : mg "NUMBER_BOUND" = some (.int NBi t_NUMBER_BOUND)) (g_MOST_TERMS : mg "MOST_TERMS" = some (.int 500 t_MOST_TERMS)) (g_MOST_POWER : mg "MOST_POWER" = some (.int 12 t_MOST_POWER)) (yG : PySem.W.nsIn K mainGlobals "gcd" = some (some (.builtin "math.gcd"))) (yL : PySem.W.nsIn K mainGlobals "lcm" = some (some (.builtin "math.lcm")))
    {C4 f4 : Addr} {od4 an4 : Option Addr} {sl4 : Array (Option Value)} {oc4 kV4 dc4 pm4 cd4 ct4 : Value} (xc : PySem.W.nsIn K mainGlobals "Coding" = some (some (.ref C4))) (xa : PySem.W.findIn K (.ref C4) "exponents" = some (some (.ref f4))) (xi : PySem.W.isFn K (.ref f4) = true)
    (xl : K.lookup f4 = some ⟨oc4, od4, .func (PySem.W.fnOf "exponents" "Coding.exponents" (defArgs s_Coding_exponents) (defBody s_Coding_exponents) (defScope s_Coding_exponents) .none kV4 dc4 pm4 an4 cd4 ct4), sl4⟩) (xe : PySem.W.codeIn K cd4 "Coding.exponents" = true) (xk : PySem.W.keepIn K (.ref f4) = true) : LamX.LawAtS l w K CX0 22 63 "script" mg fa h :=
  law_at (c := nmA [("is_row_of_integers", c1), ("is_polynomial", c2), ("sum_of_terms", c3)]) (t := ⟨nmA [("is_row_of_integers", p1), ("is_polynomial", p2), ("sum_of_terms", p3)], ne⟩) TT X G hfa r1 r2 r3 t1 t2 t3 n1 n2 n3
    { single_rows := single_rows, falling_rows := falling_rows, rows_of := rows_of, block_rows := block_rows, zero_of := zero_of, inverse_modulo := inverse_modulo, make_number := make_number, add_numbers := add_numbers, multiply_numbers := multiply_numbers, as_fraction := as_fraction, is_integer := is_integer, is_integer_in := is_integer_in, is_tuple_of := is_tuple_of, is_tuple_up_to := is_tuple_up_to, is_field := is_field, is_fraction := is_fraction, is_number := is_number, is_order := is_order, is_ring := is_ring, is_row_of_integers := is_row_of_integers, is_monomial := is_monomial, is_loose_term := is_loose_term, is_polynomial := is_polynomial, check_integer_in := check_integer_in, check_ring := check_ring, check_variable := check_variable, check_polynomial := check_polynomial, check_two_polynomials := check_two_polynomials, shifted := shifted, packed := packed, unpacked := unpacked, sum_of_terms := sum_of_terms, settled := settled, packed_product := packed_product, plus := plus, times := times, power := power, powers_up_to := powers_up_to, derivative := derivative, law_taken := law_taken, law_pick := law_pick, law_order := law_order, law_ring := law_ring, law_mono := law_mono, law_gcd := law_gcd, law_num := law_num, law_number := law_number, law_zero := law_zero, law_revlex := law_revlex, law_key := law_key, law_made := law_made, law_poly := law_poly, law_alike := law_alike, law_mul := law_mul, law_derived := law_derived, law := law, n_len := PySem.W.mg_none_of X G z_len, n_isinstance := PySem.W.mg_none_of X G z_isinstance, n_int := PySem.W.mg_none_of X G z_int, n_bool := PySem.W.mg_none_of X G z_bool, n_str := PySem.W.mg_none_of X G z_str, n_tuple := PySem.W.mg_none_of X G z_tuple, n_list := PySem.W.mg_none_of X G z_list, n_range := PySem.W.mg_none_of X G z_range, n_reversed := PySem.W.mg_none_of X G z_reversed, n_zip := PySem.W.mg_none_of X G z_zip, n_sum := PySem.W.mg_none_of X G z_sum, n_max := PySem.W.mg_none_of X G z_max, n_all := PySem.W.mg_none_of X G z_all, n_any := PySem.W.mg_none_of X G z_any, n_sorted := PySem.W.mg_none_of X G z_sorted, n_abs := PySem.W.mg_none_of X G z_abs, n_enumerate := PySem.W.mg_none_of X G z_enumerate, Coding := Cd, aPRIMES := aP, g_PRIMES := PySem.W.mg_of X G y2, t_PRIMES := y3, t_PLACE := t_PLACE, g_PLACE := g_PLACE, t_MASK := t_MASK, g_MASK := g_MASK, t_WIDTH := t_WIDTH, g_WIDTH := g_WIDTH, t_MOST_VARIABLES := t_MOST_VARIABLES, g_MOST_VARIABLES := g_MOST_VARIABLES, t_MOST_WEIGHT := t_MOST_WEIGHT, g_MOST_WEIGHT := g_MOST_WEIGHT, t_MOST_DEGREE := t_MOST_DEGREE, g_MOST_DEGREE := g_MOST_DEGREE, t_NUMBER_BOUND := t_NUMBER_BOUND, g_NUMBER_BOUND := g_NUMBER_BOUND, t_MOST_TERMS := t_MOST_TERMS, g_MOST_TERMS := g_MOST_TERMS, t_MOST_POWER := t_MOST_POWER, g_MOST_POWER := g_MOST_POWER, g_gcd := PySem.W.mg_of X G yG, g_lcm := PySem.W.mg_of X G yL, fx := f4, fdx := _, Fx := fun_mk (st := s_Coding_exponents) xl xe xk, m_exponents := meth_at (Option.some.inj (Cd.g.symm.trans (PySem.W.mg_of X G xc))) ⟨xa, xi, xk⟩ }
end

end Toy
open PySem PySem.W PyProof.Rows
set_option maxRecDepth 100000 in
set_option maxHeartbeats 0 in
theorem PySem.Challenge.cw_idealcore_k04_whole_derivatives_holds : PySem.Challenge.rw_idealcore_k04_whole_derivatives.Holds := by
  w_on; o_law; k_head; (case hw => w_witness2)
  k_fill
  refine Toy.walk_top (l := PySem.Challenge.rw_idealcore_k04_whole_derivatives) (n := 63) (k := 22) (x := "script") (CX := fun _ => L2.CX0) rfl (by decide) rfl ⟨rfl, by decide, by decide⟩ (fun w h Y => PySem.W.km_in_of Y) ?F (fun _ _ _ _ _ z => z)
  case F =>
    intro w s0 mg mb fa h GG KX G hmg
    obtain ⟨t_NUMBER_BOUND, h_NUMBER_BOUND⟩ := Toy.loose_int (x := "NUMBER_BOUND") GG.X (by first | exact List.mem_cons_self | exact .tail _ List.mem_cons_self | exact .tail _ (.tail _ List.mem_cons_self) | exact .tail _ (.tail _ (.tail _ List.mem_cons_self)) | exact .tail _ (.tail _ (.tail _ (.tail _ List.mem_cons_self))))
    refine' Toy.fin GG.T KX G hmg ?hr1 ?hr2 ?hr3 (Toy.tab_in ?ta1 ?tb1 ?tc1 ?td1 ?te1) (Toy.tab_in ?ta2 ?tb2 ?tc2 ?td2 ?te2) (Toy.tab_in ?ta3 ?tb3 ?tc3 ?td3 ?te3) ?n1 ?n2 ?n3 ?ne
      (Toy.defI KX G ?a_single_rows ?l_single_rows ?c_single_rows ?k_single_rows)
      (Toy.defI KX G ?a_falling_rows ?l_falling_rows ?c_falling_rows ?k_falling_rows)
      (Toy.defI KX G ?a_rows_of ?l_rows_of ?c_rows_of ?k_rows_of)
      (Toy.defI KX G ?a_block_rows ?l_block_rows ?c_block_rows ?k_block_rows)
      (Toy.defI KX G ?a_zero_of ?l_zero_of ?c_zero_of ?k_zero_of)
      (Toy.defI KX G ?a_inverse_modulo ?l_inverse_modulo ?c_inverse_modulo ?k_inverse_modulo)
      (Toy.defI KX G ?a_make_number ?l_make_number ?c_make_number ?k_make_number)
      (Toy.defI KX G ?a_add_numbers ?l_add_numbers ?c_add_numbers ?k_add_numbers)
      (Toy.defI KX G ?a_multiply_numbers ?l_multiply_numbers ?c_multiply_numbers ?k_multiply_numbers)
      (Toy.defI KX G ?a_as_fraction ?l_as_fraction ?c_as_fraction ?k_as_fraction)
      (Toy.defI KX G ?a_is_integer ?l_is_integer ?c_is_integer ?k_is_integer)
      (Toy.defI KX G ?a_is_integer_in ?l_is_integer_in ?c_is_integer_in ?k_is_integer_in)
      (Toy.defI KX G ?a_is_tuple_of ?l_is_tuple_of ?c_is_tuple_of ?k_is_tuple_of)
      (Toy.defI KX G ?a_is_tuple_up_to ?l_is_tuple_up_to ?c_is_tuple_up_to ?k_is_tuple_up_to)
      (Toy.defI KX G ?a_is_field ?l_is_field ?c_is_field ?k_is_field)
      (Toy.defI KX G ?a_is_fraction ?l_is_fraction ?c_is_fraction ?k_is_fraction)
      (Toy.defI KX G ?a_is_number ?l_is_number ?c_is_number ?k_is_number)
      (Toy.defI KX G ?a_is_order ?l_is_order ?c_is_order ?k_is_order)
      (Toy.defI KX G ?a_is_ring ?l_is_ring ?c_is_ring ?k_is_ring)
      (Toy.defI KX G ?a_is_row_of_integers ?l_is_row_of_integers ?c_is_row_of_integers ?k_is_row_of_integers)
      (Toy.defI KX G ?a_is_monomial ?l_is_monomial ?c_is_monomial ?k_is_monomial)
      (Toy.defI KX G ?a_is_loose_term ?l_is_loose_term ?c_is_loose_term ?k_is_loose_term)
      (Toy.defI KX G ?a_is_polynomial ?l_is_polynomial ?c_is_polynomial ?k_is_polynomial)
      (Toy.defI KX G ?a_check_integer_in ?l_check_integer_in ?c_check_integer_in ?k_check_integer_in)
      (Toy.defI KX G ?a_check_ring ?l_check_ring ?c_check_ring ?k_check_ring)
      (Toy.defI KX G ?a_check_variable ?l_check_variable ?c_check_variable ?k_check_variable)
      (Toy.defI KX G ?a_check_polynomial ?l_check_polynomial ?c_check_polynomial ?k_check_polynomial)
      (Toy.defI KX G ?a_check_two_polynomials ?l_check_two_polynomials ?c_check_two_polynomials ?k_check_two_polynomials)
      (Toy.defI KX G ?a_shifted ?l_shifted ?c_shifted ?k_shifted)
      (Toy.defI KX G ?a_packed ?l_packed ?c_packed ?k_packed)
      (Toy.defI KX G ?a_unpacked ?l_unpacked ?c_unpacked ?k_unpacked)
      (Toy.defI KX G ?a_sum_of_terms ?l_sum_of_terms ?c_sum_of_terms ?k_sum_of_terms)
      (Toy.defI KX G ?a_settled ?l_settled ?c_settled ?k_settled)
      (Toy.defI KX G ?a_packed_product ?l_packed_product ?c_packed_product ?k_packed_product)
      (Toy.defI KX G ?a_plus ?l_plus ?c_plus ?k_plus)
      (Toy.defI KX G ?a_times ?l_times ?c_times ?k_times)
      (Toy.defI KX G ?a_power ?l_power ?c_power ?k_power)
      (Toy.defI KX G ?a_powers_up_to ?l_powers_up_to ?c_powers_up_to ?k_powers_up_to)
      (Toy.defI KX G ?a_derivative ?l_derivative ?c_derivative ?k_derivative)
      (Toy.defI KX G ?a_law_taken ?l_law_taken ?c_law_taken ?k_law_taken)
      (Toy.defI KX G ?a_law_pick ?l_law_pick ?c_law_pick ?k_law_pick)
      (Toy.defI KX G ?a_law_order ?l_law_order ?c_law_order ?k_law_order)
      (Toy.defI KX G ?a_law_ring ?l_law_ring ?c_law_ring ?k_law_ring)
      (Toy.defI KX G ?a_law_mono ?l_law_mono ?c_law_mono ?k_law_mono)
      (Toy.defI KX G ?a_law_gcd ?l_law_gcd ?c_law_gcd ?k_law_gcd)
      (Toy.defI KX G ?a_law_num ?l_law_num ?c_law_num ?k_law_num)
      (Toy.defI KX G ?a_law_number ?l_law_number ?c_law_number ?k_law_number)
      (Toy.defI KX G ?a_law_zero ?l_law_zero ?c_law_zero ?k_law_zero)
      (Toy.defI KX G ?a_law_revlex ?l_law_revlex ?c_law_revlex ?k_law_revlex)
      (Toy.defI KX G ?a_law_key ?l_law_key ?c_law_key ?k_law_key)
      (Toy.defI KX G ?a_law_made ?l_law_made ?c_law_made ?k_law_made)
      (Toy.defI KX G ?a_law_poly ?l_law_poly ?c_law_poly ?k_law_poly)
      (Toy.defI KX G ?a_law_alike ?l_law_alike ?c_law_alike ?k_law_alike)
      (Toy.defI KX G ?a_law_mul ?l_law_mul ?c_law_mul ?k_law_mul)
      (Toy.defI KX G ?a_law_derived ?l_law_derived ?c_law_derived ?k_law_derived)
      (Toy.defI KX G ?a_law ?l_law ?c_law ?k_law)
      (Toy.codI KX G ?lT ?vT ?lE ?zE ?vE ?aC ?b1 ?i1 ?l1 ?e1 ?b2 ?i2 ?l2 ?e2 ?b3 ?i3 ?l3 ?e3 ?k1 ?k2 ?k3 ?pg ?hd ?po ?sa ?mk ?kc ?m1 ?m2 ?m3 ?m4 ?m5 ?m6 ?m7 ?m8 ?m9)
      ?z_len ?z_isinstance ?z_int ?z_bool ?z_str ?z_tuple ?z_list ?z_range ?z_reversed ?z_zip ?z_sum ?z_max ?z_all ?z_any ?z_sorted ?z_abs ?z_enumerate ?y2 ?y3 (PySem.W.mg_of KX G ?g_PLACE) (PySem.W.mg_of KX G ?g_MASK) (PySem.W.mg_of KX G ?g_WIDTH) (PySem.W.mg_of KX G ?g_MOST_VARIABLES) (PySem.W.mg_of KX G ?g_MOST_WEIGHT) (PySem.W.mg_of KX G ?g_MOST_DEGREE) h_NUMBER_BOUND (PySem.W.mg_of KX G ?g_MOST_TERMS) (PySem.W.mg_of KX G ?g_MOST_POWER) ?yG ?yL ?xc ?xa ?xi ?xl ?xe ?xk
    (case z_len => k_is); (case z_isinstance => k_is); (case z_int => k_is); (case z_bool => k_is); (case z_str => k_is); (case z_tuple => k_is); (case z_list => k_is); (case z_range => k_is); (case z_reversed => k_is); (case z_zip => k_is); (case z_sum => k_is); (case z_max => k_is); (case z_all => k_is); (case z_any => k_is); (case z_sorted => k_is); (case z_abs => k_is); (case z_enumerate => k_is)
    (case a_single_rows => k_is); (case l_single_rows => k_is); (case c_single_rows => k_is); (case k_single_rows => k_is)
    (case a_falling_rows => k_is); (case l_falling_rows => k_is); (case c_falling_rows => k_is); (case k_falling_rows => k_is)
    (case a_rows_of => k_is); (case l_rows_of => k_is); (case c_rows_of => k_is); (case k_rows_of => k_is)
    (case a_block_rows => k_is); (case l_block_rows => k_is); (case c_block_rows => k_is); (case k_block_rows => k_is)
    (case a_zero_of => k_is); (case l_zero_of => k_is); (case c_zero_of => k_is); (case k_zero_of => k_is)
    (case a_inverse_modulo => k_is); (case l_inverse_modulo => k_is); (case c_inverse_modulo => k_is); (case k_inverse_modulo => k_is)
    (case a_make_number => k_is); (case l_make_number => k_is); (case c_make_number => k_is); (case k_make_number => k_is)
    (case a_add_numbers => k_is); (case l_add_numbers => k_is); (case c_add_numbers => k_is); (case k_add_numbers => k_is)
    (case a_multiply_numbers => k_is); (case l_multiply_numbers => k_is); (case c_multiply_numbers => k_is); (case k_multiply_numbers => k_is)
    (case a_as_fraction => k_is); (case l_as_fraction => k_is); (case c_as_fraction => k_is); (case k_as_fraction => k_is)
    (case a_is_integer => k_is); (case l_is_integer => k_is); (case c_is_integer => k_is); (case k_is_integer => k_is)
    (case a_is_integer_in => k_is); (case l_is_integer_in => k_is); (case c_is_integer_in => k_is); (case k_is_integer_in => k_is)
    (case a_is_tuple_of => k_is); (case l_is_tuple_of => k_is); (case c_is_tuple_of => k_is); (case k_is_tuple_of => k_is)
    (case a_is_tuple_up_to => k_is); (case l_is_tuple_up_to => k_is); (case c_is_tuple_up_to => k_is); (case k_is_tuple_up_to => k_is)
    (case a_is_field => k_is); (case l_is_field => k_is); (case c_is_field => k_is); (case k_is_field => k_is)
    (case a_is_fraction => k_is); (case l_is_fraction => k_is); (case c_is_fraction => k_is); (case k_is_fraction => k_is)
    (case a_is_number => k_is); (case l_is_number => k_is); (case c_is_number => k_is); (case k_is_number => k_is)
    (case a_is_order => k_is); (case l_is_order => k_is); (case c_is_order => k_is); (case k_is_order => k_is)
    (case a_is_ring => k_is); (case l_is_ring => k_is); (case c_is_ring => k_is); (case k_is_ring => k_is)
    (case a_is_row_of_integers => k_is); (case l_is_row_of_integers => k_is); (case c_is_row_of_integers => k_is); (case k_is_row_of_integers => k_is)
    (case a_is_monomial => k_is); (case l_is_monomial => k_is); (case c_is_monomial => k_is); (case k_is_monomial => k_is)
    (case a_is_loose_term => k_is); (case l_is_loose_term => k_is); (case c_is_loose_term => k_is); (case k_is_loose_term => k_is)
    (case a_is_polynomial => k_is); (case l_is_polynomial => k_is); (case c_is_polynomial => k_is); (case k_is_polynomial => k_is)
    (case a_check_integer_in => k_is); (case l_check_integer_in => k_is); (case c_check_integer_in => k_is); (case k_check_integer_in => k_is)
    (case a_check_ring => k_is); (case l_check_ring => k_is); (case c_check_ring => k_is); (case k_check_ring => k_is)
    (case a_check_variable => k_is); (case l_check_variable => k_is); (case c_check_variable => k_is); (case k_check_variable => k_is)
    (case a_check_polynomial => k_is); (case l_check_polynomial => k_is); (case c_check_polynomial => k_is); (case k_check_polynomial => k_is)
    (case a_check_two_polynomials => k_is); (case l_check_two_polynomials => k_is); (case c_check_two_polynomials => k_is); (case k_check_two_polynomials => k_is)
    (case a_shifted => k_is); (case l_shifted => k_is); (case c_shifted => k_is); (case k_shifted => k_is)
    (case a_packed => k_is); (case l_packed => k_is); (case c_packed => k_is); (case k_packed => k_is)
    (case a_unpacked => k_is); (case l_unpacked => k_is); (case c_unpacked => k_is); (case k_unpacked => k_is)
    (case a_sum_of_terms => k_is); (case l_sum_of_terms => k_is); (case c_sum_of_terms => k_is); (case k_sum_of_terms => k_is)
    (case a_settled => k_is); (case l_settled => k_is); (case c_settled => k_is); (case k_settled => k_is)
    (case a_packed_product => k_is); (case l_packed_product => k_is); (case c_packed_product => k_is); (case k_packed_product => k_is)
    (case a_plus => k_is); (case l_plus => k_is); (case c_plus => k_is); (case k_plus => k_is)
    (case a_times => k_is); (case l_times => k_is); (case c_times => k_is); (case k_times => k_is)
    (case a_power => k_is); (case l_power => k_is); (case c_power => k_is); (case k_power => k_is)
    (case a_powers_up_to => k_is); (case l_powers_up_to => k_is); (case c_powers_up_to => k_is); (case k_powers_up_to => k_is)
    (case a_derivative => k_is); (case l_derivative => k_is); (case c_derivative => k_is); (case k_derivative => k_is)
    (case a_law_taken => k_is); (case l_law_taken => k_is); (case c_law_taken => k_is); (case k_law_taken => k_is)
    (case a_law_pick => k_is); (case l_law_pick => k_is); (case c_law_pick => k_is); (case k_law_pick => k_is)
    (case a_law_order => k_is); (case l_law_order => k_is); (case c_law_order => k_is); (case k_law_order => k_is)
    (case a_law_ring => k_is); (case l_law_ring => k_is); (case c_law_ring => k_is); (case k_law_ring => k_is)
    (case a_law_mono => k_is); (case l_law_mono => k_is); (case c_law_mono => k_is); (case k_law_mono => k_is)
    (case a_law_gcd => k_is); (case l_law_gcd => k_is); (case c_law_gcd => k_is); (case k_law_gcd => k_is)
    (case a_law_num => k_is); (case l_law_num => k_is); (case c_law_num => k_is); (case k_law_num => k_is)
    (case a_law_number => k_is); (case l_law_number => k_is); (case c_law_number => k_is); (case k_law_number => k_is)
    (case a_law_zero => k_is); (case l_law_zero => k_is); (case c_law_zero => k_is); (case k_law_zero => k_is)
    (case a_law_revlex => k_is); (case l_law_revlex => k_is); (case c_law_revlex => k_is); (case k_law_revlex => k_is)
    (case a_law_key => k_is); (case l_law_key => k_is); (case c_law_key => k_is); (case k_law_key => k_is)
    (case a_law_made => k_is); (case l_law_made => k_is); (case c_law_made => k_is); (case k_law_made => k_is)
    (case a_law_poly => k_is); (case l_law_poly => k_is); (case c_law_poly => k_is); (case k_law_poly => k_is)
    (case a_law_alike => k_is); (case l_law_alike => k_is); (case c_law_alike => k_is); (case k_law_alike => k_is)
    (case a_law_mul => k_is); (case l_law_mul => k_is); (case c_law_mul => k_is); (case k_law_mul => k_is)
    (case a_law_derived => k_is); (case l_law_derived => k_is); (case c_law_derived => k_is); (case k_law_derived => k_is)
    (case a_law => k_is); (case l_law => k_is); (case c_law => k_is); (case k_law => k_is)
    (case hr1 => rfl); (case hr2 => rfl); (case hr3 => rfl)
    (case ta1 => k_is); (case tb1 => k_is); (case tc1 => rfl); (case td1 => k_is); (case te1 => rfl); (case ta2 => k_is); (case tb2 => k_is); (case tc2 => rfl); (case td2 => k_is); (case te2 => rfl); (case ta3 => k_is); (case tb3 => k_is); (case tc3 => rfl); (case td3 => k_is); (case te3 => rfl)
    (case n1 => kernel_rfl); (case n2 => kernel_rfl); (case n3 => kernel_rfl)
    (case ne => decide)
    (case aC => k_is); (case b1 => k_is); (case i1 => k_is); (case l1 => k_is); (case e1 => k_is)
    (case b2 => k_is); (case i2 => k_is); (case l2 => k_is); (case e2 => k_is)
    (case b3 => k_is); (case i3 => k_is); (case l3 => k_is); (case e3 => k_is)
    (case k1 => k_is); (case k2 => k_is); (case k3 => k_is)
    (case pg => k_is); (case hd => k_is); (case po => k_is); (case sa => k_is); (case mk => k_is); (case kc => k_is)
    (case m1 => k_is); (case m2 => k_is); (case m3 => k_is); (case m4 => k_is); (case m5 => k_is); (case m6 => k_is); (case m7 => k_is); (case m8 => k_is); (case m9 => k_is)
    (case lT => k_is); (case vT => exact .cons rfl (.cons rfl .nil)); (case lE => k_is); (case zE => decide); (case vE => exact .nil)
    (case y2 => k_is)
    (case y3 =>
      refine' Toy.tup_written ?l ?z ?v
      (case l => k_is)
      (case z => decide)
      (case v => exact (.cons ⟨_, rfl⟩ (.cons ⟨_, rfl⟩ (.cons ⟨_, rfl⟩ (.cons ⟨_, rfl⟩ (.cons ⟨_, rfl⟩ (.cons ⟨_, rfl⟩ (.cons ⟨_, rfl⟩ (.cons ⟨_, rfl⟩ (.cons ⟨_, rfl⟩ (.cons ⟨_, rfl⟩ (.cons ⟨_, rfl⟩ .nil)))))))))))))
    (case g_PLACE => k_is); (case g_MASK => k_is); (case g_WIDTH => k_is); (case g_MOST_VARIABLES => k_is); (case g_MOST_WEIGHT => k_is); (case g_MOST_DEGREE => k_is); (case g_MOST_TERMS => k_is); (case g_MOST_POWER => k_is)
    (case yG => k_is); (case yL => k_is); (case xc => k_is); (case xa => k_is); (case xi => k_is); (case xl => k_is); (case xe => k_is); (case xk => k_is)
#print axioms PySem.Challenge.cw_idealcore_k04_whole_derivatives_holds
namespace Toy


end Toy
