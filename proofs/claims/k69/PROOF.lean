import PyProof.Rows.All
import Wide.All
import OpenK.AllK
import Wide.FinOn
import HandS.ForMost
import HandS.ForExc
import HandS.IsInst
import HandS.Wide
import HandS.WideBits
import HandS.Nested
import HandS.Lambda
import HandS.LawCells
import HandS.EndTab
import HandS.EndOwn
import HandS.AnyAll
import HandS.Zip
import HandS.TupMul
import HandS.TupLe
import HandS.TupAny
import HandS.SortKw
import HandS.RevRange
import HandS.Walk
import HandS.Conv
import HandS.Defaults
import HandS.GenList
import KE.KTupSum
import KE.GoesZip
import KE.GoesMore
import KE.DataCmp
import KE.SortData
import KE.SortKeyHeap
import PyProof.GenCompD
import KE.GoesEnum
import HandS.Gcd
import HandS.DictComp
import KE.DataMinMax
import KE.OsArith
import HandS.Style
import PySem.Challenge.RW_idealcore_k69_known_betti_numbers

set_option Elab.async false
set_option linter.all false
set_option maxRecDepth 100000
set_option maxHeartbeats 4000000
namespace Toy
open PySem L2
/-! ### the text by places -/
def topS (i : Nat) : Stmt := PySem.Challenge.pw_idealcore_k69_known_betti_numbers.main.body.getD i (.Pass ⟨0, 0, 0, 0⟩)
/-! ### what a def of the top is -/
structure DefAt (K : PySem.W.Frag) (mg : Str → Option Value) (x : Str) (st : Stmt) where
  f : Addr
  fd : FuncData
  F : Fun K x x st f fd
  g : mg x = some (.ref f)
noncomputable def defI {K : PySem.W.Frag} {h : Heap} {mg : Str → Option Value} (X : K.In h) (G : h.Ns mainGlobals mg) {x : Str} {st : Stmt} {f : Addr} {oc : Value} {od an : Option Addr} {osl : Array (Option Value)} {kV doc pm cdv ct : Value}
    (a : PySem.W.nsIn K mainGlobals x = some (some (.ref f))) (l : K.lookup f = some ⟨oc, od, .func (PySem.W.fnOf x x (defArgs st) (defBody st) (defScope st) .none kV doc pm an cdv ct), osl⟩)
    (c : PySem.W.codeIn K cdv x = true) (k : PySem.W.keepIn K (.ref f) = true) : DefAt K mg x st :=
  ⟨f, _, fun_mk (st := st) l c k, PySem.W.mg_of X G a⟩
/-! ### rules of my own -/
section
variable {X : Cx}
/-- // by any divisor but 0, below 2 ^ 9000 in size -/
def CDivZ (_ j : Int) : Prop := j ≠ 0 ∧ j.natAbs.log2 < 9000
theorem op_fdivZ : OpR X (binaryOp .FloorDiv) (rI CDivZ fun i j => .int (i.fdiv j)) := opI fun _ _ _ _ _ _ _ hc q =>
  PyProof.Rows.floordiv_int hc.1 q (.inl (PyProof.noPylong_of_log2 hc.2))
theorem cdivZ {i j : Int} {b : Nat} (h : j ≠ 0) (hb : j.natAbs < 2 ^ b) (h0 : 0 < b) (h9 : b ≤ 9000) : CDivZ i j := ⟨h, Nat.lt_of_lt_of_le (PySem.Flt.log2_lt_of h0 hb) h9⟩
/-- ** with a small exponent -/
def CPowW (i j : Int) : Prop := 0 ≤ j ∧ (Builtin.Int.intBits i : Int) * j ≤ 2 ^ 27
theorem op_powW : OpR X (binaryOp .Pow) (rI CPowW fun i j => .int (i ^ j.toNat)) := opI fun _ _ _ _ _ _ _ hc q =>
  PyProof.Rows.pow_int hc.1 hc.2 q
end
def rLenS (K : PySem.W.Frag) : List V → Hp → VK → Prop := fun xs H Q => ∃ p ys, xs = [.ref p] ∧ (SqL K H p ys ∨ SqT K H p ys) ∧ Q (.int ys.length) H
theorem bo_len : bootBuiltins "len" = some (.builtin "len") := by decide +kernel
theorem bo_isinstance : bootBuiltins "isinstance" = some (.builtin "isinstance") := by decide +kernel
theorem bo_abs : bootBuiltins "abs" = some (.builtin "abs") := by decide +kernel
theorem bo_int : bootBuiltins "int" = some (.type "int") := by decide +kernel
theorem bo_bool : bootBuiltins "bool" = some (.type "bool") := by decide +kernel
theorem bo_str : bootBuiltins "str" = some (.type "str") := by decide +kernel
theorem bo_tuple : bootBuiltins "tuple" = some (.type "tuple") := by decide +kernel
theorem bo_list : bootBuiltins "list" = some (.type "list") := by decide +kernel
/-! ### heaps -/
/-- all but what stands at r is as it was -/
def KeepBut (r : Addr) (H H' : Hp) : Prop := ∀ b o, b ≠ r → H b = some o → H' b = some o
theorem KeepBut.of {r : Addr} {H H' : Hp} (h : Same H H') : KeepBut r H H' := fun b o _ e => h b o e
theorem KeepBut.trans {r : Addr} {H H1 H2 : Hp} (a : KeepBut r H H1) (b : KeepBut r H1 H2) : KeepBut r H H2 := fun c o n e => b c o n (a c o n e)
theorem same_upd {H : Hp} {p : Addr} {o : HO} (h : H p = none) : Same H (upd H p o) := fun b u e => by
  rw [upd_ne (ne_of_none e h)]; exact e
theorem Same.upd' {H H' : Hp} {p : Addr} {o : HO} (s : Same H H') (h : H' p = none) : Same H (upd H' p o) := Same.trans s (same_upd h)
theorem Same.tup {K : PySem.W.Frag} {H H' : Hp} {a : Addr} {xs : List V} (e : Same H H') (h : SqT K H a xs) : SqT K H' a xs := by
  rcases h with (h | ⟨o, h⟩) | h
  · exact .inl (.inl (e _ _ h))
  · exact .inl (.inr ⟨o, e _ _ h⟩)
  · exact .inr h
/-- an own exception class over ValueError, without an __init__ of its own -/
structure ExcAt (K : PySem.W.Frag) (mg : Str → Option Value) (x : Str) where
  C : Addr
  g : mg x = some (.ref C)
  x : PySem.W.excIn K C [.type "ValueError", .type "Exception", .type "BaseException", .type "object"] "ValueError.__new__" = true
  k : PySem.W.keepIn K (.ref C) = true
  be : PySem.W.subIn K (.ref C) (.type "BaseException") = some true
  ty : PySem.W.typeIn K (.ref C) = some (.type "type")
  is : PySem.W.isClsIn K C = true
  se : PySem.W.subIn K (.ref C) (.ref C) = some true
def NBn : Nat := 10 ^ 200
def NBi : Int := 10 ^ 200
theorem nb_eq : NBi = (NBn : Int) := by decide +kernel

theorem bo_sum : bootBuiltins "sum" = some (.builtin "sum") := by decide +kernel
theorem bo_max : bootBuiltins "max" = some (.builtin "max") := by decide +kernel
theorem bo_min : bootBuiltins "min" = some (.builtin "min") := by decide +kernel
theorem bo_all : bootBuiltins "all" = some (.builtin "all") := by decide +kernel
theorem bo_any : bootBuiltins "any" = some (.builtin "any") := by decide +kernel
theorem bo_sorted : bootBuiltins "sorted" = some (.builtin "sorted") := by decide +kernel
theorem bo_divmod : bootBuiltins "divmod" = some (.builtin "divmod") := by decide +kernel
/-- masks -/
def MK32 : Int := 2 ^ 32 - 1
def MK1024 : Int := 2 ^ 1024 - 1
/-! ### the defs of the text: places, slots, scopes -/
def inClass (s : Stmt) (j : Nat) : Stmt := match s with
  | .ClassDef (body := b) .. => b.getD j (.Pass ⟨0, 0, 0, 0⟩)
  | _ => .Pass ⟨0, 0, 0, 0⟩
abbrev s_inverse_modulo : Stmt := topS 8
abbrev N_inverse_modulo : List Str := ["n", "prime", "inverse", "_"]
abbrev P_inverse_modulo : List Str := ["n", "prime"]
theorem sc_inverse_modulo : FnScope N_inverse_modulo P_inverse_modulo (defScope s_inverse_modulo) := ⟨rfl, rfl, rfl, by decide +kernel, rfl, by decide +kernel, by decide +kernel⟩

abbrev s_is_integer : Stmt := topS 12
abbrev N_is_integer : List Str := ["value"]
abbrev P_is_integer : List Str := ["value"]
theorem sc_is_integer : FnScope N_is_integer P_is_integer (defScope s_is_integer) := ⟨rfl, rfl, rfl, by decide +kernel, rfl, by decide +kernel, by decide +kernel⟩

abbrev s_is_integer_in : Stmt := topS 13
abbrev N_is_integer_in : List Str := ["value", "low", "high"]
abbrev P_is_integer_in : List Str := ["value", "low", "high"]
theorem sc_is_integer_in : FnScope N_is_integer_in P_is_integer_in (defScope s_is_integer_in) := ⟨rfl, rfl, rfl, by decide +kernel, rfl, by decide +kernel, by decide +kernel⟩

abbrev s_is_tuple_up_to : Stmt := topS 14
abbrev N_is_tuple_up_to : List Str := ["value", "most"]
abbrev P_is_tuple_up_to : List Str := ["value", "most"]
theorem sc_is_tuple_up_to : FnScope N_is_tuple_up_to P_is_tuple_up_to (defScope s_is_tuple_up_to) := ⟨rfl, rfl, rfl, by decide +kernel, rfl, by decide +kernel, by decide +kernel⟩

abbrev s_is_field : Stmt := topS 15
abbrev N_is_field : List Str := ["value"]
abbrev P_is_field : List Str := ["value"]
theorem sc_is_field : FnScope N_is_field P_is_field (defScope s_is_field) := ⟨rfl, rfl, rfl, by decide +kernel, rfl, by decide +kernel, by decide +kernel⟩

abbrev s_is_row_of_indexes : Stmt := topS 16
abbrev N_is_row_of_indexes : List Str := ["value", "many"]
abbrev P_is_row_of_indexes : List Str := ["value", "many"]
theorem sc_is_row_of_indexes : FnScope N_is_row_of_indexes P_is_row_of_indexes (defScope s_is_row_of_indexes) := ⟨rfl, rfl, rfl, by decide +kernel, rfl, by decide +kernel, by decide +kernel⟩

abbrev s_check_field : Stmt := topS 17
abbrev N_check_field : List Str := ["value"]
abbrev P_check_field : List Str := ["value"]
theorem sc_check_field : FnScope N_check_field P_check_field (defScope s_check_field) := ⟨rfl, rfl, rfl, by decide +kernel, rfl, by decide +kernel, by decide +kernel⟩

abbrev s_check_integer_in : Stmt := topS 18
abbrev N_check_integer_in : List Str := ["value", "low", "high"]
abbrev P_check_integer_in : List Str := ["value", "low", "high"]
theorem sc_check_integer_in : FnScope N_check_integer_in P_check_integer_in (defScope s_check_integer_in) := ⟨rfl, rfl, rfl, by decide +kernel, rfl, by decide +kernel, by decide +kernel⟩

abbrev s_check_many : Stmt := topS 19
abbrev N_check_many : List Str := ["value"]
abbrev P_check_many : List Str := ["value"]
theorem sc_check_many : FnScope N_check_many P_check_many (defScope s_check_many) := ⟨rfl, rfl, rfl, by decide +kernel, rfl, by decide +kernel, by decide +kernel⟩

abbrev s_settled : Stmt := topS 21
abbrev N_settled : List Str := ["field", "table", "code", "n"]
abbrev P_settled : List Str := ["field", "table"]
theorem sc_settled : FnScope N_settled P_settled (defScope s_settled) := ⟨rfl, rfl, rfl, by decide +kernel, rfl, by decide +kernel, by decide +kernel⟩

abbrev s_common_divisor : Stmt := topS 22
abbrev N_common_divisor : List Str := ["table", "start", "common", "n"]
abbrev P_common_divisor : List Str := ["table", "start"]
theorem sc_common_divisor : FnScope N_common_divisor P_common_divisor (defScope s_common_divisor) := ⟨rfl, rfl, rfl, by decide +kernel, rfl, by decide +kernel, by decide +kernel⟩

abbrev s_Echelon___init__ : Stmt := inClass (topS 28) 0
abbrev N_Echelon___init__ : List Str := ["self", "field"]
abbrev P_Echelon___init__ : List Str := ["self", "field"]
theorem sc_Echelon___init__ : FnScope N_Echelon___init__ P_Echelon___init__ (defScope s_Echelon___init__) := ⟨rfl, rfl, rfl, by decide +kernel, rfl, by decide +kernel, by decide +kernel⟩

abbrev s_Echelon_put : Stmt := inClass (topS 28) 1
abbrev N_Echelon_put : List Str := ["self", "row", "left", "column", "factor", "at", "n"]
abbrev P_Echelon_put : List Str := ["self", "row"]
theorem sc_Echelon_put : FnScope N_Echelon_put P_Echelon_put (defScope s_Echelon_put) := ⟨rfl, rfl, rfl, by decide +kernel, rfl, by decide +kernel, by decide +kernel⟩

abbrev s_Echelon_rest : Stmt := inClass (topS 28) 2
abbrev N_Echelon_rest : List Str := ["self", "row", "left", "column", "kept"]
abbrev P_Echelon_rest : List Str := ["self", "row"]
theorem sc_Echelon_rest : FnScope N_Echelon_rest P_Echelon_rest (defScope s_Echelon_rest) := ⟨rfl, rfl, rfl, by decide +kernel, rfl, by decide +kernel, by decide +kernel⟩

abbrev s_Echelon_rest_modulo : Stmt := inClass (topS 28) 3
abbrev N_Echelon_rest_modulo : List Str := ["self", "row", "left", "column", "kept", "n"]
abbrev P_Echelon_rest_modulo : List Str := ["self", "row"]
theorem sc_Echelon_rest_modulo : FnScope N_Echelon_rest_modulo P_Echelon_rest_modulo (defScope s_Echelon_rest_modulo) := ⟨rfl, rfl, rfl, by decide +kernel, rfl, by decide +kernel, by decide +kernel⟩

abbrev s_slot_of : Stmt := topS 29
abbrev N_slot_of : List Str := ["column"]
abbrev P_slot_of : List Str := ["column"]
theorem sc_slot_of : FnScope N_slot_of P_slot_of (defScope s_slot_of) := ⟨rfl, rfl, rfl, by decide +kernel, rfl, by decide +kernel, by decide +kernel⟩

abbrev s_bits_of : Stmt := topS 30
abbrev N_bits_of : List Str := ["row", "lots", "column", "n", "lot", "slot", "bits"]
abbrev P_bits_of : List Str := ["row"]
theorem sc_bits_of : FnScope N_bits_of P_bits_of (defScope s_bits_of) := ⟨rfl, rfl, rfl, by decide +kernel, rfl, by decide +kernel, by decide +kernel⟩

abbrev s_row_of_bits : Stmt := topS 31
abbrev N_row_of_bits : List Str := ["bits", "row", "left", "start", "lot", "slot"]
abbrev P_row_of_bits : List Str := ["bits"]
theorem sc_row_of_bits : FnScope N_row_of_bits P_row_of_bits (defScope s_row_of_bits) := ⟨rfl, rfl, rfl, by decide +kernel, rfl, by decide +kernel, by decide +kernel⟩

abbrev s_cancelled : Stmt := topS 32
abbrev N_cancelled : List Str := ["row", "n", "other", "first", "total", "at", "number", "common"]
abbrev P_cancelled : List Str := ["row", "n", "other", "first"]
theorem sc_cancelled : FnScope N_cancelled P_cancelled (defScope s_cancelled) := ⟨rfl, rfl, rfl, by decide +kernel, rfl, by decide +kernel, by decide +kernel⟩

abbrev s_rank : Stmt := topS 33
abbrev N_rank : List Str := ["field", "rows", "echelon", "row"]
abbrev P_rank : List Str := ["field", "rows"]
theorem sc_rank : FnScope N_rank P_rank (defScope s_rank) := ⟨rfl, rfl, rfl, by decide +kernel, rfl, by decide +kernel, by decide +kernel⟩

abbrev s_check_sets : Stmt := topS 36
abbrev N_check_sets : List Str := ["many", "value", "index", "places"]
abbrev P_check_sets : List Str := ["many", "value"]
theorem sc_check_sets : FnScope N_check_sets P_check_sets (defScope s_check_sets) := ⟨rfl, rfl, rfl, by decide +kernel, rfl, by decide +kernel, by decide +kernel⟩

abbrev s_check_complex : Stmt := topS 37
abbrev N_check_complex : List Str := ["many", "value"]
abbrev P_check_complex : List Str := ["many", "value"]
theorem sc_check_complex : FnScope N_check_complex P_check_complex (defScope s_check_complex) := ⟨rfl, rfl, rfl, by decide +kernel, rfl, by decide +kernel, by decide +kernel⟩

abbrev s_is_complex : Stmt := topS 38
abbrev N_is_complex : List Str := ["many", "value", "masks", "places"]
abbrev P_is_complex : List Str := ["many", "value"]
theorem sc_is_complex : FnScope N_is_complex P_is_complex (defScope s_is_complex) := ⟨rfl, rfl, rfl, by decide +kernel, rfl, by decide +kernel, by decide +kernel⟩

abbrev s_mask_of : Stmt := topS 39
abbrev N_mask_of : List Str := ["places", "place"]
abbrev P_mask_of : List Str := ["places"]
theorem sc_mask_of : FnScope N_mask_of P_mask_of (defScope s_mask_of) := ⟨rfl, rfl, rfl, by decide +kernel, rfl, by decide +kernel, by decide +kernel⟩

abbrev s_set_of : Stmt := topS 40
abbrev N_set_of : List Str := ["mask", "place"]
abbrev P_set_of : List Str := ["mask"]
theorem sc_set_of : FnScope N_set_of P_set_of (defScope s_set_of) := ⟨rfl, rfl, rfl, by decide +kernel, rfl, by decide +kernel, by decide +kernel⟩

abbrev s_sets_of : Stmt := topS 41
abbrev N_sets_of : List Str := ["masks", "mask"]
abbrev P_sets_of : List Str := ["masks"]
theorem sc_sets_of : FnScope N_sets_of P_sets_of (defScope s_sets_of) := ⟨rfl, rfl, rfl, by decide +kernel, rfl, by decide +kernel, by decide +kernel⟩

abbrev s_holds : Stmt := topS 42
abbrev N_holds : List Str := ["mask", "other"]
abbrev P_holds : List Str := ["mask", "other"]
theorem sc_holds : FnScope N_holds P_holds (defScope s_holds) := ⟨rfl, rfl, rfl, by decide +kernel, rfl, by decide +kernel, by decide +kernel⟩

abbrev s_least : Stmt := topS 43
abbrev N_least : List Str := ["masks", "mask", "other"]
abbrev P_least : List Str := ["masks"]
theorem sc_least : FnScope N_least P_least (defScope s_least) := ⟨rfl, rfl, rfl, by decide +kernel, rfl, by decide +kernel, by decide +kernel⟩

abbrev s_greatest : Stmt := topS 44
abbrev N_greatest : List Str := ["masks", "mask", "other"]
abbrev P_greatest : List Str := ["masks"]
theorem sc_greatest : FnScope N_greatest P_greatest (defScope s_greatest) := ⟨rfl, rfl, rfl, by decide +kernel, rfl, by decide +kernel, by decide +kernel⟩

abbrev s_free_masks : Stmt := topS 45
abbrev N_free_masks : List Str := ["many", "sets", "masks", "places", "mask", "other"]
abbrev P_free_masks : List Str := ["many", "sets"]
theorem sc_free_masks : FnScope N_free_masks P_free_masks (defScope s_free_masks) := ⟨rfl, rfl, rfl, by decide +kernel, rfl, by decide +kernel, by decide +kernel⟩

abbrev s_nonface_masks : Stmt := topS 46
abbrev N_nonface_masks : List Str := ["many", "facets", "masks", "places", "mask", "other"]
abbrev P_nonface_masks : List Str := ["many", "facets"]
theorem sc_nonface_masks : FnScope N_nonface_masks P_nonface_masks (defScope s_nonface_masks) := ⟨rfl, rfl, rfl, by decide +kernel, rfl, by decide +kernel, by decide +kernel⟩

abbrev s_levels_of : Stmt := topS 47
abbrev N_levels_of : List Str := ["masks", "levels", "places", "mask"]
abbrev P_levels_of : List Str := ["masks"]
theorem sc_levels_of : FnScope N_levels_of P_levels_of (defScope s_levels_of) := ⟨rfl, rfl, rfl, by decide +kernel, rfl, by decide +kernel, by decide +kernel⟩

abbrev s_nonfaces : Stmt := topS 48
abbrev N_nonfaces : List Str := ["many", "facets"]
abbrev P_nonfaces : List Str := ["many", "facets"]
theorem sc_nonfaces : FnScope N_nonfaces P_nonfaces (defScope s_nonfaces) := ⟨rfl, rfl, rfl, by decide +kernel, rfl, by decide +kernel, by decide +kernel⟩

abbrev s_border : Stmt := topS 49
abbrev N_border : List Str := ["places", "indexes", "row", "sign", "at"]
abbrev P_border : List Str := ["places", "indexes"]
theorem sc_border : FnScope N_border P_border (defScope s_border) := ⟨rfl, rfl, rfl, by decide +kernel, rfl, by decide +kernel, by decide +kernel⟩

abbrev s_border_rank : Stmt := topS 50
abbrev N_border_rank : List Str := ["field", "level", "below", "indexes", "index", "places"]
abbrev P_border_rank : List Str := ["field", "level", "below"]
theorem sc_border_rank : FnScope N_border_rank P_border_rank (defScope s_border_rank) := ⟨rfl, rfl, rfl, by decide +kernel, rfl, by decide +kernel, by decide +kernel⟩

abbrev s_dimensions : Stmt := topS 51
abbrev N_dimensions : List Str := ["field", "levels", "ranks", "k", "level"]
abbrev P_dimensions : List Str := ["field", "levels"]
theorem sc_dimensions : FnScope N_dimensions P_dimensions (defScope s_dimensions) := ⟨rfl, rfl, rfl, by decide +kernel, rfl, by decide +kernel, by decide +kernel⟩

abbrev s_betti_triples : Stmt := topS 52
abbrev N_betti_triples : List Str := ["field", "many", "sets", "masks", "found", "whole", "places", "inside", "mask", "length", "number"]
abbrev P_betti_triples : List Str := ["field", "many", "sets"]
theorem sc_betti_triples : FnScope N_betti_triples P_betti_triples (defScope s_betti_triples) := ⟨rfl, rfl, rfl, by decide +kernel, rfl, by decide +kernel, by decide +kernel⟩

abbrev s_square_betti : Stmt := topS 53
abbrev N_square_betti : List Str := ["field", "many", "sets", "sums", "step", "places", "number", "size"]
abbrev P_square_betti : List Str := ["field", "many", "sets"]
theorem sc_square_betti : FnScope N_square_betti P_square_betti (defScope s_square_betti) := ⟨rfl, rfl, rfl, by decide +kernel, rfl, by decide +kernel, by decide +kernel⟩

abbrev s_law_taken : Stmt := topS 55
abbrev N_law_taken : List Str := ["row", "many", "found", "cell"]
abbrev P_law_taken : List Str := ["row", "many"]
theorem sc_law_taken : FnScope N_law_taken P_law_taken (defScope s_law_taken) := ⟨rfl, rfl, rfl, by decide +kernel, rfl, by decide +kernel, by decide +kernel⟩

abbrev s_law_pick : Stmt := topS 56
abbrev N_law_pick : List Str := ["row", "things"]
abbrev P_law_pick : List Str := ["row", "things"]
theorem sc_law_pick : FnScope N_law_pick P_law_pick (defScope s_law_pick) := ⟨rfl, rfl, rfl, by decide +kernel, rfl, by decide +kernel, by decide +kernel⟩

abbrev s_law_comb : Stmt := topS 57
abbrev N_law_comb : List Str := ["top", "size", "found", "at"]
abbrev P_law_comb : List Str := ["top", "size"]
theorem sc_law_comb : FnScope N_law_comb P_law_comb (defScope s_law_comb) := ⟨rfl, rfl, rfl, by decide +kernel, rfl, by decide +kernel, by decide +kernel⟩

abbrev s_law_alike : Stmt := topS 58
abbrev N_law_alike : List Str := ["found", "due", "k"]
abbrev P_law_alike : List Str := ["found", "due"]
theorem sc_law_alike : FnScope N_law_alike P_law_alike (defScope s_law_alike) := ⟨rfl, rfl, rfl, by decide +kernel, rfl, by decide +kernel, by decide +kernel⟩

abbrev s_law : Stmt := topS 59
abbrev N_law : List Str := ["script", "row", "field", "way", "many", "pairs", "a", "b", "due", "k", "chosen", "vertex", "ring", "plane"]
abbrev P_law : List Str := ["script"]
theorem sc_law : FnScope N_law P_law (defScope s_law) := ⟨rfl, rfl, rfl, by decide +kernel, rfl, by decide +kernel, by decide +kernel⟩

/-- the class Echelon -/
structure EchAt (K : PySem.W.Frag) (mg : Str → Option Value) where
  C : Addr
  g : mg "Echelon" = some (.ref C)
  cls : Cls K C
  fi : Addr
  fdi : FuncData
  Fi : Fun K "__init__" "Echelon.__init__" s_Echelon___init__ fi fdi
  mkr : Mk K C fi
  fp : Addr
  fdp : FuncData
  Fp : Fun K "put" "Echelon.put" s_Echelon_put fp fdp
  m_put : Meth K C "put" fp
  fr : Addr
  fdr : FuncData
  Fr : Fun K "rest" "Echelon.rest" s_Echelon_rest fr fdr
  m_rest : Meth K C "rest" fr
  fm : Addr
  fdm : FuncData
  Fm : Fun K "rest_modulo" "Echelon.rest_modulo" s_Echelon_rest_modulo fm fdm
  m_rest_modulo : Meth K C "rest_modulo" fm
  n_field : NoAttr K C "field"
  n_rows : NoAttr K C "rows"
structure Txt (K : PySem.W.Frag) (mg : Str → Option Value) where
  inverse_modulo : DefAt K mg "inverse_modulo" s_inverse_modulo
  is_integer : DefAt K mg "is_integer" s_is_integer
  is_integer_in : DefAt K mg "is_integer_in" s_is_integer_in
  is_tuple_up_to : DefAt K mg "is_tuple_up_to" s_is_tuple_up_to
  is_field : DefAt K mg "is_field" s_is_field
  is_row_of_indexes : DefAt K mg "is_row_of_indexes" s_is_row_of_indexes
  check_field : DefAt K mg "check_field" s_check_field
  check_integer_in : DefAt K mg "check_integer_in" s_check_integer_in
  check_many : DefAt K mg "check_many" s_check_many
  settled : DefAt K mg "settled" s_settled
  common_divisor : DefAt K mg "common_divisor" s_common_divisor
  slot_of : DefAt K mg "slot_of" s_slot_of
  bits_of : DefAt K mg "bits_of" s_bits_of
  row_of_bits : DefAt K mg "row_of_bits" s_row_of_bits
  cancelled : DefAt K mg "cancelled" s_cancelled
  rank : DefAt K mg "rank" s_rank
  check_sets : DefAt K mg "check_sets" s_check_sets
  check_complex : DefAt K mg "check_complex" s_check_complex
  is_complex : DefAt K mg "is_complex" s_is_complex
  mask_of : DefAt K mg "mask_of" s_mask_of
  set_of : DefAt K mg "set_of" s_set_of
  sets_of : DefAt K mg "sets_of" s_sets_of
  holds : DefAt K mg "holds" s_holds
  least : DefAt K mg "least" s_least
  greatest : DefAt K mg "greatest" s_greatest
  free_masks : DefAt K mg "free_masks" s_free_masks
  nonface_masks : DefAt K mg "nonface_masks" s_nonface_masks
  levels_of : DefAt K mg "levels_of" s_levels_of
  nonfaces : DefAt K mg "nonfaces" s_nonfaces
  border : DefAt K mg "border" s_border
  border_rank : DefAt K mg "border_rank" s_border_rank
  dimensions : DefAt K mg "dimensions" s_dimensions
  betti_triples : DefAt K mg "betti_triples" s_betti_triples
  square_betti : DefAt K mg "square_betti" s_square_betti
  law_taken : DefAt K mg "_law_taken" s_law_taken
  law_pick : DefAt K mg "_law_pick" s_law_pick
  law_comb : DefAt K mg "_law_comb" s_law_comb
  law_alike : DefAt K mg "_law_alike" s_law_alike
  law : DefAt K mg "law" s_law
  t_MOST_SETS : Tok
  g_MOST_SETS : mg "MOST_SETS" = some (.int 70 t_MOST_SETS)
  t_MOST_MONO_VARIABLES : Tok
  g_MOST_MONO_VARIABLES : mg "MOST_MONO_VARIABLES" = some (.int 8 t_MOST_MONO_VARIABLES)
  t_WIDTH : Tok
  g_WIDTH : mg "WIDTH" = some (.int 32 t_WIDTH)
  t_MASK : Tok
  g_MASK : mg "MASK" = some (.int MK32 t_MASK)
  t_LOT : Tok
  g_LOT : mg "LOT" = some (.int 32 t_LOT)
  t_LOT_MASK : Tok
  g_LOT_MASK : mg "LOT_MASK" = some (.int MK1024 t_LOT_MASK)
  n_len : mg "len" = none
  n_isinstance : mg "isinstance" = none
  n_int : mg "int" = none
  n_bool : mg "bool" = none
  n_str : mg "str" = none
  n_tuple : mg "tuple" = none
  n_list : mg "list" = none
  n_range : mg "range" = none
  n_zip : mg "zip" = none
  n_sum : mg "sum" = none
  n_max : mg "max" = none
  n_min : mg "min" = none
  n_all : mg "all" = none
  n_any : mg "any" = none
  n_sorted : mg "sorted" = none
  n_enumerate : mg "enumerate" = none
  n_divmod : mg "divmod" = none
  n_abs : mg "abs" = none
  g_gcd : mg "gcd" = some (.builtin "math.gcd")
  aPRIMES : Addr
  g_PRIMES : mg "PRIMES" = some (.ref aPRIMES)
  t_PRIMES : ∀ H, SqT K H aPRIMES ([2, 3, 5, 7, 11, 13, 17, 19, 23, 29, 31].map V.int)
  Echelon : EchAt K mg
section
variable {P : Program} {w : World} {K : PySem.W.Frag} {mg : Str → Option Value} {base : Heap}
theorem b_inverse_modulo (T : Txt K mg) : Binds K T.inverse_modulo.fd P_inverse_modulo [] := T.inverse_modulo.F.binds fun _ _ _ _ _ _ us hl => match us, hl with | [_, _], _ => rfl
theorem b_is_integer (T : Txt K mg) : Binds K T.is_integer.fd P_is_integer [] := T.is_integer.F.binds fun _ _ _ _ _ _ us hl => match us, hl with | [_], _ => rfl
theorem b_is_integer_in (T : Txt K mg) : Binds K T.is_integer_in.fd P_is_integer_in [] := T.is_integer_in.F.binds fun _ _ _ _ _ _ us hl => match us, hl with | [_, _, _], _ => rfl
theorem b_is_tuple_up_to (T : Txt K mg) : Binds K T.is_tuple_up_to.fd P_is_tuple_up_to [] := T.is_tuple_up_to.F.binds fun _ _ _ _ _ _ us hl => match us, hl with | [_, _], _ => rfl
theorem b_is_field (T : Txt K mg) : Binds K T.is_field.fd P_is_field [] := T.is_field.F.binds fun _ _ _ _ _ _ us hl => match us, hl with | [_], _ => rfl
theorem b_is_row_of_indexes (T : Txt K mg) : Binds K T.is_row_of_indexes.fd P_is_row_of_indexes [] := T.is_row_of_indexes.F.binds fun _ _ _ _ _ _ us hl => match us, hl with | [_, _], _ => rfl
theorem b_check_field (T : Txt K mg) : Binds K T.check_field.fd P_check_field [] := T.check_field.F.binds fun _ _ _ _ _ _ us hl => match us, hl with | [_], _ => rfl
theorem b_check_integer_in (T : Txt K mg) : Binds K T.check_integer_in.fd P_check_integer_in [] := T.check_integer_in.F.binds fun _ _ _ _ _ _ us hl => match us, hl with | [_, _, _], _ => rfl
theorem b_check_many (T : Txt K mg) : Binds K T.check_many.fd P_check_many [] := T.check_many.F.binds fun _ _ _ _ _ _ us hl => match us, hl with | [_], _ => rfl
theorem b_settled (T : Txt K mg) : Binds K T.settled.fd P_settled [] := T.settled.F.binds fun _ _ _ _ _ _ us hl => match us, hl with | [_, _], _ => rfl
theorem b_common_divisor (T : Txt K mg) : Binds K T.common_divisor.fd P_common_divisor [] := T.common_divisor.F.binds fun _ _ _ _ _ _ us hl => match us, hl with | [_, _], _ => rfl
theorem b_slot_of (T : Txt K mg) : Binds K T.slot_of.fd P_slot_of [] := T.slot_of.F.binds fun _ _ _ _ _ _ us hl => match us, hl with | [_], _ => rfl
theorem b_bits_of (T : Txt K mg) : Binds K T.bits_of.fd P_bits_of [] := T.bits_of.F.binds fun _ _ _ _ _ _ us hl => match us, hl with | [_], _ => rfl
theorem b_row_of_bits (T : Txt K mg) : Binds K T.row_of_bits.fd P_row_of_bits [] := T.row_of_bits.F.binds fun _ _ _ _ _ _ us hl => match us, hl with | [_], _ => rfl
theorem b_cancelled (T : Txt K mg) : Binds K T.cancelled.fd P_cancelled [] := T.cancelled.F.binds fun _ _ _ _ _ _ us hl => match us, hl with | [_, _, _, _], _ => rfl
theorem b_rank (T : Txt K mg) : Binds K T.rank.fd P_rank [] := T.rank.F.binds fun _ _ _ _ _ _ us hl => match us, hl with | [_, _], _ => rfl
theorem b_check_sets (T : Txt K mg) : Binds K T.check_sets.fd P_check_sets [] := T.check_sets.F.binds fun _ _ _ _ _ _ us hl => match us, hl with | [_, _], _ => rfl
theorem b_check_complex (T : Txt K mg) : Binds K T.check_complex.fd P_check_complex [] := T.check_complex.F.binds fun _ _ _ _ _ _ us hl => match us, hl with | [_, _], _ => rfl
theorem b_is_complex (T : Txt K mg) : Binds K T.is_complex.fd P_is_complex [] := T.is_complex.F.binds fun _ _ _ _ _ _ us hl => match us, hl with | [_, _], _ => rfl
theorem b_mask_of (T : Txt K mg) : Binds K T.mask_of.fd P_mask_of [] := T.mask_of.F.binds fun _ _ _ _ _ _ us hl => match us, hl with | [_], _ => rfl
theorem b_set_of (T : Txt K mg) : Binds K T.set_of.fd P_set_of [] := T.set_of.F.binds fun _ _ _ _ _ _ us hl => match us, hl with | [_], _ => rfl
theorem b_sets_of (T : Txt K mg) : Binds K T.sets_of.fd P_sets_of [] := T.sets_of.F.binds fun _ _ _ _ _ _ us hl => match us, hl with | [_], _ => rfl
theorem b_holds (T : Txt K mg) : Binds K T.holds.fd P_holds [] := T.holds.F.binds fun _ _ _ _ _ _ us hl => match us, hl with | [_, _], _ => rfl
theorem b_least (T : Txt K mg) : Binds K T.least.fd P_least [] := T.least.F.binds fun _ _ _ _ _ _ us hl => match us, hl with | [_], _ => rfl
theorem b_greatest (T : Txt K mg) : Binds K T.greatest.fd P_greatest [] := T.greatest.F.binds fun _ _ _ _ _ _ us hl => match us, hl with | [_], _ => rfl
theorem b_free_masks (T : Txt K mg) : Binds K T.free_masks.fd P_free_masks [] := T.free_masks.F.binds fun _ _ _ _ _ _ us hl => match us, hl with | [_, _], _ => rfl
theorem b_nonface_masks (T : Txt K mg) : Binds K T.nonface_masks.fd P_nonface_masks [] := T.nonface_masks.F.binds fun _ _ _ _ _ _ us hl => match us, hl with | [_, _], _ => rfl
theorem b_levels_of (T : Txt K mg) : Binds K T.levels_of.fd P_levels_of [] := T.levels_of.F.binds fun _ _ _ _ _ _ us hl => match us, hl with | [_], _ => rfl
theorem b_nonfaces (T : Txt K mg) : Binds K T.nonfaces.fd P_nonfaces [] := T.nonfaces.F.binds fun _ _ _ _ _ _ us hl => match us, hl with | [_, _], _ => rfl
theorem b_border (T : Txt K mg) : Binds K T.border.fd P_border [] := T.border.F.binds fun _ _ _ _ _ _ us hl => match us, hl with | [_, _], _ => rfl
theorem b_border_rank (T : Txt K mg) : Binds K T.border_rank.fd P_border_rank [] := T.border_rank.F.binds fun _ _ _ _ _ _ us hl => match us, hl with | [_, _, _], _ => rfl
theorem b_dimensions (T : Txt K mg) : Binds K T.dimensions.fd P_dimensions [] := T.dimensions.F.binds fun _ _ _ _ _ _ us hl => match us, hl with | [_, _], _ => rfl
theorem b_betti_triples (T : Txt K mg) : Binds K T.betti_triples.fd P_betti_triples [] := T.betti_triples.F.binds fun _ _ _ _ _ _ us hl => match us, hl with | [_, _, _], _ => rfl
theorem b_square_betti (T : Txt K mg) : Binds K T.square_betti.fd P_square_betti [] := T.square_betti.F.binds fun _ _ _ _ _ _ us hl => match us, hl with | [_, _, _], _ => rfl
theorem b_law_taken (T : Txt K mg) : Binds K T.law_taken.fd P_law_taken [] := T.law_taken.F.binds fun _ _ _ _ _ _ us hl => match us, hl with | [_, _], _ => rfl
theorem b_law_pick (T : Txt K mg) : Binds K T.law_pick.fd P_law_pick [] := T.law_pick.F.binds fun _ _ _ _ _ _ us hl => match us, hl with | [_, _], _ => rfl
theorem b_law_comb (T : Txt K mg) : Binds K T.law_comb.fd P_law_comb [] := T.law_comb.F.binds fun _ _ _ _ _ _ us hl => match us, hl with | [_, _], _ => rfl
theorem b_law_alike (T : Txt K mg) : Binds K T.law_alike.fd P_law_alike [] := T.law_alike.F.binds fun _ _ _ _ _ _ us hl => match us, hl with | [_, _], _ => rfl
theorem b_law (T : Txt K mg) : Binds K T.law.fd P_law [] := T.law.F.binds fun _ _ _ _ _ _ us hl => match us, hl with | [_], _ => rfl
theorem b_Echelon___init__ (T : Txt K mg) : Binds K T.Echelon.fdi P_Echelon___init__ [] := T.Echelon.Fi.binds fun _ _ _ _ _ _ us hl => match us, hl with | [_, _], _ => rfl
theorem b_Echelon_put (T : Txt K mg) : Binds K T.Echelon.fdp P_Echelon_put [] := T.Echelon.Fp.binds fun _ _ _ _ _ _ us hl => match us, hl with | [_, _], _ => rfl
theorem b_Echelon_rest (T : Txt K mg) : Binds K T.Echelon.fdr P_Echelon_rest [] := T.Echelon.Fr.binds fun _ _ _ _ _ _ us hl => match us, hl with | [_, _], _ => rfl
theorem b_Echelon_rest_modulo (T : Txt K mg) : Binds K T.Echelon.fdm P_Echelon_rest_modulo [] := T.Echelon.Fm.binds fun _ _ _ _ _ _ us hl => match us, hl with | [_, _], _ => rfl
end

/-! ### plain readings: what leaves all that stands as it is, whoever called -/
abbrev Kp (h h' : Heap) : Prop := ∀ b o, h.get? b = some o → h'.get? b = some o
/-- what is known of the heap, and stays known as it grows -/
structure Stay (K : PySem.W.Frag) (mg : Str → Option Value) (Φ : Heap → Prop) : Prop where
  up : ∀ h h', Φ h → Kp h h' → Φ h'
  kin : ∀ h, Φ h → K.In h
  glob : ∀ h, Φ h → h.Ns mainGlobals mg
  blt : ∀ h, Φ h → ∃ mb, h.Ns builtinsNs mb ∧ ∀ x : Str, x ≠ "__name__" → mb x = bootBuiltins x
  lim : ∀ h, Φ h → h.NoLimit
theorem keeps0 (s : Shared) (k : Nat) : Keeps s { s with toks := k } := ⟨s.heap, k, rfl, fun _ _ e => e⟩
theorem keepsT {s s1 s2 : Shared} (a : Keeps s s1) (b : Keeps s1 s2) : Keeps s s2 := by
  obtain ⟨h1, k1, rfl, e1⟩ := a
  obtain ⟨h2, k2, rfl, e2⟩ := b
  exact ⟨h2, k2, rfl, fun x o e => e2 x o (e1 x o e)⟩
theorem keepsH {s s1 : Shared} (a : Keeps s s1) : Kp s.heap s1.heap := by
  obtain ⟨h1, k1, rfl, e1⟩ := a
  exact e1
/-- the places of a reading: the depth and the room below it -/
def PuE (P : Program) (w : World) (Φ : Heap → Prop) (cenv : Env) (m : Str → Option Value) (D U : Nat) (e : Expr) (R : Value → Prop) : Prop :=
  ∀ (A : Around) (E : Value → Shared → Prop) (s : Shared), A.handled = none → A.depth ≤ D → A.units ≤ U → Φ s.heap → s.heap.Ns cenv.locals m →
    wpAny (model P w) A (eval e cenv) (fun y s' => R y ∧ Keeps s s') E s
def PuF (P : Program) (w : World) (Φ : Heap → Prop) (D U : Nat) (f : Addr) (us : List Value) (R : Value → Prop) : Prop :=
  ∀ (A : Around) (s : Shared), A.handled = none → A.depth ≤ D → A.units ≤ U → Φ s.heap →
    codeAny (model P w) A (.call (.ref f) ⟨us, []⟩) (fun r s' => match r with | .ok (.ret y) => R y ∧ Keeps s s' | _ => False) s
/-- the same, however the arguments came -/
def PuG (P : Program) (w : World) (Φ : Heap → Prop) (D U : Nat) (f : Addr) (fd : FuncData) (ps : List Str) (us : List Value) (R : Value → Prop) : Prop :=
  ∀ (A : Around) (s : Shared) (args : Args), BindsTo s fd args (ps.zip us) → A.handled = none → A.depth ≤ D → A.units ≤ U → Φ s.heap →
    codeAny (model P w) A (.call (.ref f) args) (fun r s' => match r with | .ok (.ret y) => R y ∧ Keeps s s' | _ => False) s
structure PuEnv (cenv : Env) : Prop where
  kind : cenv.scope.kind = .function
  glob : cenv.globals = mainGlobals
  blt : cenv.builtins = builtinsNs
section
variable {P : Program} {w : World} {K : PySem.W.Frag} {mg : Str → Option Value} {Φ : Heap → Prop} {cenv : Env} {m : Str → Option Value} {D U : Nat}
theorem PuG.pos {f : Addr} {fd : FuncData} {ps : List Str} {us : List Value} {R : Value → Prop} (h : PuG P w Φ D U f fd ps us R) (S : Stay K mg Φ) (hb : Binds K fd ps []) (hl : us.length = ps.length) : PuF P w Φ D U f us R := fun A s a b c d => by
  have q := hb s us (S.kin _ d) (by rw [List.append_nil]; exact hl)
  rw [List.append_nil] at q
  exact h A s _ q a b c d
/-- a promise from a plain reading -/
theorem fnOk_pu {base : Heap} {CX : CXT} {k : Nat} {f : Addr} {fd : FuncData} {ps : List Str} {sp : Sp} (len : ∀ vs H Q E, sp vs H Q E → vs.length = ps.length)
    (h : ∀ (A : Around) (outer : List Env) (s : Shared) (H : Hp) (us : List Value) (vs : List V) (Q : VK) (E : XK), Room k A → Env0 P w K mg base A outer s H → Vals vs us → sp vs H Q E →
      ∃ (Φ : Heap → Prop) (R : Value → Prop), Φ s.heap ∧ PuG P w Φ A.depth A.units f fd ps us R ∧ ∀ y, R y → ∃ v, RelV v y ∧ Q v H) : FnOk P w K mg base CX k f fd ps sp := by
  refine ⟨len, fun A outer s H args us vs Q E hr he hb hv hs => ?_⟩
  obtain ⟨Φ, R, hφ, hg, hq⟩ := h A outer s H us vs Q E hr he hv hs
  refine codeAny_mono (hg A s args hb hr.hd (Nat.le_refl _) (Nat.le_refl _) hφ) fun r s' q => ?_
  cases r with
  | error e => exact False.elim q
  | ok fl =>
    cases fl with
    | ret u =>
      obtain ⟨q1, h2, tk2, e2, k2⟩ := q
      subst e2
      obtain ⟨v, rv, qv⟩ := hq u q1
      exact ⟨v, H, rfl, he.bare, Un.kept k2, he.hok.kept k2, rv, qv⟩
    | next => exact False.elim q
    | brk => exact False.elim q
    | cont => exact False.elim q
theorem PuE.imp {e : Expr} {R R' : Value → Prop} (h : PuE P w Φ cenv m D U e R) (g : ∀ y, R y → R' y) : PuE P w Φ cenv m D U e R' := fun A E s a b c d f =>
  wpAny_mono (h A E s a b c d f) (fun y s' q => ⟨g y q.1, q.2⟩) fun _ _ x => x
theorem pu_name {x : Str} {u : Value} {pos : Pos} (ev : PuEnv cenv) (hx : cenv.scope.names.lookup x = some .local) (hm : m x = some u) (hd : (x == ("__debug__" : Str)) = false := by decide) : PuE P w Φ cenv m D U (.Name x pos) (· = u) :=
  fun A E s _ _ _ _ hn => wpAny_Name (wpAny_loadName_local ev.kind (show cenv.scope.names.lookup x = some .local from hx) hn hm ⟨rfl, keeps0 s s.toks⟩) hd
theorem pu_glob {x : Str} {u : Value} {pos : Pos} (S : Stay K mg Φ) (ev : PuEnv cenv) (hx : cenv.kindOf x = some .globalImplicit) (hm : mg x = some u) (hd : (x == ("__debug__" : Str)) = false := by decide) : PuE P w Φ cenv m D U (.Name x pos) (· = u) :=
  fun A E s _ _ _ hf _ => Calls.Name_function_global ev.kind hx (Calls.loadGlobal_global (by rw [ev.glob]; exact S.glob _ hf) hm ⟨rfl, keeps0 s s.toks⟩) hd
theorem pu_int {i : Int} {j : Nat} {pos : Pos} : PuE P w Φ cenv m D U (.Constant (.int i) j pos) (fun y => ∃ t, y = .int i t) :=
  fun A E s _ _ _ _ _ => wpAny_Constant_int ⟨⟨_, rfl⟩, keeps0 s _⟩
/-- a and b, bools -/
theorem pu_and {a b : Expr} {pos : Pos} {x y : Bool} (S : Stay K mg Φ) (ha : PuE P w Φ cenv m D U a (· = .bool x)) (hb : x = true → PuE P w Φ cenv m D U b (· = .bool y)) : PuE P w Φ cenv m D U (.BoolOp .And [a, b] pos) (· = .bool (x && y)) := by
  intro A E s h1 h2 h3 hf hn
  refine PyProof.Rows.BoolOp_and (wpAny_mono (ha A E s h1 h2 h3 hf hn) (fun v s1 q => ?_) fun _ _ z => z)
  obtain ⟨rfl, k⟩ := q
  refine wpAny_truthy_bool ?_
  cases x with
  | false => exact ⟨rfl, k⟩
  | true => exact PyProof.Rows.BoolOp_one (wpAny_mono (hb rfl A E s1 h1 h2 h3 (S.up _ _ hf (keepsH k)) (hn.at' fun o e => keepsH k _ o e)) (fun v s2 q => ⟨q.1, keepsT k q.2⟩) fun _ _ z => z)
theorem pu_not {a : Expr} {pos : Pos} {x : Bool} (ha : PuE P w Φ cenv m D U a (· = .bool x)) : PuE P w Φ cenv m D U (.UnaryOp .Not a pos) (· = .bool (!x)) := by
  intro A E s h1 h2 h3 hf hn
  refine PyProof.Rows.UnaryOp_ (wpAny_mono (ha A E s h1 h2 h3 hf hn) (fun v s1 q => ?_) fun _ _ z => z)
  obtain ⟨rfl, k⟩ := q
  exact PyProof.Rows.not_of (wpAny_truthy_bool ⟨rfl, k⟩)
/-- a <= b <= c, ints -/
theorem pu_chain {a b c : Expr} {pos : Pos} {i j k : Int} (S : Stay K mg Φ) (ha : PuE P w Φ cenv m D U a (fun y => ∃ t, y = .int i t)) (hb : PuE P w Φ cenv m D U b (fun y => ∃ t, y = .int j t)) (hc : PuE P w Φ cenv m D U c (fun y => ∃ t, y = .int k t))
    (hm : lastMarks [.LtE, .LtE] [b, c] = false := by with_unfolding_all rfl) : PuE P w Φ cenv m D U (.Compare a [.LtE, .LtE] [b, c] pos) (· = .bool (decide (i ≤ j) && decide (j ≤ k))) := by
  intro A E s h1 h2 h3 hf hn
  refine PyProof.Rows.Compare_chain (wpAny_mono (ha A E s h1 h2 h3 hf hn) (fun v s1 q => ?_) fun _ _ z => z) hm
  obtain ⟨⟨t, rfl⟩, k1⟩ := q
  have hn1 : s1.heap.Ns cenv.locals m := hn.at' fun o e => keepsH k1 _ o e
  refine PyProof.Rows.chain_link (wpAny_mono (hb A E s1 h1 h2 h3 (S.up _ _ hf (keepsH k1)) hn1) (fun v s2 q => ?_) fun _ _ z => z)
  obtain ⟨⟨t2, rfl⟩, k2⟩ := q
  have hn2 : s2.heap.Ns cenv.locals m := hn1.at' fun o e => keepsH k2 _ o e
  refine PyProof.Rows.le_int (wpAny_truthy_bool ?_)
  by_cases z : i ≤ j
  · rw [decide_eq_true z]
    refine PyProof.Rows.ite_tt (PyProof.Rows.chain_last (wpAny_mono (hc A E s2 h1 h2 h3 (S.up _ _ hf (keepsH (keepsT k1 k2))) hn2) (fun v s3 q => ?_) fun _ _ z => z))
    obtain ⟨⟨t3, rfl⟩, k3⟩ := q
    exact PyProof.Rows.le_int ⟨by rw [Bool.true_and], keepsT k1 (keepsT k2 k3)⟩
  · rw [decide_eq_false z]
    exact PyProof.Rows.ite_ff ⟨by rw [Bool.false_and], keepsT k1 k2⟩
theorem pu_lt {a b : Expr} {pos : Pos} {i j : Int} (S : Stay K mg Φ) (ha : PuE P w Φ cenv m D U a (fun y => ∃ t, y = .int i t)) (hb : PuE P w Φ cenv m D U b (fun y => ∃ t, y = .int j t)) (hm : behindInMarks .Lt b = false) : PuE P w Φ cenv m D U (.Compare a [.Lt] [b] pos) (· = .bool (decide (i < j))) := by
  intro A E s h1 h2 h3 hf hn
  refine wpAny_Compare1 (wpAny_mono (ha A E s h1 h2 h3 hf hn) (fun v s1 q => ?_) fun _ _ z => z) hm
  obtain ⟨⟨t, rfl⟩, k1⟩ := q
  refine wpAny_mono (hb A E s1 h1 h2 h3 (S.up _ _ hf (keepsH k1)) (hn.at' fun o e => keepsH k1 _ o e)) (fun v s2 q => ?_) fun _ _ z => z
  obtain ⟨⟨t2, rfl⟩, k2⟩ := q
  exact PyProof.Rows.lt_int ⟨rfl, keepsT k1 k2⟩
/-- a value's kind, as isinstance asks -/
def Isi (K : PySem.W.Frag) (Φ : Heap → Prop) (u : Value) (T : String) (b : Bool) : Prop :=
  ∃ (t : Value) (H : Heap → Prop), PySem.W.KitX K u t H ∧ (∀ h, Φ h → H h) ∧ PySem.W.kitOne K t (.type T) = some b ∧ u ≠ .builtin "__main__.__loader__#opaque"
theorem pu_isi {e : Expr} {T : String} {T' : Str} {p q pos : Pos} {u : Value} {b : Bool} (S : Stay K mg Φ) (ev : PuEnv cenv) (hg : cenv.kindOf "isinstance" = some .globalImplicit) (hm : mg "isinstance" = none) (hT : cenv.kindOf T' = some .globalImplicit) (hmT : mg T' = none) (hv : bootBuiltins T' = some (.type T))
    (ha : PuE P w Φ cenv m D U e (· = u)) (hi : Isi K Φ u T b) (hn' : T' ≠ "__name__" := by decide) (hd : (T' == ("__debug__" : Str)) = false := by decide)
    (he : starEach [e, .Name T' q] cenv = (false, eval e cenv) :: starEach [.Name T' q] cenv := by rfl) (hpl : (backTo pos (starEach [.Name T' q] cenv)).any (·.1) = false := by rfl) :
    PuE P w Φ cenv m D U (.Call (.Name "isinstance" p) [e, .Name T' q] [] pos) (· = .bool b) := by
  intro A E s h1 h2 h3 hf hn
  obtain ⟨mb, b1, b2⟩ := S.blt _ hf
  refine wpAny_Call_Name_kw (Calls.Name_function_global ev.kind hg (Calls.loadGlobal_builtin (by rw [ev.glob]; exact S.glob _ hf) hm (by rw [ev.blt]; exact b1) ((b2 _ (by decide)).trans bo_isinstance) ?_))
  refine PyProof.Rows.callWith_builtin1 ?_ he hpl
  rw [he]
  show wpAny _ _ (spliced ((false, eval e cenv) :: backTo pos (starEach [.Name T' q] cenv))) _ _ s
  refine Calls.spliced_cons (wpAny_mono (ha A E s h1 h2 h3 hf hn) (fun v s1 r => ?_) fun _ _ z => z)
  obtain ⟨rfl, k1⟩ := r
  have hf1 := S.up _ _ hf (keepsH k1)
  obtain ⟨mb1, c1, c2⟩ := S.blt _ hf1
  refine Calls.spliced_cons (Calls.Name_function_global ev.kind hT (Calls.loadGlobal_builtin (by rw [ev.glob]; exact S.glob _ hf1) hmT (by rw [ev.blt]; exact c1) ((c2 _ hn').trans hv) ?_) hd)
  refine Calls.spliced_nil ?_
  obtain ⟨t, HH, Z, hp, ko, hx⟩ := hi
  exact PySem.W.kia_one Z (S.kin _ hf1) (hp _ hf1) ko hx fun tk => ⟨rfl, keepsT k1 (keeps0 s1 tk)⟩
def PuA (P : Program) (w : World) (Φ : Heap → Prop) (cenv : Env) (m : Str → Option Value) (D U : Nat) (es : List Expr) (R : List Value → Prop) : Prop :=
  ∀ (pos : Pos) (A : Around) (E : Value → Shared → Prop) (s : Shared), A.handled = none → A.depth ≤ D → A.units ≤ U → Φ s.heap → s.heap.Ns cenv.locals m →
    wpAny (model P w) A (spliced (backTo pos (starEach es cenv))) (fun us s' => R us ∧ Keeps s s') E s
theorem pua_nil : PuA P w Φ cenv m D U [] (· = []) := fun _ A E s _ _ _ _ _ => Calls.spliced_nil ⟨rfl, keeps0 s s.toks⟩
theorem pua_cons {e : Expr} {es : List Expr} {R : Value → Prop} {Rs : List Value → Prop} (S : Stay K mg Φ) (ha : PuE P w Φ cenv m D U e R) (hr : PuA P w Φ cenv m D U es Rs) (hs : starEach (e :: es) cenv = (false, eval e cenv) :: starEach es cenv := by rfl) :
    PuA P w Φ cenv m D U (e :: es) (fun us => ∃ u vs, us = u :: vs ∧ R u ∧ Rs vs) := by
  intro pos A E s h1 h2 h3 hf hn
  rw [hs]
  show wpAny _ _ (spliced ((false, eval e cenv) :: backTo pos (starEach es cenv))) _ _ s
  refine Calls.spliced_cons (wpAny_mono (ha A E s h1 h2 h3 hf hn) (fun v s1 r => ?_) fun _ _ z => z)
  refine wpAny_mono (hr pos A E s1 h1 h2 h3 (S.up _ _ hf (keepsH r.2)) (hn.at' fun o e => keepsH r.2 _ o e)) (fun vs s2 q => ?_) fun _ _ z => z
  exact ⟨⟨v, vs, rfl, r.1, q.1⟩, keepsT r.2 q.2⟩
theorem pu_call {x : Str} {f : Addr} {e : Expr} {es : List Expr} {p pos : Pos} {R : Value → Prop} {Rs : List Value → Prop} (S : Stay K mg Φ) (ev : PuEnv cenv) (hg : cenv.kindOf x = some .globalImplicit) (hm : mg x = some (.ref f)) (hk : PySem.W.keepIn K (.ref f) = true)
    (ha : PuA P w Φ cenv m D U (e :: es) Rs) (hf : ∀ us, Rs us → PuF P w Φ D U f us R) (hd : (x == ("__debug__" : Str)) = false := by decide) (he : starEach (e :: es) cenv = (false, eval e cenv) :: starEach es cenv := by rfl)
    (hpl : (backTo pos (starEach es cenv)).any (·.1) = false := by rfl) : PuE P w Φ cenv m D U (.Call (.Name x p) (e :: es) [] pos) R := by
  intro A E s h1 h2 h3 hφ hn
  refine wpAny_Call_Name_kw (Calls.Name_function_global ev.kind hg (Calls.loadGlobal_global (by rw [ev.glob]; exact S.glob _ hφ) hm ?_) hd)
  refine PySem.W.callWith_K (h₀ := s.heap) (S.kin _ hφ) hk (wpAny_mono (ha pos A E s h1 h2 h3 hφ hn) (fun us s1 r => ?_) fun _ _ z => z) he hpl
  have hφ1 := S.up _ _ hφ (keepsH r.2)
  refine ⟨S.kin _ hφ1, wpAny_call (codeAny_mono (hf us r.1 A s1 h1 h2 h3 hφ1) fun rr s2 q => ?_)⟩
  cases rr with
  | error e => exact False.elim q
  | ok fl =>
    cases fl with
    | ret u => exact ⟨q.1, keepsT r.2 q.2⟩
    | next => exact False.elim q
    | brk => exact False.elim q
    | cont => exact False.elim q
/-- a def whose body is one return -/
theorem pf_of {x qual : Str} {st : Stmt} {f : Addr} {fd : FuncData} {N ps : List Str} {e : Expr} {rp : Pos} {us : List Value} {R : Value → Prop} (F : Fun K x qual st f fd) (S : FnScope N ps (defScope st)) (Sx : Stay K mg Φ)
    (hl : us.length = ps.length) (hbody : defBody st = [.Return (some e) rp]) (hD : D < recursionLimit)
    (he : ∀ cenv : Env, PuEnv cenv → cenv.scope = defScope st → PuE P w Φ cenv (bindL cenv.kindOf (ps.zip us) fun _ => none) (D + 1) (U + 3) e R) : PuG P w Φ D U f fd ps us R := by
  intro A s args hbb h1 h2 h3 hφ
  obtain ⟨oc, od, kV, doc, pm, an, cdv, ct, osl, rfl, lk, hcd⟩ := F.ex
  have KX : K.In s.heap := Sx.kin _ hφ
  have lim : s.heap.NoLimit := Sx.lim _ hφ
  have hkind : ∀ y ∈ ps.zip us, (defScope st).names.lookup y.1 = some .local ∨ ((defScope st).names.lookup y.1 = some .cell ∧ ((cellsFrom (s.heap.objs.size + 1) (defScope st).names []).lookup y.1).isSome = true) := fun ⟨n, v⟩ hy => by
    rcases S.par n (List.of_mem_zip hy).1 with q | q
    · exact .inl q
    · exact .inr ⟨q, PySem.W.cellsFrom_some _ _ _ (.inl q)⟩
  refine codeAny_call_function (Nat.lt_of_le_of_lt h2 hD) (KX _ _ lk) rfl S.co S.gen rfl (PySem.W.codeRec_of KX hcd) (hbb _ _ _ _ ?_)
  refine wpAny_newFunctionEnv_cells S.kind hkind fun env hen s1 ic => ?_
  subst hen
  refine ⟨lim.keeps ic.toInCall.keep, codeAny_func ?_⟩
  obtain ⟨h1', tk, rfl, hkp⟩ := ic.done
  show wpAny _ _ (execs (defBody st) _) _ _ _
  rw [hbody]
  refine wpAny_execs_cons (wpAny_Return_some (wpAny_mono (he _ ⟨S.kind, rfl, rfl⟩ rfl _ _ _ h1 (by show A.depth + 1 ≤ D + 1; omega) (by show A.units + 3 ≤ U + 3; omega) (Sx.up _ _ hφ hkp) ic.toInCall.ns) (fun y s2 q => ?_) fun _ _ z => z))
  exact ⟨q.1, keepsT ⟨h1', tk, rfl, hkp⟩ q.2⟩
end

/-! ### all(..), any(..) of a generator expression over a tuple: the element a plain reading -/
/-- the element's reading, item by item -/
def EltT (X : Cx) (T : Addr) (sc : Scope) (x : Str) (el : Expr) (xs : List V) (pb : Nat → Bool) (H1 : Hp) : Prop :=
  ∀ (Φ : Heap → Prop) (pins : List (Addr × Obj)) (σ : L2.St) (t1 : Shared) (cenv : Env) (m : Str → Option Value) (i : Nat) (v : V) (u : Value), Stay X.K X.mg Φ → Inv X pins σ H1 t1 →
    (∀ h, Φ h → ∀ b o, b ≠ T → t1.heap.get? b = some o → h.get? b = some o) → PuEnv cenv → cenv.scope = sc → cenv.cells = cloFrom X.env.cells sc.names [] → xs[i]? = some v → RelV v u → m x = some u →
    PuE X.prog X.w Φ cenv m (X.A.depth + 1) (X.A.units + 8) el (· = .bool (pb i))
/-- the generator g, ready for a walk of n bools -/
def Rdy (X : Cx) (pins : List (Addr × Obj)) (σ : L2.St) (H1 : Hp) (T : Addr) (n : Nat) (pb : Nat → Bool) (g : Addr) (t5 : Shared) : Prop :=
  ∃ (fp wr : List Addr) (G : Array GenState → Array GenState → Prop) (F : Nat → Value → Prop) (St : Nat → Shared → Prop),
    WalksS X.prog X.w X.A.in1 g fp wr G n F St ∧ St 0 t5 ∧ TruthOf X.prog X.w X.A.in1 F pb ∧ ∀ t', Moved wr G t5 t' → ∃ H2, GxR.Tabbed T H1 H2 ∧ Inv X pins σ H2 t'
section
variable {X : Cx} {pins : List (Addr × Obj)} {σ : L2.St} {H : Hp} {s : Shared}
/-- the ground of an element: all that stood but the table -/
theorem stay_but {K : PySem.W.Frag} {mg : Str → Option Value} {base : Heap} {T : Addr} {h1 : Heap} (M : Mod K mg base) (hb : ∀ b o, base.get? b = some o → h1.get? b = some o ∧ b ≠ T) :
    Stay K mg fun h => ∀ b o, b ≠ T → h1.get? b = some o → h.get? b = some o := by
  have up : ∀ h : Heap, (∀ b o, b ≠ T → h1.get? b = some o → h.get? b = some o) → ∀ b o, base.get? b = some o → h.get? b = some o := fun h q b o e => q b o (hb b o e).2 (hb b o e).1
  refine ⟨fun h h' q k b o n e => k b o (q b o n e), fun h q => M.kin.keeps (up h q), fun h q => M.glob.keeps (up h q), fun h q => ?_, fun h q => M.nolimit.keeps (up h q)⟩
  obtain ⟨mb, e1, e2⟩ := M.blt
  exact ⟨mb, e1.keeps (up h q), e2⟩
theorem gen_tup {c T : Addr} {elt iter : Expr} {x : Str} {px gpos : Pos} {scope : Scope} {te : TE} {k : Nat} {Q' : Value → Shared → Prop} {R : Nat → (Nat → Bool) → Hp → Prop}
    (hr : Room k X.A) (TB : GxR.TabB X.base X.mg c T) (hcode : X.env.code = .ref c) (S : GxR.GenS X.env scope x) (hi : PE X iter te) (hs : ∀ v, genFold iter X.env v = pure v) (I : Inv X pins σ H s)
    (h : te σ H fun v H1 => ∃ (a : Addr) (xs : List V) (pb : Nat → Bool), v = .ref a ∧ SqT X.K H1 a xs ∧ GxR.TabG H1 T ∧ EltT X T scope x elt xs pb H1 ∧ R xs.length pb H1)
    (hQ' : ∀ n pb H1 g t5, R n pb H1 → Rdy X pins σ H1 T n pb g t5 → Q' (.ref g) t5) :
    wpAny (model X.prog X.w) X.A (eval (.GeneratorExp elt [⟨.Name x px, iter, [], 0⟩] scope gpos) X.env) Q' X.xe s := by
  refine wpAny_GeneratorExp_walksQD hr.hd S.co (closure_ok S.free) S.cell S.dot S.loc S.kind (by have := hr.dp; omega) ?_ hs
  refine thn (hi.run pins s σ H _ I h) fun xv t1 ⟨v, H1, I1, r1, a, xs, pb, ev, hsq, ⟨ps, hT, htri⟩, hel, hQ⟩ => ?_
  subst ev
  cases r1
  obtain ⟨its, rv, htup, hz⟩ := I1.tuple hsq
  have htup' : t1.heap.IsTuple a its.toArray := htup
  have tT : t1.heap.get? T = some { cls := .none, data := .fields ps } := I1.hok T _ hT
  have lT : T < t1.heap.objs.size := Heap.lt_size tT
  have la : a < t1.heap.objs.size := by obtain ⟨o, e, _⟩ := htup; exact Heap.lt_size e
  have naT : a ≠ T := fun e => by
    obtain ⟨o, e1, e2, _⟩ := htup
    rw [e, tT] at e1
    cases e1
    cases e2
  refine wpAny_pyIter_tuple htup' ?_
  obtain ⟨o9, ho9⟩ : ∃ o9 : Obj, o9 = { cls := .type "tuple_iterator", data := .fields #[.ref a, .int 0 0] } := ⟨_, rfl⟩
  rw [← ho9]
  have tT2 : (t1.heap.push o9).get? T = some { cls := .none, data := .fields ps } := Heap.get?_push_of_some _ tT
  have cd : PySem.W.CodeHd (t1.heap.push o9) c T := TB.code.keeps fun b u e => Heap.get?_push_of_some _ (I1.bk b u e)
  have lim2 : (t1.heap.push o9).NoLimit := I1.nolimit.push o9
  have sz2 : (t1.heap.push o9).objs.size = t1.heap.objs.size + 1 := Heap.size_push ..
  have hbT : ∀ b u, X.base.get? b = some u → t1.heap.get? b = some u ∧ b ≠ T := fun b u e => ⟨I1.bk b u e, fun z => by
    have q := (I1.bs b u e).2
    rw [z, hT] at q
    cases q⟩
  have run : ∀ (code : Value) (h3 : Heap) (tk : Nat) (ps' : Array Value), Heap.ExtBut T (t1.heap.push o9) h3 → (t1.heap.push o9).objs.size ≤ h3.objs.size → h3.get? T = some { cls := .none, data := .fields ps' } → (∃ more, ps' = ps ++ more) → TriplesOk ps'.toList →
      wpAny (model X.prog X.w) X.A (builtinsFor X.env.globals X.env.builtins) (fun bi t4 =>
        ∃ Ia fp wr n₀ Pf St₀ pz F, Value.ref t1.heap.objs.size = .ref Ia ∧ (∀ A' : Around, A'.handled = none → Walks X.prog X.w A' Ia fp wr n₀ Pf St₀) ∧ St₀ 0 t4.heap ∧ (∀ b ∈ fp, b < t4.heap.objs.size) ∧ t4.heap.NoLimit ∧ cStatics ∉ wr ∧
          (∀ href : Heap, (∀ b o, t4.heap.get? b = some o → href.get? b = some o) →
            QuietGenD X.prog X.w (genEnv scope (cloFrom X.env.cells scope.names []) t4.heap.objs.size code bi X.env) x [] elt (List.range t4.heap.objs.size) wr Pf pz F href (X.A.depth + 1) (X.A.units + 8)) ∧
          (∀ g0 h₅ tk gs, gs.bare = true → t4.heap.objs.size < g0 → h₅.objs.size = g0 + 1 → (∀ b o, t4.heap.get? b = some o → h₅.get? b = some o) →
            WalksS X.prog X.w X.A.in4 g0 (g0 :: t4.heap.objs.size :: List.range t4.heap.objs.size) (t4.heap.objs.size :: wr) (GenOnlyQ t4.gens.size) (passing pz n₀ 0).length
              (fun j y => ∃ i, (passing pz n₀ 0)[j]? = some i ∧ F i y) (GenAt X.prog X.w X.A.in4 g0 t4.gens.size t4.heap.objs.size (List.range t4.heap.objs.size) wr pz n₀ F) →
            GenAt X.prog X.w X.A.in4 g0 t4.gens.size t4.heap.objs.size (List.range t4.heap.objs.size) wr pz n₀ F 0 { t4 with gens := t4.gens.push gs, toks := tk, heap := h₅ } →
            Q' (.ref g0) { t4 with gens := t4.gens.push gs, toks := tk, heap := h₅ })) X.xe { t1 with heap := h3, toks := tk } := by
    intro code h3 tk ps' hx hsz hT3 hmore ht3
    obtain ⟨bm, ob, e1, e2, e3, e4, e5, e6, e7, e8⟩ := TB.bm
    have hcT : cStatics ≠ T := fun e => by
      obtain ⟨_, ⟨o', es, ep, ho, hd, _⟩, _⟩ := I1.nolimit
      rw [e, tT] at ho
      cases ho
      cases hd
    have hcl : cStatics < t1.heap.objs.size := let ⟨_, hns, _⟩ := I1.nolimit; hns.lt
    have up3 : ∀ b u, b ≠ T → t1.heap.get? b = some u → h3.get? b = some u := fun b u hb e => hx b u hb (Heap.get?_push_of_some _ e)
    have hsz' : t1.heap.objs.size + 1 ≤ h3.objs.size := by rw [← sz2]; exact hsz
    refine wpAny_builtinsFor (m := X.mg) (by rw [I1.ok.glob]; exact ((I1.mod.glob.keeps I1.bk).push o9).extBut hx TB.gP) e1 e2 (up3 _ _ e4 (I1.bk _ _ e5)) e6 e7 e8 ?_
    refine ⟨t1.heap.objs.size, [t1.heap.objs.size, a], [t1.heap.objs.size], its.toArray.size, (fun i v => its.toArray[i]? = some v), (fun i h => h.IsTupleIter t1.heap.objs.size a i ∧ h.IsTuple a its.toArray), (fun _ => true), (fun i y => y = .bool (pb i)), rfl,
      (fun A' hA => Walks.tuple hA _ _ (Nat.ne_of_lt la) _), ⟨⟨o9, ?_, by rw [ho9], by rw [ho9]; rfl⟩, ?_⟩, ?_, lim2.extBut hx hcT, ?_, ?_, ?_⟩
    · exact hx _ _ (Nat.ne_of_gt lT) (Heap.get?_push_size _ (by rw [ho9]; rfl))
    · obtain ⟨o, q1, q2, q3⟩ := htup
      exact ⟨o, up3 a o naT q1, q2, q3⟩
    · intro b hb
      have hb' : b = t1.heap.objs.size ∨ b = a := by simpa using hb
      show b < h3.objs.size
      rcases hb' with z | z
      · rw [z]; exact Nat.lt_of_lt_of_le (Nat.lt_succ_self _) hsz'
      · rw [z]; exact Nat.lt_of_lt_of_le (Nat.lt_succ_of_lt la) hsz'
    · intro z
      have z' : cStatics = t1.heap.objs.size := by simpa using z
      exact Nat.ne_of_lt hcl z'
    · intro href hhref
      have St3 := stay_but (T := T) (h1 := t1.heap) I1.mod hbT
      refine ⟨fun A' E' i v s₂ m₂ _ _ _ hPv hn hm hk => ?_, fun A' E' i v s₂ m₂ hA hD hU hPv hp hn hm hk => ?_⟩
      · simp only [List.forIn_nil]
        exact wpAny_pure ⟨rfl, keeps0 s₂ s₂.toks⟩
      · have hv : its[i]? = some v := by simpa using hPv
        have hi' : i < xs.length := by rw [rv.length]; exact (List.getElem?_eq_some_iff.mp hv).1
        obtain ⟨u, hu, ru⟩ := rv.get (List.getElem?_eq_getElem hi')
        rw [hv] at hu
        cases hu
        refine hel _ pins σ t1 (genEnv scope (cloFrom X.env.cells scope.names []) h3.objs.size code builtinsNs X.env) m₂ i _ v St3 I1 (fun h q => q) ⟨S.kind, I1.ok.glob, rfl⟩ rfl rfl (List.getElem?_eq_getElem hi') ru hm A' E' s₂ hA hD hU ?_ hn
        intro b u hb e
        have e3' := up3 b u hb e
        refine hk b (List.mem_range.mpr (Heap.lt_size e3')) (fun z => ?_) u (hhref b u e3')
        have z' : b = t1.heap.objs.size := by simpa using z
        have hlt := Heap.lt_size e
        rw [z'] at hlt
        exact Nat.lt_irrefl _ hlt
    · intro g h5 tk5 gs hgb hag hsz5 hk5 W5 hat
      simp only [GxR.passing_true, List.length_range] at W5
      have hlen : its.toArray.size = xs.length := by rw [List.size_toArray]; exact rv.length.symm
      rw [hlen] at W5 hat
      refine hQ' xs.length pb H1 g _ hQ ⟨_, _, _, _, _, W5.in4_1, hat, ?_, fun s' hm => ?_⟩
      · intro j y sj Qj Ej hy hQj
        obtain ⟨i, hij, rfl⟩ := hy
        obtain ⟨hj, ej⟩ := List.getElem?_eq_some_iff.mp hij
        rw [List.getElem_range] at ej
        subst ej
        exact wpAny_truthy_bool hQj
      · obtain ⟨more, em⟩ := hmore
        have nwr : ∀ b u, t1.heap.get? b = some u → b ∉ h3.objs.size :: [t1.heap.objs.size] := fun b u e hb => by
          have hl := Heap.lt_size e
          have hb' : b = h3.objs.size ∨ b = t1.heap.objs.size := by simpa using hb
          rcases hb' with z | z
          · rw [z] at hl; exact Nat.lt_irrefl _ (Nat.lt_of_lt_of_le hl (Nat.le_of_succ_le hsz'))
          · rw [z] at hl; exact Nat.lt_irrefl _ hl
        have J := GxR.inv_tab (more := more) (h' := s'.heap) (g' := s'.gens) (d' := s'.drawn) (t' := s'.toks) I1 hT (fun b u hb e => hm.heap b u (nwr b u e) (hk5 b u (up3 b u hb e)))
          (by rw [← em]; exact hm.heap T _ (nwr T _ tT) (hk5 T _ hT3)) (PyProof.Rows.AllBare.movedS (I1.bare.push hgb) hm)
        rw [GxR.sh_eta t1 s' hm.os] at J
        exact ⟨upd H1 T (.tbl (ps ++ more)), ⟨⟨ps ++ more, upd_same, by rw [← em]; exact ht3⟩, fun b hb => upd_ne hb⟩, J⟩
  refine ⟨lim2, ?_⟩
  cases hf : codeAmong gpos ps.toList with
  | none =>
    refine wpAny_genexprCodeX hcode (cd.code tT2 htri) (cd.tab tT2) hf fun c' h' tk hx hge hlt hco' _ htab' _ => ?_
    obtain ⟨_, _, _, _, _, _, _, _, _, _, _, _, _, _, _, _, _, _, _, htr, _⟩ := hco'
    exact run _ h' tk _ hx (Nat.le_trans hge (Nat.le_of_lt hlt)) htab'.2 ⟨_, rfl⟩ htr
  | some cv =>
    refine wpAny_genexprCode_hit hcode (cd.code tT2 htri) hf ?_
    exact run cv (t1.heap.push o9) t1.toks ps (Heap.ExtBut.refl _ _) (Nat.le_refl _) tT2 ⟨#[], by simp⟩ htri
/-- all(elt for x in e), e a tuple: behind it the def's table may have grown -/
def tAllG (X : Cx) (T : Addr) (sc : Scope) (x : Str) (elt : Expr) (te : TE) : TE := fun σ H Q => te σ H fun v H1 => ∃ (a : Addr) (xs : List V) (pb : Nat → Bool), v = .ref a ∧ SqT X.K H1 a xs ∧ GxR.TabG H1 T ∧ EltT X T sc x elt xs pb H1 ∧
  ∀ H2, GxR.Tabbed T H1 H2 → Q (.bl ((List.range xs.length).all pb)) H2
def tAnyG (X : Cx) (T : Addr) (sc : Scope) (x : Str) (elt : Expr) (te : TE) : TE := fun σ H Q => te σ H fun v H1 => ∃ (a : Addr) (xs : List V) (pb : Nat → Bool), v = .ref a ∧ SqT X.K H1 a xs ∧ GxR.TabG H1 T ∧ EltT X T sc x elt xs pb H1 ∧
  ∀ H2, GxR.Tabbed T H1 H2 → Q (.bl ((List.range xs.length).any pb)) H2
theorem pe_allG {c T : Addr} {elt iter : Expr} {x : Str} {px p pos gpos : Pos} {scope : Scope} {te : TE} {k : Nat}
    (hr : Room k X.A) (hg : Gl X "all") (hm : X.mg "all" = none) (hb : bootBuiltins "all" = some (.builtin "all")) (TB : GxR.TabB X.base X.mg c T) (hcode : X.env.code = .ref c) (S : GxR.GenS X.env scope x) (hi : PE X iter te) (hs : ∀ v, genFold iter X.env v = pure v)
    (he : starEach [.GeneratorExp elt [⟨.Name x px, iter, [], 0⟩] scope gpos] X.env = (false, eval (.GeneratorExp elt [⟨.Name x px, iter, [], 0⟩] scope gpos) X.env) :: starEach [] X.env := by rfl) :
    PE X (.Call (.Name "all" p) [.GeneratorExp elt [⟨.Name x px, iter, [], 0⟩] scope gpos] [] pos) (tAllG X T scope x elt te) := by
  refine ⟨fun pins s σ H Q I h => wpAny_Call_Name_kw (ld_blt I hg hm hb (PyProof.Rows.callWith_builtin1 ?_ he (by rfl)))⟩
  rw [he]
  show wpAny _ _ (spliced ((false, eval (.GeneratorExp elt [⟨.Name x px, iter, [], 0⟩] scope gpos) X.env) :: backTo pos (starEach [] X.env))) _ _ s
  refine Calls.spliced_cons (gen_tup (R := fun n pb H1 => ∀ H2, GxR.Tabbed T H1 H2 → Q (.bl ((List.range n).all pb)) H2) hr TB hcode S hi hs I h fun n pb H1 g s5 hR hG => ?_)
  obtain ⟨fp, wr, G, F, St, W, hst, htr, hI⟩ := hG
  refine Calls.spliced_nil (call_all_walkS (W.self 0 _ _ _ hst ⟨g, fp, wr, G, _, F, St, _, rfl, W, hst, htr, fun s' hmv => ?_⟩))
  obtain ⟨H2, hT, J⟩ := hI s' hmv
  exact ⟨.bl _, H2, J, rfl, hR H2 hT⟩
end
/-- the element's reading over zip of two tuples -/
def EltZ (X : Cx) (T : Addr) (sc : Scope) (x y : Str) (el : Expr) (xs ys : List V) (pb : Nat → Bool) (H1 : Hp) : Prop :=
  ∀ (Φ : Heap → Prop) (pins : List (Addr × Obj)) (σ : L2.St) (t1 : Shared) (cenv : Env) (m : Str → Option Value) (i : Nat) (v v2 : V) (u u2 : Value), Stay X.K X.mg Φ → Inv X pins σ H1 t1 →
    (∀ h, Φ h → ∀ b o, b ≠ T → t1.heap.get? b = some o → h.get? b = some o) → PuEnv cenv → cenv.scope = sc → cenv.cells = cloFrom X.env.cells sc.names [] → xs[i]? = some v → RelV v u → m x = some u → ys[i]? = some v2 → RelV v2 u2 → m y = some u2 →
    PuE X.prog X.w Φ cenv m (X.A.depth + 1) (X.A.units + 8) el (· = .bool (pb i))
section
variable {X : Cx} {pins : List (Addr × Obj)} {σ : L2.St} {H : Hp} {s : Shared}
theorem gen_zip {c T : Addr} {elt e e2 : Expr} {x y : Str} {pa pb' pt p zpos gpos : Pos} {kt : Nat} {scope : Scope} {ta : TA} {k : Nat} {Q' : Value → Shared → Prop} {R : Nat → (Nat → Bool) → Hp → Prop}
    (hr : Room k X.A) (TB : GxR.TabB X.base X.mg c T) (hcode : X.env.code = .ref c) (S : GxR.GenS X.env scope x) (hy : scope.names.lookup y = some .local) (hxy : x ≠ y) (hg : Gl X "zip") (hm : X.mg "zip" = none) (ha : PA X [e, e2] ta)
    (hs : ∀ v, genFold (.Call (.Name "zip" p) [e, e2] [] zpos) X.env v = pure v) (I : Inv X pins σ H s)
    (h : ta σ H fun vs H1 => ∃ (a b : Addr) (xs ys : List V) (pb : Nat → Bool), vs = [.ref a, .ref b] ∧ SqT X.K H1 a xs ∧ SqT X.K H1 b ys ∧ GxR.TabG H1 T ∧ EltZ X T scope x y elt xs ys pb H1 ∧ R (min xs.length ys.length) pb H1)
    (hQ' : ∀ n pb H1 g t5, R n pb H1 → Rdy X pins σ H1 T n pb g t5 → Q' (.ref g) t5)
    (hst : starEach [e, e2] X.env = (false, eval e X.env) :: starEach [e2] X.env := by rfl) (hpl : (backTo zpos (starEach [e2] X.env)).any (·.1) = false := by rfl) :
    wpAny (model X.prog X.w) X.A (eval (.GeneratorExp elt [⟨.Tuple [.Name x pa, .Name y pb'] kt pt, .Call (.Name "zip" p) [e, e2] [] zpos, [], 0⟩] scope gpos) X.env) Q' X.xe s := by
  refine wpAny_GeneratorExp_walksQTD hr.hd S.co (closure_ok S.free) S.cell S.dot S.loc hy hxy S.kind (by have := hr.dp; omega) ?_ hs
  refine PyProof.Rows.Call_ (ld_blt I hg hm PyProof.Rows.boot_zip (PyProof.Rows.callWith_type1 (thn (ha.run zpos pins s σ H _ I h) fun us t1 ⟨vs, H1, I1, r1, a, b, xs, ys, pb, ev, hsx, hsy, ⟨ps, hT, htri⟩, hel, hQ⟩ => ?_) hst hpl))
  subst ev
  obtain ⟨u1, u2, rfl, ra, rb⟩ := vals2 r1
  cases ra
  cases rb
  obtain ⟨its, rv, htup, hz⟩ := I1.tuple hsx
  obtain ⟨its2, rv2, htup2, hz2⟩ := I1.tuple hsy
  have tT : t1.heap.get? T = some { cls := .none, data := .fields ps } := I1.hok T _ hT
  have lT : T < t1.heap.objs.size := Heap.lt_size tT
  have la : a < t1.heap.objs.size := by obtain ⟨o, e, _⟩ := htup; exact Heap.lt_size e
  have lb : b < t1.heap.objs.size := by obtain ⟨o, e, _⟩ := htup2; exact Heap.lt_size e
  have naT : a ≠ T := fun e => by
    obtain ⟨o, e1, e2, _⟩ := htup
    rw [e, tT] at e1
    cases e1
    cases e2
  have nbT : b ≠ T := fun e => by
    obtain ⟨o, e1, e2, _⟩ := htup2
    rw [e, tT] at e1
    cases e1
    cases e2
  refine RZ.call_zipT (show t1.heap.IsTuple a its.toArray from htup) (show t1.heap.IsTuple b its2.toArray from htup2) fun h2 hz0 hTI hTO hi1 hi2 hsz2 hk2 => wpAny_pyIter_zip hz0 ?_
  have hlen : its.toArray.size = xs.length := by rw [List.size_toArray]; exact rv.length.symm
  have hlen2 : its2.toArray.size = ys.length := by rw [List.size_toArray]; exact rv2.length.symm
  have tT2 : h2.get? T = some { cls := .none, data := .fields ps } := hk2 _ _ tT
  have cd : PySem.W.CodeHd h2 c T := TB.code.keeps fun b u e => hk2 _ _ (I1.bk b u e)
  have lim2 : h2.NoLimit := I1.nolimit.keeps hk2
  have hbT : ∀ b u, X.base.get? b = some u → t1.heap.get? b = some u ∧ b ≠ T := fun b u e => ⟨I1.bk b u e, fun z => by
    have q := (I1.bs b u e).2
    rw [z, hT] at q
    cases q⟩
  have run : ∀ (code : Value) (h3 : Heap) (tk : Nat) (ps' : Array Value), Heap.ExtBut T h2 h3 → h2.objs.size ≤ h3.objs.size → h3.get? T = some { cls := .none, data := .fields ps' } → (∃ more, ps' = ps ++ more) → TriplesOk ps'.toList →
      wpAny (model X.prog X.w) X.A (builtinsFor X.env.globals X.env.builtins) (fun bi t4 =>
        ∃ Ia fp wr n₀ Pt St₀ Mid pz F, Value.ref (t1.heap.objs.size + 4) = .ref Ia ∧ (∀ A' : Around, A'.handled = none → WalksU X.prog X.w A' Ia fp wr n₀ Pt St₀ Mid) ∧ (∀ i vals, Pt i vals → ∃ va vb, vals = #[va, vb]) ∧ St₀ 0 t4.heap ∧ (∀ b ∈ fp, b < t4.heap.objs.size) ∧ t4.heap.NoLimit ∧ cStatics ∉ wr ∧
          (∀ href : Heap, (∀ b o, t4.heap.get? b = some o → href.get? b = some o) →
            QuietGenTD X.prog X.w (genEnv scope (cloFrom X.env.cells scope.names []) t4.heap.objs.size code bi X.env) x y [] elt (List.range t4.heap.objs.size) wr Pt pz F href (X.A.depth + 1) (X.A.units + 8)) ∧
          (∀ g0 h₅ tk gs, gs.bare = true → t4.heap.objs.size < g0 → h₅.objs.size = g0 + 1 → (∀ b o, t4.heap.get? b = some o → h₅.get? b = some o) →
            WalksS X.prog X.w X.A.in4 g0 (g0 :: t4.heap.objs.size :: List.range t4.heap.objs.size) (t4.heap.objs.size :: wr) (GenOnlyQ t4.gens.size) (passing pz n₀ 0).length
              (fun j y => ∃ i, (passing pz n₀ 0)[j]? = some i ∧ F i y) (GenAt X.prog X.w X.A.in4 g0 t4.gens.size t4.heap.objs.size (List.range t4.heap.objs.size) wr pz n₀ F) →
            GenAt X.prog X.w X.A.in4 g0 t4.gens.size t4.heap.objs.size (List.range t4.heap.objs.size) wr pz n₀ F 0 { t4 with gens := t4.gens.push gs, toks := tk, heap := h₅ } →
            Q' (.ref g0) { t4 with gens := t4.gens.push gs, toks := tk, heap := h₅ })) X.xe { t1 with heap := h3, toks := tk } := by
    intro code h3 tk ps' hx hsz hT3 hmore ht3
    obtain ⟨bm, ob, e1, e2, e3, e4, e5, e6, e7, e8⟩ := TB.bm
    have hcT : cStatics ≠ T := fun e => by
      obtain ⟨_, ⟨o', es, ep, ho, hd, _⟩, _⟩ := I1.nolimit
      rw [e, tT] at ho
      cases ho
      cases hd
    have hcl : cStatics < t1.heap.objs.size := let ⟨_, hns, _⟩ := I1.nolimit; hns.lt
    have up3 : ∀ b u, b ≠ T → t1.heap.get? b = some u → h3.get? b = some u := fun b u hb e => hx b u hb (hk2 _ _ e)
    have hsz' : t1.heap.objs.size + 5 ≤ h3.objs.size := by rw [← hsz2]; exact hsz
    have far : ∀ j : Nat, T ≠ t1.heap.objs.size + j := fun j z => by
      have q : (T : Nat) < t1.heap.objs.size := lT
      rw [z] at q
      exact Nat.lt_irrefl _ (Nat.lt_of_le_of_lt (Nat.le_add_right _ _) q)
    have nea : ∀ j : Nat, a ≠ t1.heap.objs.size + j := fun j z => by
      have q : (a : Nat) < t1.heap.objs.size := la
      rw [z] at q
      exact Nat.lt_irrefl _ (Nat.lt_of_le_of_lt (Nat.le_add_right _ _) q)
    have neb : ∀ j : Nat, b ≠ t1.heap.objs.size + j := fun j z => by
      have q : (b : Nat) < t1.heap.objs.size := lb
      rw [z] at q
      exact Nat.lt_irrefl _ (Nat.lt_of_le_of_lt (Nat.le_add_right _ _) q)
    have nn : ∀ i j : Nat, i ≠ j → (t1.heap.objs.size : Nat) + i ≠ t1.heap.objs.size + j := fun i j q => by omega
    have sep : ZipSep2 (t1.heap.objs.size + 4) (t1.heap.objs.size + 2) (t1.heap.objs.size + 3) t1.heap.objs.size (t1.heap.objs.size + 1) [t1.heap.objs.size, a] [t1.heap.objs.size + 1, b] := by
      have m2 : ∀ {q r t : Addr}, q ≠ r → q ≠ t → q ∉ [r, t] := fun {q r t} z1 z2 z => by
        have z' : q = r ∨ q = t := by simpa using z
        rcases z' with z' | z'
        · exact z1 z'
        · exact z2 z'
      exact ⟨nn 2 4 (by decide), nn 3 4 (by decide), nn 2 3 (by decide), nn 2 0 (by decide), List.mem_cons_self, m2 (nn 4 0 (by decide)) (nea 4).symm, m2 (nn 3 0 (by decide)) (nea 3).symm, nn 2 1 (by decide), List.mem_cons_self, m2 (nn 4 1 (by decide)) (neb 4).symm, m2 (nn 3 1 (by decide)) (neb 3).symm,
        m2 (nn 0 1 (by decide)) (neb 0).symm, m2 (nn 1 0 (by decide)) (nea 1).symm⟩
    refine wpAny_builtinsFor (m := X.mg) (by rw [I1.ok.glob]; exact (I1.mod.glob.keeps fun b u e => hk2 _ _ (I1.bk b u e)).extBut hx TB.gP) e1 e2 (up3 _ _ e4 (I1.bk _ _ e5)) e6 e7 e8 ?_
    refine ⟨t1.heap.objs.size + 4, _, _, _, _, _, _, (fun _ => true), (fun i y => y = .bool (pb i)), rfl,
      (fun A' hA => (WalksT.zipD2 sep (Draws.tuple (A := A'.in1) hA _ _ (nea 0) its.toArray) (Draws.tuple (A := A'.in1) hA _ _ (neb 1) its2.toArray)).toU), ?_, ⟨?_, ?_, ⟨.none, .none, ?_⟩, ⟨?_, ?_⟩, ⟨?_, ?_⟩⟩, ?_, lim2.extBut hx hcT, ?_, ?_, ?_⟩
    · rintro i vals ⟨x1, x2, _, _, rfl⟩
      exact ⟨x1, x2, rfl⟩
    · exact hx _ _ (far 4).symm hz0
    · exact hx _ _ (far 2).symm hTI
    · exact hx _ _ (far 3).symm hTO
    · exact hi1.at fun o q => hx _ _ (far 0).symm q
    · obtain ⟨o, q1, q2, q3⟩ := htup
      exact ⟨o, up3 a o naT q1, q2, q3⟩
    · exact hi2.at fun o q => hx _ _ (far 1).symm q
    · obtain ⟨o, q1, q2, q3⟩ := htup2
      exact ⟨o, up3 b o nbT q1, q2, q3⟩
    · intro q hq
      have hq' : q = t1.heap.objs.size + 4 ∨ q = t1.heap.objs.size + 2 ∨ q = t1.heap.objs.size + 3 ∨ q = t1.heap.objs.size ∨ q = a ∨ q = t1.heap.objs.size + 1 ∨ q = b := by simpa using hq
      have ok : ∀ j : Nat, j < 5 → (t1.heap.objs.size : Nat) + j < h3.objs.size := fun j hj => Nat.lt_of_lt_of_le (Nat.add_lt_add_left hj _) hsz'
      show (q : Nat) < h3.objs.size
      rcases hq' with z | z | z | z | z | z | z
      · rw [z]; exact ok 4 (by decide)
      · rw [z]; exact ok 2 (by decide)
      · rw [z]; exact ok 3 (by decide)
      · rw [z]; exact ok 0 (by decide)
      · rw [z]; exact Nat.lt_trans la (ok 0 (by decide))
      · rw [z]; exact ok 1 (by decide)
      · rw [z]; exact Nat.lt_trans lb (ok 0 (by decide))
    · intro z
      have z' : cStatics = t1.heap.objs.size + 4 ∨ cStatics = t1.heap.objs.size + 3 ∨ cStatics = t1.heap.objs.size ∨ cStatics = t1.heap.objs.size + 1 := by simpa using z
      have no : ∀ j : Nat, cStatics ≠ t1.heap.objs.size + j := fun j z => by
        have q : (cStatics : Nat) < t1.heap.objs.size := hcl
        rw [z] at q
        exact Nat.lt_irrefl _ (Nat.lt_of_le_of_lt (Nat.le_add_right _ _) q)
      rcases z' with z' | z' | z' | z'
      · exact no 4 z'
      · exact no 3 z'
      · exact no 0 z'
      · exact no 1 z'
    · intro href hhref
      have St3 := stay_but (T := T) (h1 := t1.heap) I1.mod hbT
      refine ⟨fun A' E' i va vb s₂ m₂ _ _ _ hPv hn hma hmb hk => ?_, fun A' E' i va vb s₂ m₂ hA hD hU hPv hp hn hma hmb hk => ?_⟩
      · simp only [List.forIn_nil]
        exact wpAny_pure ⟨rfl, keeps0 s₂ s₂.toks⟩
      · obtain ⟨x1, x2, hx1, hx2, exy⟩ := hPv
        have ev : va = x1 ∧ vb = x2 := by
          have q := congrArg Array.toList exy
          simpa using q
        obtain ⟨rfl, rfl⟩ := ev
        have hv : its[i]? = some va := by simpa using hx1
        have hv2 : its2[i]? = some vb := by simpa using hx2
        have hi' : i < xs.length := by rw [rv.length]; exact (List.getElem?_eq_some_iff.mp hv).1
        have hi2' : i < ys.length := by rw [rv2.length]; exact (List.getElem?_eq_some_iff.mp hv2).1
        obtain ⟨u, hu, ru⟩ := rv.get (List.getElem?_eq_getElem hi')
        obtain ⟨u', hu', ru'⟩ := rv2.get (List.getElem?_eq_getElem hi2')
        rw [hv] at hu
        rw [hv2] at hu'
        cases hu
        cases hu'
        refine hel _ pins σ t1 (genEnv scope (cloFrom X.env.cells scope.names []) h3.objs.size code builtinsNs X.env) m₂ i _ _ va vb St3 I1 (fun h q => q) ⟨S.kind, I1.ok.glob, rfl⟩ rfl rfl (List.getElem?_eq_getElem hi') ru hma (List.getElem?_eq_getElem hi2') ru' hmb A' E' s₂ hA hD hU ?_ hn
        intro q u hb e
        have e3' := up3 q u hb e
        refine hk q (List.mem_range.mpr (Heap.lt_size e3')) (fun z => ?_) u (hhref q u e3')
        have z' : q = t1.heap.objs.size + 4 ∨ q = t1.heap.objs.size + 3 ∨ q = t1.heap.objs.size ∨ q = t1.heap.objs.size + 1 := by simpa using z
        have hlt : (q : Nat) < t1.heap.objs.size := Heap.lt_size e
        have no : ∀ j : Nat, q ≠ t1.heap.objs.size + j := fun j z => by
          rw [z] at hlt
          exact Nat.lt_irrefl _ (Nat.lt_of_le_of_lt (Nat.le_add_right _ _) hlt)
        rcases z' with z' | z' | z' | z'
        · exact no 4 z'
        · exact no 3 z'
        · exact no 0 z'
        · exact no 1 z'
    · intro g h5 tk5 gs hgb hag hsz5 hk5 W5 hat
      simp only [GxR.passing_true, List.length_range] at W5
      rw [hlen, hlen2] at W5 hat
      refine hQ' (min xs.length ys.length) pb H1 g _ hQ ⟨_, _, _, _, _, W5.in4_1, hat, ?_, fun s' hm => ?_⟩
      · intro j y sj Qj Ej hy hQj
        obtain ⟨i, hij, rfl⟩ := hy
        obtain ⟨hj, ej⟩ := List.getElem?_eq_some_iff.mp hij
        rw [List.getElem_range] at ej
        subst ej
        exact wpAny_truthy_bool hQj
      · obtain ⟨more, em⟩ := hmore
        have nwr : ∀ b u, t1.heap.get? b = some u → b ∉ h3.objs.size :: [t1.heap.objs.size + 4, t1.heap.objs.size + 3, t1.heap.objs.size, t1.heap.objs.size + 1] := fun b u e hb => by
          have hl : (b : Nat) < t1.heap.objs.size := Heap.lt_size e
          have hb' : b = h3.objs.size ∨ b = t1.heap.objs.size + 4 ∨ b = t1.heap.objs.size + 3 ∨ b = t1.heap.objs.size ∨ b = t1.heap.objs.size + 1 := by simpa using hb
          have no : ∀ j : Nat, b ≠ t1.heap.objs.size + j := fun j z => by
            rw [z] at hl
            exact Nat.lt_irrefl _ (Nat.lt_of_le_of_lt (Nat.le_add_right _ _) hl)
          rcases hb' with z | z | z | z | z
          · rw [z] at hl
            exact Nat.lt_irrefl _ (Nat.lt_of_lt_of_le hl (Nat.le_trans (Nat.le_add_right _ 5) hsz'))
          · exact no 4 z
          · exact no 3 z
          · exact no 0 z
          · exact no 1 z
        have J := GxR.inv_tab (more := more) (h' := s'.heap) (g' := s'.gens) (d' := s'.drawn) (t' := s'.toks) I1 hT (fun b u hb e => hm.heap b u (nwr b u e) (hk5 b u (up3 b u hb e)))
          (by rw [← em]; exact hm.heap T _ (nwr T _ tT) (hk5 T _ hT3)) (PyProof.Rows.AllBare.movedS (I1.bare.push hgb) hm)
        rw [GxR.sh_eta t1 s' hm.os] at J
        exact ⟨upd H1 T (.tbl (ps ++ more)), ⟨⟨ps ++ more, upd_same, by rw [← em]; exact ht3⟩, fun b hb => upd_ne hb⟩, J⟩
  refine ⟨lim2, ?_⟩
  cases hf : codeAmong gpos ps.toList with
  | none =>
    refine wpAny_genexprCodeX hcode (cd.code tT2 htri) (cd.tab tT2) hf fun c' h' tk hx hge hlt hco' _ htab' _ => ?_
    obtain ⟨_, _, _, _, _, _, _, _, _, _, _, _, _, _, _, _, _, _, _, htr, _⟩ := hco'
    exact run _ h' tk _ hx (Nat.le_trans hge (Nat.le_of_lt hlt)) htab'.2 ⟨_, rfl⟩ htr
  | some cv =>
    refine wpAny_genexprCode_hit hcode (cd.code tT2 htri) hf ?_
    exact run cv h2 t1.toks ps (Heap.ExtBut.refl _ _) (Nat.le_refl _) tT2 ⟨#[], by simp⟩ htri
def tAnyZ (X : Cx) (T : Addr) (sc : Scope) (x y : Str) (elt : Expr) (ta : TA) : TE := fun σ H Q => ta σ H fun vs H1 => ∃ (a b : Addr) (xs ys : List V) (pb : Nat → Bool), vs = [.ref a, .ref b] ∧ SqT X.K H1 a xs ∧ SqT X.K H1 b ys ∧ GxR.TabG H1 T ∧ EltZ X T sc x y elt xs ys pb H1 ∧
  ∀ H2, GxR.Tabbed T H1 H2 → Q (.bl ((List.range (min xs.length ys.length)).any pb)) H2
theorem pe_anyZ {c T : Addr} {elt e e2 : Expr} {x y : Str} {pa pb' pt p p' pos zpos gpos : Pos} {kt : Nat} {scope : Scope} {ta : TA} {k : Nat}
    (hr : Room k X.A) (hg : Gl X "any") (hm : X.mg "any" = none) (TB : GxR.TabB X.base X.mg c T) (hcode : X.env.code = .ref c) (S : GxR.GenS X.env scope x) (hy : scope.names.lookup y = some .local) (hxy : x ≠ y) (hgz : Gl X "zip") (hmz : X.mg "zip" = none) (ha : PA X [e, e2] ta)
    (hs : ∀ v, genFold (.Call (.Name "zip" p) [e, e2] [] zpos) X.env v = pure v)
    (hst : starEach [e, e2] X.env = (false, eval e X.env) :: starEach [e2] X.env := by rfl) (hpl : (backTo zpos (starEach [e2] X.env)).any (·.1) = false := by rfl)
    (he : starEach [.GeneratorExp elt [⟨.Tuple [.Name x pa, .Name y pb'] kt pt, .Call (.Name "zip" p) [e, e2] [] zpos, [], 0⟩] scope gpos] X.env = (false, eval (.GeneratorExp elt [⟨.Tuple [.Name x pa, .Name y pb'] kt pt, .Call (.Name "zip" p) [e, e2] [] zpos, [], 0⟩] scope gpos) X.env) :: starEach [] X.env := by rfl) :
    PE X (.Call (.Name "any" p') [.GeneratorExp elt [⟨.Tuple [.Name x pa, .Name y pb'] kt pt, .Call (.Name "zip" p) [e, e2] [] zpos, [], 0⟩] scope gpos] [] pos) (tAnyZ X T scope x y elt ta) := by
  refine ⟨fun pins s σ H Q I h => wpAny_Call_Name_kw (ld_blt I hg hm PyProof.Rows.boot_any (PyProof.Rows.callWith_builtin1 ?_ he (by rfl)))⟩
  rw [he]
  show wpAny _ _ (spliced ((false, eval (.GeneratorExp elt [⟨.Tuple [.Name x pa, .Name y pb'] kt pt, .Call (.Name "zip" p) [e, e2] [] zpos, [], 0⟩] scope gpos) X.env) :: backTo pos (starEach [] X.env))) _ _ s
  refine Calls.spliced_cons (gen_zip (R := fun n pb H1 => ∀ H2, GxR.Tabbed T H1 H2 → Q (.bl ((List.range n).any pb)) H2) hr TB hcode S hy hxy hgz hmz ha hs I h (fun n pb H1 g s5 hR hG => ?_) hst hpl)
  obtain ⟨fp, wr, G, F, St, W, hst, htr, hI⟩ := hG
  refine Calls.spliced_nil (call_any_walkS (W.self 0 _ _ _ hst ⟨g, fp, wr, G, _, F, St, _, rfl, W, hst, htr, fun s' hmv => ?_⟩))
  obtain ⟨H2, hT, J⟩ := hI s' hmv
  exact ⟨.bl _, H2, J, rfl, hR H2 hT⟩
end

/-! ### tuples: sum(t), t * 1, t[::-1] -/
section
variable {X : Cx}
/-- sum(t), t a tuple or a list of ints -/
def rSumS (K : PySem.W.Frag) : List V → Hp → VK → Prop := fun vs H Q => ∃ (a : Addr) (ns : List Int), vs = [V.ref a] ∧ (SqL K H a (ns.map V.int) ∨ SqT K H a (ns.map V.int)) ∧ Q (.int ns.sum) H
theorem cr_sumS (hc : X.calm = true) : CallR X (.builtin "sum") (rSumS X.K) := by
  intro pins s σ H vs us Q I r h
  obtain ⟨a, ns, rfl, hs, q⟩ := h
  rcases hs with hs | hs
  · exact cr_sum hc pins s σ H [.ref a] us Q I r ⟨a, ns, rfl, hs, q⟩
  · obtain ⟨its, rv, hl, _⟩ := I.tuple hs
    rw [Vals.ref1 r]
    have hi := intsAre_of rv
    obtain ⟨xs, e⟩ := hi.allInts.items
    have hn : numsOf (intItems xs).toList = ns := by rw [← e]; exact hi.numsOf
    rw [nums_intItems] at hn
    have hl' : s.heap.IsTuple a (intItems xs) := by rw [← e]; exact hl
    refine PySem.W.ktm_sumG (I.ok.hd hc) hl' fun h' tk t' hk => ⟨.int ns.sum, H, I.kept hk, ?_, q⟩
    rw [preSum_eq, List.take_of_length_le (by simp), hn]
    exact ⟨t', rfl⟩
theorem adjust_rev (n : Nat) : Builtin.Slice.sliceAdjust none none (-1) (n : Int) = ((n : Int) - 1, -1) := rfl
theorem places_rev (n : Nat) : Builtin.Slice.slicePlaces ((n : Int) - 1) (-1) (-1) = n := by
  unfold Builtin.Slice.slicePlaces
  rw [if_neg (by omega)]
  split
  · have e : ((n : Int) - 1 - -1 - 1) / (- -1) = (n : Int) - 1 := by
      rw [show (- -1 : Int) = 1 from rfl, Int.ediv_one]; omega
    rw [e]; omega
  · omega
theorem pick_revL : ∀ (l : List Value), ((List.range l.length).filterMap fun (k : Nat) => l[l.length - 1 - k]?) = l.reverse
  | [] => rfl
  | v :: l => by
    have e : ((List.range l.length).filterMap fun (k : Nat) => (v :: l)[l.length - k]?) = (List.range l.length).filterMap fun (k : Nat) => l[l.length - 1 - k]? := by
      have go : ∀ (m : List Nat), (∀ k ∈ m, k < l.length) → (m.filterMap fun (k : Nat) => (v :: l)[l.length - k]?) = m.filterMap fun (k : Nat) => l[l.length - 1 - k]? := by
        intro m
        induction m with
        | nil => intro _; rfl
        | cons k m ih =>
          intro hm
          have hk := hm k (by simp)
          have e3 : (v :: l)[l.length - k]? = l[l.length - 1 - k]? := by
            rw [show l.length - k = (l.length - 1 - k) + 1 by omega, List.getElem?_cons_succ]
          rw [List.filterMap_cons, List.filterMap_cons, e3, ih fun q hq => hm q (by simp [hq])]
      exact go _ fun k hk => List.mem_range.mp hk
    have e0 : ((List.range (v :: l).length).filterMap fun (k : Nat) => (v :: l)[(v :: l).length - 1 - k]?) = ((List.range (l.length + 1)).filterMap fun (k : Nat) => (v :: l)[l.length - k]?) := rfl
    rw [e0, List.range_succ, List.filterMap_append, e, pick_revL l]
    simp
theorem pick_rev (xs : Array Value) : ((List.range xs.size).filterMap fun (k : Nat) => xs[((xs.size : Int) - 1 + (k : Int) * -1).toNat]?).toArray = xs.toList.reverse.toArray := by
  have e : (fun (k : Nat) => xs[((xs.size : Int) - 1 + (k : Int) * -1).toNat]?) = fun (k : Nat) => if (k : Int) ≤ (xs.size : Int) - 1 then xs.toList[xs.toList.length - 1 - k]? else xs[0]? := by
    funext k
    by_cases hk : (k : Int) ≤ (xs.size : Int) - 1
    · rw [if_pos hk, Array.getElem?_toList, Array.length_toList]
      congr 1
      omega
    · rw [if_neg hk]
      congr 1
      omega
  rw [e]
  have go : ∀ (m : List Nat), (∀ k ∈ m, k < xs.size) → (m.filterMap fun (k : Nat) => if (k : Int) ≤ (xs.size : Int) - 1 then xs.toList[xs.toList.length - 1 - k]? else xs[0]?) = m.filterMap fun (k : Nat) => xs.toList[xs.toList.length - 1 - k]? := by
    intro m
    induction m with
    | nil => intro _; rfl
    | cons k m ih =>
      intro hm
      have hk := hm k (by simp)
      rw [List.filterMap_cons, List.filterMap_cons, if_pos (by omega), ih fun q hq => hm q (by simp [hq])]
  rw [go _ fun k hk => List.mem_range.mp hk]
  have := pick_revL xs.toList
  rw [Array.length_toList] at this ⊢
  rw [this]
def tRevT (K : PySem.W.Frag) (te : TE) : TE := fun σ H Q => te σ H fun x H1 => ∃ a xs, x = .ref a ∧ SqT K H1 a xs ∧ ∀ p, H1 p = none → Q (.ref p) (upd H1 p (.tup xs.reverse))
theorem pe_revT {e : Expr} {te : TE} {j : Nat} {p1 p2 p3 pos : Pos} (he : PE X e te) : PE X (.Subscript e (.Slice none none (some (.UnaryOp .USub (.Constant (.int 1) j p1) p2)) p3) pos) (tRevT X.K te) := by
  refine ⟨fun pins s σ H Q I h => ?_⟩
  refine PyProof.Rows.Subscript_ (thn (he.run pins s σ H _ I h) fun v s1 ⟨x, H1, I1, r1, a, xs, ex, hs, q⟩ => ?_)
  subst ex
  cases r1
  obtain ⟨its, rv, htup, hz⟩ := I1.tuple hs
  refine wpAny_Slice ?_
  rw [evalPart_none, evalPart_some]
  refine wpAny_pure (wpAny_pure ?_)
  refine thn ((pe_un (X := X) (pos := p2) un_neg (pe_int (X := X) (i := 1) (j := j) (pos := p1))).run pins s1 σ H1 (fun y H2 => y = .int (-1) ∧ H2 = H1) I1 ⟨1, rfl, rfl, rfl⟩) fun st s2 ⟨y, H2, I2, r2, ey, eH⟩ => ?_
  subst ey eH
  obtain ⟨t, rfl⟩ := r2
  obtain ⟨its', rv', htup', _⟩ := I2.tuple hs
  have hlen' : its'.toArray.size = xs.length := by rw [List.size_toArray]; exact rv'.length.symm
  obtain ⟨o7, ho7⟩ : ∃ o7 : Obj, o7 = { cls := .type "slice", data := .fields #[.none, .none, .int (-1) t] } := ⟨_, rfl⟩
  have I4 : Inv X pins σ H2 { s2 with heap := s2.heap.push o7 } := I2.kept (t' := s2.toks) fun b ob q => Heap.get?_push_of_some _ q
  have hs7 : (s2.heap.push o7).IsSliceOf s2.heap.objs.size .none .none (.int (-1) t) := by rw [ho7]; exact Heap.IsSliceOf.new ..
  have ht7 : PyProof.Rows.IsTup (s2.heap.push o7) a its'.toArray := htup'.push _
  rw [← ho7]
  refine PyProof.Rows.tail_any (ops := [.ref a, .ref s2.heap.objs.size]) (T := "tuple") (s := { s2 with heap := s2.heap.push o7 }) ht7.typeIs PyProof.Rows.slot_tuple_getitem.lookup ?_ (by with_unfolding_all rfl)
  have hTs : ({ s2 with heap := s2.heap.push o7 } : Shared).TypeIs (.ref s2.heap.objs.size) "slice" := by obtain ⟨o, e1, e2, _⟩ := hs7; exact ⟨o, e1, e2⟩
  obtain ⟨oo, ho1, ho2, ho3⟩ := id hs7
  unfold getItem
  try with_reducible refine wpAny_holding ?_
  first | refine wpAny_bind (wpAny_pure ?_) | skip
  refine wpAny_bind (wpAny_sequenceKey ht7.typeIs (by decide) (wpAny_bind (wpAny_callSpecial?_slot (name := Str.ofString "__getitem__") ht7.typeIs PyProof.Rows.slot_tuple_getitem (wpAny_call_entry PyProof.Rows.slot_tuple_getitem ht7.typeIs PyProof.Rows.entry_tuple_getitem ?_ (PyProof.Rows.args_tuple_getitem _ _)))))
  show wpAny _ _ (Builtin.Tuple.tupleItemsOf (.ref a) >>= _) _ _ _
  refine wpAny_bind (PyProof.Rows.tupleItemsOf_ ht7 (wpAny_bind (wpAny_typeOf hTs ?_)))
  rw [if_pos (by decide)]
  refine wpAny_bind (m := Builtin.Slice.sliceApplied _ _) ?_
  unfold Builtin.Slice.sliceApplied Builtin.Slice.sliceFields
  refine wpAny_bind (wpAny_bind (wpAny_field ho1 ho3 (x := .none) rfl (wpAny_bind (wpAny_field ho1 ho3 (x := .none) rfl (wpAny_bind (wpAny_field ho1 ho3 (x := .int (-1) t) rfl (wpAny_pure ?_)))))))
  refine wpAny_bind (PyProof.Rows.slicePart_int ?_)
  show wpAny _ _ (if ((-1 : Int) == 0) = true then _ else _) _ _ _
  rw [if_neg (by decide)]
  refine wpAny_bind (PyProof.Rows.slicePart_none (wpAny_bind (PyProof.Rows.slicePart_none (wpAny_bind (wpAny_pure ?_)))))
  show wpAny _ _ (pure ((its'.toArray.size : Int) - 1, (-1 : Int), Builtin.Slice.slicePlaces ((its'.toArray.size : Int) - 1) (-1) (-1))) _ _ _
  rw [places_rev]
  refine wpAny_pure ?_
  have hno : ¬ ((((its'.toArray.size : Int) - 1 == 0 && (-1 : Int) == 1 && its'.toArray.size == its'.toArray.size)) = true) := by
    intro z
    rw [Bool.and_eq_true, Bool.and_eq_true] at z
    exact absurd z.1.2 (by decide)
  show wpAny _ _ (if ((its'.toArray.size : Int) - 1 == 0 && (-1 : Int) == 1 && its'.toArray.size == its'.toArray.size) = true then _ else _) _ _ _
  rw [if_neg hno, pick_rev]
  have hsz : sizeOk (.seq its'.toArray.toList.reverse.toArray) := by
    show its'.toArray.toList.reverse.toArray.size ≤ sizeLine
    rw [List.size_toArray, List.length_reverse, Array.length_toList, hlen']
    exact hz
  have fin : EP X pins σ Q (.ref (s2.heap.push o7).objs.size) { s2 with heap := (s2.heap.push o7).push { cls := .type "tuple", data := .seq its'.toArray.toList.reverse.toArray } } := by
    have hf : H2 (s2.heap.push o7).objs.size = none := I4.hok.fresh (Nat.le_refl _)
    refine ⟨.ref _, _, I4.laid (t' := s2.toks) (o := .tup xs.reverse) (fun b ob z => Heap.get?_push_of_some _ z) (Nat.le_refl _) ?_, rfl, q _ hf⟩
    exact ⟨by rw [List.length_reverse]; exact hz, its'.reverse, rv'.reverse, ⟨_, Heap.get?_push_size _ rfl, rfl, 0, rfl⟩⟩
  first
    | exact wpAny_bind (m := Builtin.Tuple.tupleExact _) (wpAny_newObj_type (wpAny_pure ⟨_, rfl, wpAny_pure fin⟩) hsz)
    | exact wpAny_bind (m := Builtin.Tuple.tupleExact _) (wpAny_newObj_type (wpAny_bind (wpAny_pure (wpAny_pure ⟨_, rfl, wpAny_pure fin⟩))) hsz)
    | exact wpAny_bind (wpAny_bind (m := Builtin.Tuple.tupleExact _) (wpAny_newObj_type (wpAny_pure (wpAny_pure ⟨_, rfl, wpAny_pure fin⟩)) hsz))
    | exact wpAny_bind (wpAny_bind (m := Builtin.Tuple.tupleExact _) (wpAny_newObj_type (wpAny_pure ⟨_, rfl, wpAny_pure fin⟩) hsz))
end

section
open PyProof.Rows
theorem tup_mul_one (l : Addr) (items : Array Value) (n : Nat) (dd : Option Addr) (sl : Array (Option Value)) (u : Tok) :
    Meets (Builtin.«tuple.__mul__» ⟨[.ref l, .int 1 u], []⟩) (fun _ R s => s.heap.get? l = some { cls := .type "tuple", dict := dd, data := .seq items n, slots := sl } ∧ R (.ok (.ret (.ref l))) s) :=
  .of_wp fun prog w A R s h => by
    obtain ⟨hp, g, d, tk, os⟩ := s
    obtain ⟨hl, h⟩ := h
    have f1 := AutoSeq1.idx_int
    wp_walk using PySem.AutoSeq1.wpAny_loadPart' hl
    try (refine wpAny_ite_false (decide_eq_false (by decide)) ?_; wp_walk using PySem.AutoSeq1.wpAny_loadPart' hl)
    repeat (first
      | exact ⟨_, rfl, h⟩
      | (refine wpAny_ite_true (decide_eq_true (by simp)) ?_; wp_walk using PySem.AutoSeq1.wpAny_loadPart' hl)
      | (refine wpAny_ite_true (by simp) ?_; wp_walk using PySem.AutoSeq1.wpAny_loadPart' hl))
/-- t * 1 is t itself -/
def rRep1 (K : PySem.W.Frag) : R2 := fun x y H Q => ∃ l xs, x = .ref l ∧ y = .int 1 ∧ SqT K H l xs ∧ Q (.ref l) H
theorem op_rep1 {X : Cx} : OpR X (binaryOp .Mult) (rRep1 X.K) := by
  intro pins s σ H x y v u Q I rx ry h
  obtain ⟨l, xs, rfl, rfl, hT, q⟩ := h
  cases rx
  obtain ⟨t, rfl⟩ := ry
  obtain ⟨its, r, ⟨⟨cls, dd, data, sl⟩, ho, hc, n, hd⟩, hs⟩ := I.tuple hT
  simp only at hc hd
  subst hc hd
  exact wpAny_binaryOp_repeat_ref (T := "tuple") (U := "int") (by decide) ⟨_, ho, rfl⟩ (fun s' => typeIs_int s' 1 t) noFill_tuple_mul F.fills_int_mul F.slot_int_rmul repeat_tuple F.slot_int_index.lookup
    (call_meets F.slot_int_rmul (typeIs_int s 1 t) F.entry_int_rmul (F.args_int_rmul_2 _ _) (int_rmul_tuple 1 t l its.toArray n dd sl)
      ⟨ho, rfl, ⟨_, ho, rfl⟩, call_meets F.slot_tuple_mul ⟨_, ho, rfl⟩ F.entry_tuple_mul (F.args_tuple_mul_2 _ _) (tup_mul_one l its.toArray n dd sl t) ⟨ho, .ref l, H, I, rfl, q⟩⟩)
def rRepA (K : PySem.W.Frag) : R2 := fun x y H Q => rRepT K x y H Q ∨ rRep1 K x y H Q
theorem op_repA {X : Cx} : OpR X (binaryOp .Mult) (rRepA X.K) := OpR.or op_repT op_rep1
end

/-! ### order of nested data; sorted of it -/
section
open PySem.W
variable {X : Cx}
theorem ix_any : IxR X (fun x y H Q => rIxL X.K x y H Q ∨ rIxT X.K x y H Q) := IxR.or ix_list ix_tup
/-- the one before the other, as nested data -/
def rLtD (K : PySem.W.Frag) : R2 := fun x y H Q => ∃ d e, Dp K H x d ∧ Dp K H y e ∧ alike d e = true ∧ d ≠ .none ∧ d.depth ≤ 32 ∧ Q (.bl (dataLt d e)) H
def rGtD (K : PySem.W.Frag) : R2 := fun x y H Q => ∃ d e, Dp K H x d ∧ Dp K H y e ∧ alike d e = true ∧ d ≠ .none ∧ d.depth ≤ 32 ∧ Q (.bl (dataLt e d)) H
theorem op_ltD (hu : X.A.units + 64 < cLine) : OpR X (compareOp .Lt) (rLtD X.K) := by
  intro pins s σ H x y v u Q I rx ry ⟨d, e, hd, he, al, nn, dp, q⟩
  obtain ⟨as, r1⟩ := Dp.reads I d x v hd rx
  obtain ⟨bs, r2⟩ := Dp.reads I e y u he ry
  exact lt_data r1 r2 al nn (by omega) ⟨.bl _, H, I, rfl, q⟩
theorem op_gtD (hu : X.A.units + 64 < cLine) : OpR X (compareOp .Gt) (rGtD X.K) := by
  intro pins s σ H x y v u Q I rx ry ⟨d, e, hd, he, al, nn, dp, q⟩
  obtain ⟨as, r1⟩ := Dp.reads I d x v hd rx
  obtain ⟨bs, r2⟩ := Dp.reads I e y u he ry
  exact gt_data r1 r2 al nn (by omega) ⟨.bl _, H, I, rfl, q⟩
theorem each_of {β : Type} {g : β → V} : ∀ {bs : List β} {its : List Value}, Vals (bs.map g) its → EachIs (fun v b => RelV (g b) v) its bs
  | [], _, h => by cases h; exact .nil
  | _ :: _, _, h => by
    cases h with
    | cons r t => exact .cons r (each_of t)
theorem vals_of_each {β : Type} {g : β → V} : ∀ {bs : List β} {its : List Value}, EachIs (fun v b => RelV (g b) v) its bs → Vals (bs.map g) its
  | _, _, .nil => .nil
  | _, _, .cons r t => .cons r (vals_of_each t)
theorem each_and {α β : Type} {R S : α → β → Prop} : ∀ {as : List α} {bs : List β}, EachIs R as bs → (∀ a b, b ∈ bs → R a b → S a b) → EachIs S as bs
  | _, _, .nil, _ => .nil
  | _, _, .cons r t, h => .cons (h _ _ List.mem_cons_self r) (each_and t fun a b hb => h a b (List.mem_cons_of_mem _ hb))
/-- sorted(xs) of nested data, in order: the pairs are the items and what they read as -/
def rSortedD (K : PySem.W.Frag) : List V → Hp → VK → Prop := fun vs H Q => ∃ (a : Addr) (bs : List (V × PyData)), vs = [.ref a] ∧ SqL K H a (bs.map (·.1)) ∧ (∀ b ∈ bs, Dp K H b.1 b.2) ∧ AllAlike (bs.map (·.2)) ∧ Sortable (bs.map (·.2)) ∧ (∀ b ∈ bs, b.2.depth ≤ 32) ∧
  ∀ p, H p = none → Q (.ref p) (upd H p (.lst ((bs.mergeSort (dataLe false (·.2))).map (·.1))))
theorem cr_sortedD (hu : X.A.units + 64 < cLine) : CallR X (.builtin "sorted") (rSortedD X.K) := by
  intro pins s σ H vs us Q I r ⟨a, bs, ev, hs, hd, al, so, dp, q⟩
  subst ev
  obtain ⟨its, rv, hl, hz⟩ := I.list hs
  rw [Vals.ref1 r]
  have e := each_of (g := fun b : V × PyData => b.1) rv
  have hzb : bs.length ≤ sizeLine := by rw [List.length_map] at hz; exact hz
  refine sorted_data (R := fun v (b : V × PyData) => RelV b.1 v) (enc := fun b => b.2) hl.isList e (each_and e fun v b hb rr => Dp.reads I b.2 b.1 v (hd b hb) rr) al so hzb (fun b hb => by have := dp b hb; omega) fun out hol ho => ?_
  obtain ⟨ep, hat⟩ := PyProof.Rows.sortedAll_at s.heap its (List.toArray out)
  have hlen : ((bs.mergeSort (dataLe false (·.2))).map (·.1)).length ≤ sizeLine := by rw [List.length_map, (List.mergeSort_perm _ _).length_eq]; exact hzb
  exact ⟨.ref _, _, I.laid (t' := s.toks) (o := .lst ((bs.mergeSort (dataLe false (·.2))).map (·.1))) (fun _ _ => PyProof.Rows.sortedAll_old) (Nat.le_succ _) ⟨hlen, out, ep, vals_of_each ho, hat⟩, rfl, q _ (I.hok.fresh (Nat.le_succ _))⟩
theorem stay_all {K : PySem.W.Frag} {mg : Str → Option Value} {base : Heap} {h1 : Heap} (M : Mod K mg base) (hb : ∀ b o, base.get? b = some o → h1.get? b = some o) : Stay K mg fun h => Kp h1 h := by
  have up : ∀ h : Heap, Kp h1 h → ∀ b o, base.get? b = some o → h.get? b = some o := fun h q b o e => q b o (hb b o e)
  refine ⟨fun h h' q k b o e => k b o (q b o e), fun h q => M.kin.keeps (up h q), fun h q => M.glob.keeps (up h q), fun h q => ?_, fun h q => M.nolimit.keeps (up h q)⟩
  obtain ⟨mb, e1, e2⟩ := M.blt
  exact ⟨mb, e1.keeps (up h q), e2⟩
theorem alike_ints {β : Type} (g : β → Int) (bs : List β) : AllAlike (bs.map fun b => PyData.int (g b)) := by
  intro d hd d' hd'
  obtain ⟨b, _, rfl⟩ := List.mem_map.mp hd
  obtain ⟨b', _, rfl⟩ := List.mem_map.mp hd'
  rfl
theorem sortable_ints {β : Type} (g : β → Int) (bs : List β) : Sortable (bs.map fun b => PyData.int (g b)) := by
  refine .inr fun d hd => ?_
  obtain ⟨b, _, rfl⟩ := List.mem_map.mp hd
  exact ⟨(fun z => nomatch z), (fun _ z => nomatch z)⟩
end

/-! ### zip of a tuple and a list; a method that sums products over it, read plainly -/
section
open PyProof.Rows
abbrev zmH1 (h : Heap) (l1 : Addr) : Heap := h.push { cls := .type "tuple_iterator", data := .fields #[.ref l1, .int 0 0] }
abbrev zmH2 (h : Heap) (l1 l2 : Addr) : Heap := (zmH1 h l1).push { cls := .type "list_iterator", data := .fields #[.ref l2, .int 0 0] }
abbrev zmH3 (h : Heap) (l1 l2 : Addr) : Heap := (zmH2 h l1 l2).push { cls := .type "tuple", data := .seq #[.ref h.objs.size, .ref (zmH1 h l1).objs.size] }
abbrev zmH4 (h : Heap) (l1 l2 : Addr) : Heap := (zmH3 h l1 l2).push { cls := .type "tuple", data := .seq #[.none, .none] }
abbrev zmH5 (h : Heap) (l1 l2 : Addr) : Heap := (zmH4 h l1 l2).push { cls := .type "zip", data := .fields #[.none, .bool false, .bool false, .ref (zmH2 h l1 l2).objs.size, .ref (zmH3 h l1 l2).objs.size] }
theorem meets_zipTL (l1 l2 : Addr) (xs ys : Array Value) :
    Meets (Builtin.«zip.__new__» ⟨[.type "zip", .ref l1, .ref l2], []⟩) (fun _ R s => s.heap.IsTuple l1 xs ∧ s.heap.IsList l2 ys ∧ R (.ok (.ret (.ref (zmH4 s.heap l1 l2).objs.size))) { s with heap := zmH5 s.heap l1 l2 }) :=
  .of_wp fun prog w A R s h => by
    obtain ⟨hp, g, d, tk, os⟩ := s
    obtain ⟨q1, q2, h⟩ := h
    have f0 := sub_zip
    have a1 : Heap.IsTuple (Shared.heap ⟨hp, g, d, tk, os⟩) l1 xs := q1
    have a2 : Heap.IsList (Shared.heap ⟨hp.push { cls := .type "tuple_iterator", data := .fields #[.ref l1, .int 0 0] }, g, d, tk, os⟩) l2 ys := Heap.IsList.push q2 _
    wp_walk using wpAny_pyIter_tuple a1, wpAny_pyIter_list a2
    exact ⟨_, rfl, h⟩
variable {prog : Program} {w : World} {A : Around} {E : Value → Shared → Prop} {s : Shared}
theorem call_zipTL {l1 l2 : Addr} {xs ys : Array Value} {Q : Value → Shared → Prop} (q1 : s.heap.IsTuple l1 xs) (q2 : s.heap.IsList l2 ys)
    (h : ∀ h', IsZip h' (s.heap.objs.size + 4) (s.heap.objs.size + 2) (s.heap.objs.size + 3) .none → IsTupOf2 h' (s.heap.objs.size + 2) (.ref s.heap.objs.size) (.ref (s.heap.objs.size + 1)) → IsTupOf2 h' (s.heap.objs.size + 3) .none .none →
      h'.IsTupleIter s.heap.objs.size l1 0 → h'.IsListIter (s.heap.objs.size + 1) l2 0 → h'.objs.size = s.heap.objs.size + 5 → Kp s.heap h' → Q (.ref (s.heap.objs.size + 4)) { s with heap := h' }) :
    wpAny (model prog w) A (call (.type "zip") [.ref l1, .ref l2]) Q E s := by
  refine callType_new F.called_zip (by decide) (F.typeCall_zip_2 _ _) (F.newCall_zip_2 _ _) (fun obj => F.args_object_init_3 obj _ _) F.entry_zip_new (meets_zipTL l1 l2 xs ys) ⟨q1, q2, ?_⟩
  have z1 : (zmH1 s.heap l1).objs.size = s.heap.objs.size + 1 := Heap.size_push ..
  have z2 : (zmH2 s.heap l1 l2).objs.size = s.heap.objs.size + 2 := by rw [Heap.size_push, z1]
  have z3 : (zmH3 s.heap l1 l2).objs.size = s.heap.objs.size + 3 := by rw [Heap.size_push, z2]
  have z4 : (zmH4 s.heap l1 l2).objs.size = s.heap.objs.size + 4 := by rw [Heap.size_push, z3]
  have z5 : (zmH5 s.heap l1 l2).objs.size = s.heap.objs.size + 5 := by rw [Heap.size_push, z4]
  have g5 : (zmH5 s.heap l1 l2).get? (zmH4 s.heap l1 l2).objs.size = some _ := Heap.get?_push_size _ rfl
  have g4 : (zmH5 s.heap l1 l2).get? (zmH3 s.heap l1 l2).objs.size = some _ := Heap.get?_push_of_some _ (Heap.get?_push_size _ rfl)
  have g3 : (zmH5 s.heap l1 l2).get? (zmH2 s.heap l1 l2).objs.size = some _ := Heap.get?_push_of_some _ (Heap.get?_push_of_some _ (Heap.get?_push_size _ rfl))
  have g2 : (zmH5 s.heap l1 l2).get? (zmH1 s.heap l1).objs.size = some _ := Heap.get?_push_of_some _ (Heap.get?_push_of_some _ (Heap.get?_push_of_some _ (Heap.get?_push_size _ rfl)))
  have g1 : (zmH5 s.heap l1 l2).get? s.heap.objs.size = some _ := Heap.get?_push_of_some _ (Heap.get?_push_of_some _ (Heap.get?_push_of_some _ (Heap.get?_push_of_some _ (Heap.get?_push_size _ rfl))))
  show _ ∧ _
  rw [z2, z3, z4] at g5
  rw [z3] at g4
  rw [z1, z2] at g3
  rw [z1] at g2
  have hQ := h (zmH5 s.heap l1 l2) g5 g3 g4 ⟨_, g1, rfl, rfl⟩ ⟨_, g2, rfl, rfl⟩ z5 fun c o e => Heap.get?_push_of_some _ (Heap.get?_push_of_some _ (Heap.get?_push_of_some _ (Heap.get?_push_of_some _ (Heap.get?_push_of_some _ e))))
  rw [← z4] at hQ
  exact ⟨⟨_, Heap.get?_push_size _ rfl, rfl⟩, hQ⟩
/-- the cells of a zip over a tuple and a list, made now -/
theorem zip_sep {n : Nat} {l1 l2 : Addr} (a1 : l1 < n) (a2 : l2 < n) : ZipSep2 (n + 4) (n + 2) (n + 3) n (n + 1) [n, l1] [n + 1, l2] := by
  have nn : ∀ i j : Nat, i ≠ j → (n : Nat) + i ≠ n + j := fun i j q => by omega
  have ne1 : ∀ j : Nat, n + j ≠ l1 := fun j z => by
    have q : (l1 : Nat) < n := a1
    rw [← z] at q
    exact Nat.lt_irrefl _ (Nat.lt_of_le_of_lt (Nat.le_add_right _ _) q)
  have ne2 : ∀ j : Nat, n + j ≠ l2 := fun j z => by
    have q : (l2 : Nat) < n := a2
    rw [← z] at q
    exact Nat.lt_irrefl _ (Nat.lt_of_le_of_lt (Nat.le_add_right _ _) q)
  have m2 : ∀ {q r t : Addr}, q ≠ r → q ≠ t → q ∉ [r, t] := fun {q r t} z1 z2 z => by
    have z' : q = r ∨ q = t := by simpa using z
    rcases z' with z' | z'
    · exact z1 z'
    · exact z2 z'
  exact ⟨nn 2 4 (by decide), nn 3 4 (by decide), nn 2 3 (by decide), nn 2 0 (by decide), List.mem_cons_self, m2 (nn 4 0 (by decide)) (ne1 4), m2 (nn 3 0 (by decide)) (ne1 3), nn 2 1 (by decide), List.mem_cons_self, m2 (nn 4 1 (by decide)) (ne2 4), m2 (nn 3 1 (by decide)) (ne2 3),
    m2 (nn 0 1 (by decide)) (ne2 0), m2 (nn 1 0 (by decide)) (ne1 1)⟩
end

/-- the sum of the products, place by place, up to the shorter -/
def dotZ : List Int → List Int → Int
  | x :: xs, y :: ys => x * y + dotZ xs ys
  | _, _ => 0
theorem dot_take : ∀ (i : Nat) (xs ys : List Int) (x y : Int), xs[i]? = some x → ys[i]? = some y → dotZ (xs.take (i + 1)) (ys.take (i + 1)) = dotZ (xs.take i) (ys.take i) + x * y
  | 0, x0 :: xs, y0 :: ys, x, y, h1, h2 => by
    simp at h1 h2
    subst h1 h2
    simp [dotZ]
  | i + 1, x0 :: xs, y0 :: ys, x, y, h1, h2 => by
    have := dot_take i xs ys x y (by simpa using h1) (by simpa using h2)
    simp only [List.take_succ_cons, dotZ, this]
    omega
  | _, [], _, _, _, h1, _ => by simp at h1
  | _, _ :: _, [], _, _, _, h2 => by simp at h2
theorem dot_take_all (xs ys : List Int) (n : Nat) (h : n = min xs.length ys.length) : dotZ (xs.take n) (ys.take n) = dotZ xs ys := by
  subst h
  have go : ∀ (xs ys : List Int), dotZ (xs.take (min xs.length ys.length)) (ys.take (min xs.length ys.length)) = dotZ xs ys := by
    intro xs
    induction xs with
    | nil => intro ys; simp [dotZ]
    | cons x xs ih =>
      intro ys
      cases ys with
      | nil => simp [dotZ]
      | cons y ys =>
        have e : min (x :: xs).length (y :: ys).length = min xs.length ys.length + 1 := by simp only [List.length_cons]; omega
        rw [e]
        simp only [List.take_succ_cons, dotZ, ih]
  exact go xs ys
section
variable {P : Program} {w : World} {K : PySem.W.Frag} {mg : Str → Option Value} {Φ : Heap → Prop} {D U : Nat}
/-- def code(self, m): total = 0; for e, u in zip(m, self.units): total += e * u; return total -/
theorem pf_dot {x qual at_ vm vt ve vu : Str} {st : Stmt} {f a M L dx C : Addr} {fd : FuncData} {N ps : List Str} {p1 p2 p3 p4 p5 p6 p7 p8 p9 p10 p11 p12 p13 p14 p15 p16 p17 p18 p19 : Pos} {j1 kt : Nat} {vself : Str} {ms uss : List Int}
    (F : Fun K x qual st f fd) (S : FnScope N ps (defScope st)) (Sx : Stay K mg Φ) (hps : ps = [vself, vm])
    (hbody : defBody st = [.Assign [.Name vt p1] (.Constant (.int 0) j1 p2) p3,
      .For (.Tuple [.Name ve p4, .Name vu p5] kt p6) (.Call (.Name "zip" p7) [.Name vm p8, .Attribute (.Name vself p9) at_ p10] [] p11) [.AugAssign (.Name vt p12) .Add (.BinOp (.Name ve p13) .Mult (.Name vu p14) p15) p16] [] p17, .Return (some (.Name vt p18)) p19])
    (hk : ∀ y ∈ [vself, vm, vt, ve, vu], (defScope st).names.lookup y = some .local) (hnd : [vself, vm, vt, ve, vu].Nodup) (hz : (defScope st).names.lookup ("zip" : Str) = some .globalImplicit) (hmz : mg "zip" = none)
    (hdb : ∀ y ∈ [vself, vm, vt, ve, vu], (y == ("__debug__" : Str)) = false) (hD : D + 8 < recursionLimit) (hU : U + 64 < cLine)
    (cl : Cls K C) (na : NoAttr K C at_)
    (hself : ∀ h, Φ h → ∃ mA t, ObjM h a dx C mA ∧ mA at_ = some (.ref t) ∧ t = L)
    (hM : ∀ h, Φ h → ∃ its : List Value, h.IsTuple M its.toArray ∧ PyProof.Rows.IntsAre its ms) (hL : ∀ h, Φ h → ∃ its : List Value, h.IsList L its.toArray ∧ PyProof.Rows.IntsAre its uss)
    (hw : ∀ (i : Nat) (x y : Int), ms[i]? = some x → uss[i]? = some y → CMulW x y) : PuG P w Φ D U f fd ps [.ref a, .ref M] (fun y => ∃ t, y = .int (dotZ ms uss) t) := by
  intro A s args hbb h1 h2 h3 hφ
  obtain ⟨oc, od, kV, doc, pm, an, cdv, ct, osl, rfl, lk, hcd⟩ := F.ex
  have KX : K.In s.heap := Sx.kin _ hφ
  have lim : s.heap.NoLimit := Sx.lim _ hφ
  have hus : ([Value.ref a, Value.ref M] : List Value).length = ps.length := by rw [hps]; rfl
  have kd : ∀ y ∈ [vself, vm, vt, ve, vu], ∀ cenv : Env, cenv.scope = defScope st → cenv.kindOf y = some .local := fun y hy cenv e => by
    show cenv.scope.names.lookup y = _
    rw [e]
    exact hk y hy
  have hkind : ∀ y ∈ ps.zip [Value.ref a, Value.ref M], (defScope st).names.lookup y.1 = some .local ∨ ((defScope st).names.lookup y.1 = some .cell ∧ ((cellsFrom (s.heap.objs.size + 1) (defScope st).names []).lookup y.1).isSome = true) := fun ⟨n, v⟩ hy => by
    rcases S.par n (List.of_mem_zip hy).1 with q | q
    · exact .inl q
    · exact .inr ⟨q, PySem.W.cellsFrom_some _ _ _ (.inl q)⟩
  refine codeAny_call_function (by omega) (KX _ _ lk) rfl S.co S.gen rfl (PySem.W.codeRec_of KX hcd) (hbb _ _ _ _ ?_)
  refine wpAny_newFunctionEnv_cells S.kind hkind fun env hen s1 ic => ?_
  have hsc : env.scope = defScope st := by rw [hen]; rfl
  have hgl : env.globals = mainGlobals := by rw [hen]; rfl
  have hbl : env.builtins = builtinsNs := by rw [hen]; rfl
  have hloc : env.locals = s.heap.objs.size := by rw [hen]; rfl
  refine ⟨lim.keeps ic.toInCall.keep, codeAny_func ?_⟩
  obtain ⟨h1', tk, rfl, hkp⟩ := ic.done
  show wpAny _ _ (execs (defBody st) _) _ _ _
  rw [hbody]
  have m0 : (bindL env.kindOf (ps.zip [Value.ref a, Value.ref M]) fun _ => none) vself = some (.ref a) ∧ (bindL env.kindOf (ps.zip [Value.ref a, Value.ref M]) fun _ => none) vm = some (.ref M) := by
    have nd2 : ps.Nodup := by rw [hps]; exact hnd.sublist (by simp)
    exact ⟨bindL_get (i := 0) nd2 (by rw [hps]; rfl) rfl (kd _ (by simp) env hsc), bindL_get (i := 1) nd2 (by rw [hps]; rfl) rfl (kd _ (by simp) env hsc)⟩
  obtain ⟨m, hm⟩ : ∃ m : Str → Option Value, m = bindL env.kindOf (ps.zip [Value.ref a, Value.ref M]) fun _ => none := ⟨_, rfl⟩
  have hns : h1'.Ns env.locals m := by rw [hm]; exact ic.toInCall.ns
  rw [← hm] at m0
  have F0 : PyProof.Rows.Fr s.heap env.locals h1' m := ⟨hns, hkp, by rw [hloc]; exact Nat.le_refl _⟩
  have ck : (env.scope.kind == .class || (env.scope.kind == .module && env.locals != env.globals)) = false := by rw [hsc, S.kind]; rfl
  have ek : env.scope.kind = .function := by rw [hsc]; exact S.kind
  have ne : ∀ {y z : Str}, y ≠ z → (if z = y then (none : Option Value) else none) = none := fun _ => by split <;> rfl
  have nt : vself ≠ vt ∧ vm ≠ vt ∧ ve ≠ vt ∧ vu ≠ vt ∧ ve ≠ vu ∧ vself ≠ ve ∧ vself ≠ vu ∧ vm ≠ ve ∧ vm ≠ vu := by
    simp only [List.nodup_cons, List.mem_cons, not_or, List.not_mem_nil, not_false_eq_true, and_true, List.nodup_nil] at hnd
    exact ⟨hnd.1.2.1, hnd.2.1.1, fun z => hnd.2.2.1.1 z.symm, fun z => hnd.2.2.1.2 z.symm, hnd.2.2.2, hnd.1.2.2.1, hnd.1.2.2.2, hnd.2.1.2.1, hnd.2.1.2.2⟩
  -- total = 0
  refine wpAny_mono (Q := fun f s' => ∃ t, f = .ret (.int (dotZ ms uss) t) ∧ Keeps s s') (E := fun _ _ => False) ?_ (fun f s' q => ?_) (fun _ _ z => z.elim)
  case refine_2 =>
    obtain ⟨t, rfl, q⟩ := q
    exact ⟨⟨t, rfl⟩, q⟩
  refine wpAny_execs_cons (wpAny_Assign_Name (wpAny_Constant_int (wpAny_storeName_local (kd _ (by simp) env hsc) hns (fun h2 hn2 hs2 => ?_) ck)) rfl)
  have F2 := F0.set hn2 hs2
  have hφ2 : Φ h2 := Sx.up _ _ hφ F2.keep
  have hg2 : h2.Ns mainGlobals mg := Sx.glob _ hφ2
  obtain ⟨mb, b1, b2⟩ := Sx.blt _ hφ2
  have e0 : ∀ tk', ({ s with heap := h2, toks := tk' } : Shared).heap = h2 := fun _ => rfl
  refine wpAny_execs_cons (wpAny_mono (Q := fun f s' => f = .next ∧ ∃ h3 tk3 m3 t3, s' = { s with heap := h3, toks := tk3 } ∧ PyProof.Rows.Fr s.heap env.locals h3 m3 ∧ m3 vt = some (.int (dotZ ms uss) t3)) (E := fun _ _ => False) ?loop (fun f s' q => ?after) (fun _ _ z => z.elim))
  case after =>
    obtain ⟨rfl, h3, tk3, m3, t3, rfl, F3, hv3⟩ := q
    refine wpAny_execs_cons (wpAny_Return_some (wpAny_Name (wpAny_loadName_local ek (kd _ (by simp) env hsc) F3.ns hv3 ?_) (hdb _ (by simp))))
    exact ⟨t3, rfl, h3, tk3, rfl, F3.keep⟩
  case loop =>
    refine PySem.W.For_turns F2 ?_ (hE := PassesOwn.never)
    refine PyProof.Rows.Call_ (Calls.Name_function_global ek (by show env.scope.names.lookup _ = _; rw [hsc]; exact hz) (Calls.loadGlobal_builtin (by rw [hgl]; exact hg2) hmz (by rw [hbl]; exact b1) ((b2 _ (by decide)).trans PyProof.Rows.boot_zip) (PyProof.Rows.callWith_type1 ?_ rfl rfl)))
    show wpAny _ _ (spliced ((false, eval (.Name vm p8) env) :: backTo p11 (starEach [.Attribute (.Name vself p9) at_ p10] env))) _ _ _
    have n2 : ∀ y, y ≠ vt → (fun y => if y = vt then some (Value.int 0 s.toks) else m y) y = m y := fun y q => if_neg q
    refine Calls.spliced_cons (wpAny_Name (wpAny_loadName_local ek (kd _ (by simp) env hsc) hn2 (v := .ref M) ?v1 ?_) (hdb _ (by simp)))
    case v1 => first | exact (if_neg nt.2.1).trans m0.2 | simp [nt.2.1, m0.2]
    refine Calls.spliced_cons (attr_of rfl (wpAny_Name (wpAny_loadName_local ek (kd _ (by simp) env hsc) hn2 (v := .ref a) ?v2 ?_) (hdb _ (by simp))))
    case v2 => first | exact (if_neg nt.1).trans m0.1 | simp [nt.1, m0.1]
    obtain ⟨mA, tL, O, hmA, rfl⟩ := hself _ hφ2
    refine get_map (Sx.kin _ hφ2) O (cl.get _) cl.hd na hmA (handed_of (v := .ref tL) rfl) ?_
    refine Calls.spliced_nil ?_
    obtain ⟨itm, hitm, hims⟩ := hM _ hφ2
    obtain ⟨itl, hitl, hils⟩ := hL _ hφ2
    refine call_zipTL hitm hitl fun h4 z1 z2 z3 z4 z5 z6 k4 => wpAny_pyIter_zip z1 ?_
    have F4 : PyProof.Rows.Fr s.heap env.locals h4 _ := F2.keeps k4
    have lM : M < h2.objs.size := by obtain ⟨o, e, _⟩ := hitm; exact Heap.lt_size e
    have lL : tL < h2.objs.size := by obtain ⟨o, e, _⟩ := hitl; exact Heap.lt_size e
    have lenv : env.locals < h2.objs.size := F2.ns.lt
    have hge : ∀ j : Nat, s.heap.get? (h2.objs.size + j) = none := fun j => Heap.get?_none_of_le (Nat.le_trans F2.above (Nat.le_trans (Nat.le_of_lt lenv) (Nat.le_add_right _ j)))
    have hen4 : ∀ j : Nat, env.locals ≠ h2.objs.size + j := fun j z => by
      have q : (env.locals : Nat) < h2.objs.size := lenv
      rw [z] at q
      exact Nat.lt_irrefl _ (Nat.lt_of_le_of_lt (Nat.le_add_right _ _) q)
    have hnM : env.locals ≠ M := fun z => by
      obtain ⟨o, e1, e2, e3⟩ := hM _ hφ |>.choose_spec.1
      have q := Heap.lt_size e1
      rw [← z, hloc] at q
      exact Nat.lt_irrefl _ q
    have hnL : env.locals ≠ tL := fun z => by
      obtain ⟨o, e1, e2, e3⟩ := hL _ hφ |>.choose_spec.1
      have q := Heap.lt_size e1
      rw [← z, hloc] at q
      exact Nat.lt_irrefl _ q
    have W := PySem.W.KTurns.ofWalksU (elts := [.Name ve p4, .Name vu p5]) (k := kt) (pos := p6) (WalksT.zipD2 (prog := P) (w := w) (A := A.deeper env) (zip_sep lM lL) (Draws.tuple (A := (A.deeper env).in1) h1 _ _ (Nat.ne_of_lt lM) itm.toArray) (Draws.list (A := (A.deeper env).in1) h1 _ _ (Nat.ne_of_lt (Nat.lt_succ_of_lt lL)) itl.toArray)).toU
    refine ⟨h2.objs.size + 4, _, _, _, _, _, _, _, [], fun i m' n' => n' = [] ∧ ∃ t, m' vt = some (.int (dotZ (ms.take i) (uss.take i)) t), rfl, W, ?_, ?_, (fun _ hp => nomatch hp), ?_, F4, PyProof.Rows.News.nil, ⟨rfl, tk, ?_⟩, ?_, ?_⟩
    · intro hh
      have hh' : env.locals = h2.objs.size + 4 ∨ env.locals = h2.objs.size + 2 ∨ env.locals = h2.objs.size + 3 ∨ env.locals = h2.objs.size ∨ env.locals = M ∨ env.locals = h2.objs.size + 1 ∨ env.locals = tL := by simpa using hh
      rcases hh' with z | z | z | z | z | z | z
      · exact hen4 4 z
      · exact hen4 2 z
      · exact hen4 3 z
      · exact hen4 0 z
      · exact hnM z
      · exact hen4 1 z
      · exact hnL z
    · intro b hb'
      have hh' : b = h2.objs.size + 4 ∨ b = h2.objs.size + 3 ∨ b = h2.objs.size ∨ b = h2.objs.size + 1 := by simpa using hb'
      rcases hh' with z | z | z | z
      · rw [z]; exact hge 4
      · rw [z]; exact hge 3
      · rw [z]; exact hge 0
      · rw [z]; exact hge 1
    · exact ⟨z1, z2, ⟨_, _, z3⟩, ⟨z4, hitm.at fun o e => k4 _ o e⟩, ⟨z5, hitl.at fun o e => k4 _ o e⟩⟩
    · simp [dotZ]
    · rintro i v m1 n1 h5 tk5 own hi ⟨T, vals, rfl, ⟨x1, x2, hx1, hx2, rfl⟩, hT⟩ ⟨rfl, t1, hv1⟩ - hown1 hown2 hown3 st5 F5 N5
      have hx1' : itm[i]? = some x1 := by simpa using hx1
      have hx2' : itl[i]? = some x2 := by simpa using hx2
      have li : i < ms.length := by rw [← hims.length]; exact (List.getElem?_eq_some_iff.mp hx1').1
      have li2 : i < uss.length := by rw [← hils.length]; exact (List.getElem?_eq_some_iff.mp hx2').1
      obtain ⟨q1, e1⟩ := hims.get i _ (List.getElem?_eq_getElem li)
      obtain ⟨q2, e2⟩ := hils.get i _ (List.getElem?_eq_getElem li2)
      rw [hx1'] at e1
      rw [hx2'] at e2
      cases e1
      cases e2
      refine wpAny_assign_Tuple (s := { s with heap := h5, toks := tk5 }) h1 hT rfl rfl fun h6 hx6 => ?_
      have old6 : Kp h5 h6 := fun b o e => hx6 b o (Nat.ne_of_lt (Heap.lt_size e)) e
      have F6 := F5.keeps old6
      show wpAny _ _ (do holding [Value.int uss[i] q2] (assign (.Name ve p4) env (Value.int ms[i] q1)); do holding [] (assign (.Name vu p5) env (Value.int uss[i] q2)); pure ()) _ _ _
      refine wpAny_bind (wpAny_holding (wpAny_assign_Name (wpAny_storeName_local (kd _ (by simp) env hsc) F6.ns (fun h7 hn7 hs7 => ?_) ck)))
      have F7 := F6.set hn7 hs7
      refine wpAny_bind (wpAny_holding (wpAny_assign_Name (wpAny_storeName_local (kd _ (by simp) env hsc) hn7 (fun h8 hn8 hs8 => wpAny_pure ?_) ck)))
      have F8 := F7.set hn8 hs8
      have gv : ∀ (y : Str) (g : Str → Option Value), (fun x => if x = vu then some (Value.int uss[i] q2) else if x = ve then some (Value.int ms[i] q1) else g x) y = if y = vu then some (Value.int uss[i] q2) else if y = ve then some (Value.int ms[i] q1) else g y := fun _ _ => rfl
      refine wpAny_execs_cons (wpAny_AugAssign_Name (wpAny_loadName_local ek (kd _ (by simp) env hsc) hn8 (v := .int (dotZ (ms.take i) (uss.take i)) t1) ?w1 ?_))
      case w1 => simp [nt.2.2.1.symm, nt.2.2.2.1.symm, hv1]
      refine wpAny_BinOp (wpAny_Name (wpAny_loadName_local ek (kd _ (by simp) env hsc) hn8 (v := .int ms[i] q1) ?w2 ?_) (hdb _ (by simp)))
      case w2 => simp [nt.2.2.2.2.1]
      refine wpAny_Name (wpAny_loadName_local ek (kd _ (by simp) env hsc) hn8 (v := .int uss[i] q2) ?w3 ?_) (hdb _ (by simp))
      case w3 => simp
      refine PyProof.Rows.mul_int ?_ (hw i _ _ (List.getElem?_eq_getElem li) (List.getElem?_eq_getElem li2)).ok
      refine PyProof.Rows.iadd_int ?_
      refine wpAny_storeName_local (kd _ (by simp) env hsc) hn8 (fun h9 hn9 hs9 => ?_) ck
      have F9 := F8.set hn9 hs9
      refine wpAny_execs_nil ?_
      refine PyProof.Rows.LoopStepU.intro F9 (fun p hp => ?_) (fun p hp => absurd hp (by simp)) ⟨rfl, ?_⟩
      · have hp' : p ∈ own := by simpa using hp
        have q5 := N5 p (by simpa using hp')
        refine ⟨?_, q5.2⟩
        exact (hs9.2 _ q5.2.1).trans ((hs8.2 _ q5.2.1).trans ((hs7.2 _ q5.2.1).trans (old6 _ _ q5.1)))
      · apply Exists.intro
        rw [dot_take i ms uss _ _ (List.getElem?_eq_getElem li) (List.getElem?_eq_getElem li2)]
        exact if_pos rfl
    · rintro h5 tk5 m5 n5 F5 N5 - ⟨-, t5, hv5⟩
      refine ⟨rfl, h5, tk5, m5, t5, rfl, F5, ?_⟩
      rw [hv5]
      congr 2
      refine dot_take_all ms uss _ ?_
      rw [List.size_toArray, List.size_toArray, hims.length, hils.length]
end

/-! ### lambdas without parameters, made and called in one def -/
section
open PySem.Spec PyProof.Rows LamX NdefX
def LamO (f : Addr) (q : Str) (params : Arguments) (body : Expr) (scope : Scope) (cl : List (Str × Addr)) (c' : Addr) : HO :=
  .ext fun h => ∃ pm ctv, h.get? f = some (PySem.W.kla_obj "<lambda>" q params body scope cl pm c' ctv)
variable {X : Cx} {pins : List (Addr × Obj)} {σ : L2.St} {H : Hp} {s : Shared}
theorem inv_lam {q : Str} {params : Arguments} {body : Expr} {scope : Scope} {cl : List (Str × Addr)} {c' : Addr} {pm ctv : Value} {t' : Nat} (I : L2.Inv X pins σ H s) :
    L2.Inv X pins σ (upd H s.heap.objs.size (LamO s.heap.objs.size q params body scope cl c')) { s with heap := s.heap.push (PySem.W.kla_obj "<lambda>" q params body scope cl pm c' ctv), toks := t' } := by
  refine I.laid (a := s.heap.objs.size) (fun b u e => Heap.get?_push_of_some _ e) (Nat.le_refl _) ?_
  have e : (s.heap.push (PySem.W.kla_obj "<lambda>" q params body scope cl pm c' ctv)).get? s.heap.objs.size = some (PySem.W.kla_obj "<lambda>" q params body scope cl pm c' ctv) := Heap.get?_push_size _ rfl
  exact ⟨⟨pm, ctv, e⟩, ⟨_, e⟩, fun h1 h2 ⟨p, t, z⟩ st => ⟨p, t, st _ z⟩⟩
theorem lam_makeT {T : List (Addr × Str)} {c P : Addr} {params : Arguments} {body : Expr} {scope : Scope} {pos : Pos} {E : Value → Shared → Prop} {Q : Value → Shared → Prop} (I : L2.Inv X pins σ H s) (TB : TabB X.base X.mg c P) (hcode : X.env.code = .ref c)
    (hm : (P, X.env.qual ++ "<lambda>") ∈ T) (hu : ∀ p ∈ T, p.1 = P → p.2 = X.env.qual ++ "<lambda>") (hT : Tabs T H) (hdef : defaultsOf params X.env = ([], [])) (hfree : ∀ y ∈ scope.names, y.2 = .free → ∃ c, X.env.cells.lookup y.1 = some c)
    (h : ∀ (f c' : Addr) (H1 : Hp) (s' : Shared), L2.Inv X pins σ H1 s' → ExtN H H1 → (∀ b, H1 b = Option.none → H b = Option.none) → Tabs T H1 → H f = Option.none → H1 f = some (LamO f (X.env.qual ++ "<lambda>") params body scope (cloFrom X.env.cells scope.names []) c') → H1 c' = some (CodeO c' (X.env.qual ++ "<lambda>")) → (∀ b o, b ≠ P → H b = some o → H1 b = some o) → Q (.ref f) s') :
    wpAny (model X.prog X.w) X.A (eval (.Lambda params body scope pos) X.env) Q E s := by
  obtain ⟨ps, hP, ht, ha⟩ := hT _ hm
  refine PySem.W.kla_eval hdef ?_
  have bP : s.heap.BuiltinsAt X.mg P := TB.bm.keeps I.bk
  have hP' : s.heap.get? P = some { cls := .none, data := .fields ps } := I.hok P _ hP
  cases hc : codeAmong pos ps.toList with
  | none =>
    refine PySem.W.kla_makeFunction (mg := X.mg) (c := c) (P := P) (ps := ps) (closure_ok hfree) I.ok.glob (I.mod.glob.keeps I.bk) hcode (TB.code.keeps I.bk) hP' ht hc TB.gP bP fun c' ctv h' tk hx hge hlt hrec htb => ?_
    obtain ⟨c2, oc, vs, t, e2, hoc, hd, hv⟩ := hrec
    cases e2
    have nC : H c' = Option.none := I.hok.fresh hge
    have I1 := inv_table (t' := tk) (more := #[rawInt pos.line, rawInt pos.col, .ref c']) (h' := h') I hP (fun b o hb e => hx b o hb e) htb hge ⟨oc, vs, t, hoc, hd, hv⟩
    have hE : ExtN H (upd (upd H P (.tbl (ps ++ #[rawInt pos.line, rawInt pos.col, .ref c']))) c' (CodeO c' (X.env.qual ++ "<lambda>"))) := fun b o e n => by
      rw [upd_ne (ne_of_none e nC), upd_ne (fun z => n ps (Option.some.inj (e.symm.trans (by rw [z]; exact hP))))]
      exact e
    have eL : (ps ++ #[rawInt pos.line, rawInt pos.col, .ref c']).toList = ps.toList ++ [rawInt pos.line, rawInt pos.col, .ref c'] := by simp
    have T1 : Tabs T (upd (upd H P (.tbl (ps ++ #[rawInt pos.line, rawInt pos.col, .ref c']))) c' (CodeO c' (X.env.qual ++ "<lambda>"))) := fun p hp => by
      by_cases hb : p.1 = P
      · rw [hu p hp hb, hb]
        refine ⟨_, by rw [upd_ne (ne_of_none hP nC), upd_same], by rw [eL]; exact PySem.TriplesOk_snoc _ _ _ _ ht, fun p' cv hcv => ?_⟩
        rw [eL] at hcv
        rcases among_app _ ht hcv with z | z
        · obtain ⟨c0, e1, e2⟩ := ha p' cv z
          exact ⟨c0, e1, hE _ _ e2 codeO_ne⟩
        · exact ⟨c', z, upd_same⟩
      · obtain ⟨ps', a1, a2, a3⟩ := hT p hp
        refine ⟨ps', by rw [upd_ne (ne_of_none a1 nC), upd_ne hb]; exact a1, a2, fun p' cv hcv => ?_⟩
        obtain ⟨c0, e1, e2⟩ := a3 p' cv hcv
        exact ⟨c0, e1, hE _ _ e2 codeO_ne⟩
    have nF := I1.hok.fresh (Nat.le_refl _)
    have I2 := inv_lam (q := X.env.qual ++ "<lambda>") (params := params) (body := body) (scope := scope) (cl := cloFrom X.env.cells scope.names []) (c' := c') (pm := (X.mg "__name__").getD .none) (ctv := ctv) (t' := tk) I1
    refine h h'.objs.size c' _ _ I2 (fun b o e n => ?_) (fun b e => upd_none (upd_none (upd_none e))) (T1.ext fun b o e => ?_) (I.hok.fresh (Nat.le_trans hge (Nat.le_of_lt hlt))) upd_same ?_ (fun b o nb e => ?_)
    · have e1 := hE b o e n
      exact (upd_ne (ne_of_none e1 nF)).trans e1
    · exact (upd_ne (ne_of_none e nF)).trans e
    · exact (upd_ne (Nat.ne_of_lt hlt)).trans upd_same
    · have q1 : (upd (upd H P (.tbl (ps ++ #[rawInt pos.line, rawInt pos.col, .ref c']))) c' (CodeO c' (X.env.qual ++ "<lambda>"))) b = some o := by
        rw [upd_ne (ne_of_none e nC), upd_ne nb]
        exact e
      exact (upd_ne (ne_of_none q1 nF)).trans q1
  | some cv =>
    obtain ⟨c', e, hco⟩ := ha pos cv hc
    subst e
    refine PySem.W.kla_makeFunctionHit (mg := X.mg) (c := c) (P := P) (ps := ps) (closure_ok hfree) I.ok.glob (I.mod.glob.keeps I.bk) hcode (TB.code.keeps I.bk) hP' ht hc bP fun ctv h' tk hx hsz => ?_
    have I1 : L2.Inv X pins σ H { s with heap := h', toks := tk } := I.kept hx
    have nF : H h'.objs.size = Option.none := I1.hok.fresh (Nat.le_refl _)
    have I2 := inv_lam (q := X.env.qual ++ "<lambda>") (params := params) (body := body) (scope := scope) (cl := cloFrom X.env.cells scope.names []) (c' := c') (pm := (X.mg "__name__").getD .none) (ctv := ctv) (t' := tk) I1
    refine h h'.objs.size c' _ _ I2 (fun b o e n => ?_) (fun b e => upd_none e) (hT.ext fun b o e => ?_) nF upd_same ?_ (fun b o _ e => (upd_ne (ne_of_none e nF)).trans e)
    · exact (upd_ne (ne_of_none e nF)).trans e
    · exact (upd_ne (ne_of_none e nF)).trans e
    · exact (upd_ne (ne_of_none hco nF)).trans hco
/-- the reading of a lambda: a new function object, known with its code object -/
def tLam (T : List (Addr × Str)) (q : Str) (params : Arguments) (body : Expr) (scope : Scope) (cl : List (Str × Addr)) : TE := fun _ H Q =>
  Tabs T H ∧ ∀ (f c' : Addr) (H1 : Hp), ExtN H H1 → (∀ b, H1 b = Option.none → H b = Option.none) → Tabs T H1 → H f = Option.none → H1 f = some (LamO f q params body scope cl c') → H1 c' = some (CodeO c' q) → Q (.ref f) H1
theorem pe_lam {T : List (Addr × Str)} {c P : Addr} {params : Arguments} {body : Expr} {scope : Scope} {pos : Pos} (TB : TabB X.base X.mg c P) (hcode : X.env.code = .ref c) (hm : (P, X.env.qual ++ "<lambda>") ∈ T)
    (hu : ∀ p ∈ T, p.1 = P → p.2 = X.env.qual ++ "<lambda>") (L : LamS X.env.scope scope) (hdef : defaultsOf params X.env = ([], []) := by rfl) :
    PE X (.Lambda params body scope pos) (tLam T (X.env.qual ++ "<lambda>") params body scope (cloFrom X.env.cells scope.names [])) := by
  refine ⟨fun pins s σ H Q I h => ?_⟩
  obtain ⟨hT, h⟩ := h
  exact lam_makeT I TB hcode hm hu hT hdef (L.has I.ok) fun f c' H1 s' I1 eN nn T1 f0 f1 c1 _ => ⟨.ref f, H1, I1, rfl, h f c' H1 eN nn T1 f0 f1 c1⟩
/-- fe(), fe an expression that gives such a lambda of the very def -/
theorem pe_callLam {params : Arguments} {body : Expr} {scope : Scope} {k : Nat} {E : L2.St → XK} {tb : XK → TE} {fe : Expr} {tf : TE} {p2 : Pos} (L : LamS X.env.scope scope) (hf : PE X fe tf)
    (hbind : ∀ c' pm ctv, bindArgs (PySem.W.kla_fn "<lambda>" (X.env.qual ++ "<lambda>") params body scope (cloFrom X.env.cells scope.names []) pm (.ref c') ctv) ⟨[], []⟩ = pure [])
    (hx : ∀ σ, PassesAt (L2.CX X.prog X.w) X σ (E σ)) (hr : Room (k + 1) X.A)
    (hbody : ∀ (E0 : XK) (A : Around) (outer : List Env) (s : Shared) (H : Hp) (f c' : Addr), Room k (A.deeper (lamEnv X scope s.heap.objs.size f c')) → PE (lamCx X A outer s H E0 scope f c') body (tb E0))
    (he : eval (fe.Call [] [] p2) X.env = (do
      let f ← eval fe X.env
      callWith p2 f [] (backTo p2 (starEach [] X.env)) (backToKw p2 (keywordEach [] X.env))) := by rfl) :
    PE X (.Call fe [] [] p2) (fun σ H Q => tf σ H fun x H1 => ∃ f c', x = .ref f ∧ H1 f = some (LamO f (X.env.qual ++ "<lambda>") params body scope (cloFrom X.env.cells scope.names []) c') ∧ H1 c' = some (CodeO c' (X.env.qual ++ "<lambda>")) ∧ tb (E σ) σ H1 Q) := by
  refine ⟨fun pins s σ H Q I h => ?_⟩
  refine PyProof.Rows.Call_ (thn (hf.run pins s σ H _ I h) fun u s1 hh => ?_) he
  obtain ⟨x, H1, I1, r1, f, c', ex, ef, ec, ht⟩ := hh
  subst ex
  obtain rfl : u = Value.ref f := r1
  obtain ⟨⟨pm, ctv, of1⟩, _, _⟩ := I1.hok f _ ef
  refine PySem.W.callWith_F0 ⟨_, _, _, _, of1⟩ ?_
  obtain ⟨⟨oc, vs, t, hoc, hdc, hvc⟩, _, _⟩ := I1.hok c' _ ec
  have rc : codeAny (model X.prog X.w) X.A (.call (.ref f) ⟨[], []⟩) (CR (L2.CX X.prog X.w) X.stack X.prog X.w H1 s1 Q (E σ)) s1 := by
    refine PySem.W.kla_callFunE hr.depth of1 rfl L.co L.gen rfl ⟨c', oc, vs, t, rfl, hoc, hdc, hvc⟩ ?_
    rw [hbind]
    refine wpAny_pure (wpAny_newFunctionEnv (fun y hy => (L.own y hy).2) (fun y hy => absurd hy (by simp)) (fun h₁ hns hsb => ⟨I1.nolimit.fresh _ hsb, ?_⟩) L.kind)
    show codeAny _ _ (.expr body (lamEnv X scope s1.heap.objs.size f c')) _ _
    have kp : ∀ b o, s1.heap.get? b = some o → h₁.get? b = some o := fun b o e => hsb.extBut b o (Nat.ne_of_lt (Heap.lt_size e)) (Heap.get?_push_of_some _ e)
    have J : L2.Inv (lamCx X X.A X.stack s1 H1 (E σ) scope f c') [] σ H1 { s1 with heap := h₁, toks := s1.toks + ([] : List (Str × Value)).length } :=
      lam_start2 I1 L I1.env0 hr.hd Un.refl hns kp
    refine PySem.W.kla_codeExpr (wpAny_mono ((hbody (E σ) _ _ s1 H1 f c' (hr.deeper _)).run [] _ _ H1 Q J ht) (fun v s' hq => ?_) fun e s' hq => hq)
    obtain ⟨w', H', J', rv, q⟩ := hq
    exact ⟨w', H', J'.os, J'.bare, J'.base, J'.hok, rv, q⟩
  refine wpAny_call (codeAny_mono rc fun r s' hq => ?_)
  cases r with
  | error e => exact hx σ pins H1 s1 e s' I1 hq
  | ok fl =>
    cases fl with
    | ret u => exact I1.after hq
    | next => exact False.elim hq
    | brk => exact False.elim hq
    | cont => exact False.elim hq
end

/-! ### sorted(xs, key=lambda m: o.f(m)), o a captured name -/
section
open PySem.Spec PyProof.Rows LamX NdefX
variable {P : Program} {w : World} {K : PySem.W.Frag} {mg : Str → Option Value} {Φ : Heap → Prop} {cenv : Env} {m : Str → Option Value} {D U : Nat}
theorem pu_free {x : Str} {u : Value} {c : Addr} {pos : Pos} (ev : PuEnv cenv) (hx : cenv.scope.names.lookup x = some .free) (hc : cenv.cells.lookup x = some c) (hv : ∀ h, Φ h → h.IsCell c (some u)) (hn : (x == ("__classdict__" : Str)) = false := by decide)
    (hd : (x == ("__debug__" : Str)) = false := by decide) : PuE P w Φ cenv m D U (.Name x pos) (· = u) :=
  fun A E s _ _ _ hf _ => wpAny_Name (wpAny_loadName_free ev.kind (show cenv.scope.names.lookup x = some .free from hx) hc (hv _ hf) ⟨rfl, keeps0 s s.toks⟩ hn) hd
/-- o.f(args) -/
theorem pu_meth {o e : Expr} {es : List Expr} {at_ : Str} {apos pos : Pos} {pl : Sem Bool} {a C g : Addr} {R : Value → Prop} {Rs : List Value → Prop} (S : Stay K mg Φ) (ho : PuE P w Φ cenv m D U o (· = .ref a)) (cl : Cls K C) (hm : Meth K C at_ g)
    (hobj : ∀ h, Φ h → ∃ dx mA, ObjM h a dx C mA ∧ mA at_ = none) (ha : PuA P w Φ cenv m D U (e :: es) Rs) (hf : ∀ us, Rs us → PuF P w Φ D U g (.ref a :: us) R)
    (he : starEach (e :: es) cenv = (false, eval e cenv) :: starEach es cenv := by rfl) (hpl : (backTo pos (starEach es cenv)).any (·.1) = false := by rfl)
    (ht : eval (.Call (.Attribute o at_ apos) (e :: es) [] pos) cenv = (do
      let ov ← eval o cenv
      standAt apos.atName
      let (fv, first) ← holding [ov] (getMethod ov at_ pl)
      callWith pos fv first (backTo pos (starEach (e :: es) cenv)) (backToKw pos (keywordEach [] cenv))) := by rfl) :
    PuE P w Φ cenv m D U (.Call (.Attribute o at_ apos) (e :: es) [] pos) R := by
  intro A E s h1 h2 h3 hφ hn
  refine PySem.W.methodCall_KW (pl := pl) (wpAny_mono (ho A E s h1 h2 h3 hφ hn) (fun u s1 r => ?_) fun _ _ z => z) ht
  obtain ⟨rfl, k1⟩ := r
  have hφ1 := S.up _ _ hφ (keepsH k1)
  obtain ⟨dx, mA, O, hno⟩ := hobj _ hφ1
  refine get_meth (S.kin _ hφ1) O (cl.get at_) hm.at_ hm.fn hno ?_
  refine PySem.W.callWith_K (first := [.ref a]) (h₀ := s1.heap) (S.kin _ hφ1) hm.kp (wpAny_mono (ha pos A E s1 h1 h2 h3 hφ1 (hn.at' fun o e => keepsH k1 _ o e)) (fun us s2 r => ?_) fun _ _ z => z) he hpl
  have hφ2 := S.up _ _ hφ1 (keepsH r.2)
  refine ⟨S.kin _ hφ2, wpAny_call (codeAny_mono (hf us r.1 A s2 h1 h2 h3 hφ2) fun rr s3 q => ?_)⟩
  cases rr with
  | error e => exact False.elim q
  | ok fl =>
    cases fl with
    | ret u => exact ⟨q.1, keepsT k1 (keepsT r.2 q.2)⟩
    | next => exact False.elim q
    | brk => exact False.elim q
    | cont => exact False.elim q
/-- a lambda of one parameter -/
theorem pf_lam1 {f c' : Addr} {q x : Str} {params : Arguments} {body : Expr} {scope : Scope} {cl : List (Str × Addr)} {u : Value} {R : Value → Prop} (S : Stay K mg Φ)
    (hf : ∀ h, Φ h → ∃ pm ctv, h.get? f = some (PySem.W.kla_obj "<lambda>" q params body scope cl pm c' ctv)) (hc : ∀ h, Φ h → ∃ (oc : Obj) (vs : Array Value) (t : Tok), h.get? c' = some oc ∧ oc.data = .fields vs ∧ vs[1]? = some (.str q t))
    (hk : scope.kind = .function) (hco : scope.isCoroutine = false) (hgen : scope.isGenerator = false) (hcell : ∀ y ∈ scope.names, y.2 ≠ .cell) (hx : scope.names.lookup x = some .local)
    (hbind : ∀ pm ctv, bindArgs (PySem.W.kla_fn "<lambda>" q params body scope cl pm (.ref c') ctv) ⟨[u], []⟩ = pure [(x, u)]) (hD : D < recursionLimit)
    (he : ∀ env : Env, PuEnv env → env.scope = scope → env.cells = cl → PuE P w Φ env (fun y => ([(x, u)] : List (Str × Value)).reverse.lookup y) (D + 1) (U + 3) body R) : PuF P w Φ D U f [u] R := by
  intro A s h1 h2 h3 hφ
  obtain ⟨pm, ctv, of1⟩ := hf _ hφ
  obtain ⟨oc, vs, t, hoc, hdc, hvc⟩ := hc _ hφ
  refine PySem.W.kla_callFunE (Nat.lt_of_le_of_lt h2 hD) of1 rfl hco hgen rfl ⟨c', oc, vs, t, rfl, hoc, hdc, hvc⟩ ?_
  rw [hbind]
  refine wpAny_pure (wpAny_newFunctionEnv hcell (fun y hy => by rw [List.mem_singleton] at hy; subst hy; exact hx) (fun h₁ hns hsb => ⟨(S.lim _ hφ).fresh _ hsb, ?_⟩) hk)
  have kp : Kp s.heap h₁ := fun b o e => hsb.extBut b o (Nat.ne_of_lt (Heap.lt_size e)) (Heap.get?_push_of_some _ e)
  refine PySem.W.kla_codeExpr (wpAny_mono (he _ ⟨hk, rfl, rfl⟩ rfl rfl _ _ { s with heap := h₁, toks := s.toks + ([(x, u)] : List (Str × Value)).length } h1 (by show A.depth + 1 ≤ D + 1; omega) (by show A.units + 3 ≤ U + 3; omega) (S.up _ _ hφ kp) hns) (fun v s' hq => ?_) fun e s' hq => hq)
  exact ⟨hq.1, keepsT ⟨h₁, _, rfl, kp⟩ hq.2⟩
variable {X : Cx}
/-- the reading of a lambda: all but its def's table stays -/
def tLamF (Pt : Addr) (T : List (Addr × Str)) (q : Str) (params : Arguments) (body : Expr) (scope : Scope) (cl : List (Str × Addr)) : TE := fun _ H Q =>
  Tabs T H ∧ ∀ (f c' : Addr) (H1 : Hp), (∀ b o, b ≠ Pt → H b = some o → H1 b = some o) → ExtN H H1 → Tabs T H1 → H1 f = some (LamO f q params body scope cl c') → H1 c' = some (CodeO c' q) → Q (.ref f) H1
theorem pe_lamF {T : List (Addr × Str)} {c Pt : Addr} {params : Arguments} {body : Expr} {scope : Scope} {pos : Pos} (TB : TabB X.base X.mg c Pt) (hcode : X.env.code = .ref c) (hm : (Pt, X.env.qual ++ "<lambda>") ∈ T)
    (hu : ∀ p ∈ T, p.1 = Pt → p.2 = X.env.qual ++ "<lambda>") (hfree : ∀ y ∈ scope.names, y.2 = .free → X.env.kindOf y.1 = some .cell ∨ X.env.kindOf y.1 = some .free) (hdef : defaultsOf params X.env = ([], []) := by rfl) :
    PE X (.Lambda params body scope pos) (tLamF Pt T (X.env.qual ++ "<lambda>") params body scope (cloFrom X.env.cells scope.names [])) := by
  refine ⟨fun pins s σ H Q I ⟨hT, h⟩ => ?_⟩
  exact lam_makeT I TB hcode hm hu hT hdef (fun y hy e => I.ok.has _ (hfree y hy e)) fun f c' H1 s' I1 eN nn T1 f0 f1 c1 kb => ⟨.ref f, H1, I1, rfl, h f c' H1 kb eN T1 f1 c1⟩
/-- the key's plain promise, in any state that the call may see -/
def KeyF (X : Cx) (σ : L2.St) (H : Hp) (f : Addr) (bs : List (V × Int)) : Prop :=
  ∀ (Φ : Heap → Prop) (pins : List (Addr × Obj)) (t1 : Shared), Stay X.K X.mg Φ → L2.Inv X pins σ H t1 → (∀ h, Φ h → Kp t1.heap h) → ∀ b ∈ bs, ∀ u, RelV b.1 u → PuF X.prog X.w Φ X.A.depth (X.A.units + 2) f [u] (fun y => ∃ t, y = .int b.2 t)
def tSortF (X : Cx) (te tl : TE) : TE := fun σ H Q => tCons te tNil σ H fun vs H1 => tCons tl tNil σ H1 fun zs H2 => ∃ (a f : Addr) (bs : List (V × Int)), vs = [.ref a] ∧ zs = [.ref f] ∧ SqL X.K H2 a (bs.map (·.1)) ∧ KeyF X σ H2 f bs ∧
  ∀ p, H2 p = none → Q (.ref p) (upd H2 p (.lst ((bs.mergeSort (PySem.W.dataLe false fun b => .int b.2)).map (·.1))))
theorem pe_sortF {e fe : Expr} {te tl : TE} {p pos kpos : Pos} {k : Nat} (hr : Room k X.A) (hg : Gl X "sorted") (hm : X.mg "sorted" = none) (hv : bootBuiltins "sorted" = some (.builtin "sorted")) (he : PE X e te) (hl : PE X fe tl)
    (q0 : starEach [e] X.env = (false, eval e X.env) :: starEach [] X.env := by rfl)
    (q1 : backTo pos (starEach [e] X.env) = (false, eval e X.env) :: backTo pos (starEach [] X.env) := by rfl) (q2 : (backTo pos (starEach [e] X.env)).any (·.1) = false := by rfl)
    (q3 : (backToKw pos (keywordEach [⟨some "key", fe, kpos⟩] X.env)).all (·.1.isSome) = true := by rfl) (q4 : (backToKw pos (keywordEach [⟨some "key", fe, kpos⟩] X.env)).any (·.1.isNone) = false := by rfl)
    (q5 : (backToKw pos (keywordEach [⟨some "key", fe, kpos⟩] X.env)).filterMap (·.1) = [Str.ofString "key"] := by rfl) :
    PE X (.Call (.Name "sorted" p) [e] [⟨some "key", fe, kpos⟩] pos) (tSortF X te tl) := by
  refine ⟨fun pins s σ H Q I h => wpAny_Call_Name_kw (ld_blt I hg hm hv ?_)⟩
  have ha := pa_cons (X := X) he pa_nil q0
  have hk := pk_cons (X := X) (nm := some "key") (kpos := kpos) hl pk_nil
  refine PyProof.Rows.callWith_kw (thn (ha.run pos pins s σ H _ I h) fun us s1 ⟨vs, H1, I1, r1, h1⟩ => thn (hk.run pos pins s1 σ H1 _ I1 h1) fun ws s2 ⟨zs, H2, I2, r2, a, f, bs, ev, ez, hs, hf, q⟩ => ?_) q1 q2 q3 q4
  rw [q5]
  subst ev ez
  obtain rfl := Vals.ref1 r1
  obtain ⟨w1, rfl, e1⟩ := vals1 r2
  obtain rfl : w1 = Value.ref f := e1
  obtain ⟨its, rv, hli, hz⟩ := I2.list hs
  have e := each_of (g := fun b : V × Int => b.1) rv
  have hzb : bs.length ≤ sizeLine := by rw [List.length_map] at hz; exact hz
  have St := stay_all (h1 := s2.heap) I2.mod fun b o q => I2.bk b o q
  refine PySem.W.sorted_key_data (R := fun v (b : V × Int) => RelV b.1 v) (b := false) (f := .ref f) (kw := [(Str.ofString "key", .ref f)]) (fun b => .int b.2) hli.isList e (alike_ints _ bs) (sortable_ints _ bs) hzb (fun b hb => ?_) (PyProof.Rows.ksk_s1 _ _) (fun _ => PyProof.Rows.ksk_l1 _ _) (fun x => PyProof.Rows.ksk_t1 _ _) (fun v b rr hb h tk hk2 => ?_) fun out c h' tk hk2 hfr hat hol ho => ?_
  · have := hr.units
    show X.A.units + 2 + (PyData.int b.2).depth < cLine
    simp only [PyData.depth]
    omega
  · refine wpAny_call (codeAny_mono (hf _ pins s2 St I2 (fun h q => q) b hb v rr X.A.in1.in1 { s2 with heap := h, toks := tk } hr.hd (Nat.le_refl _) (Nat.le_refl _) hk2) fun rr s3 w1 => ?_)
    cases rr with
    | error e => exact False.elim w1
    | ok fl =>
      cases fl with
      | ret y =>
        obtain ⟨⟨t, rfl⟩, h2, tk2, e2, k2⟩ := w1
        exact ⟨h2, tk2, e2, k2, .int _ _⟩
      | next => exact False.elim w1
      | brk => exact False.elim w1
      | cont => exact False.elim w1
  · have hlen : ((bs.mergeSort (PySem.W.dataLe false fun b => .int b.2)).map (·.1)).length ≤ sizeLine := by rw [List.length_map, (List.mergeSort_perm _ _).length_eq]; exact hzb
    exact ⟨.ref _, _, I2.laid (t' := tk) (o := .lst ((bs.mergeSort (PySem.W.dataLe false fun b => .int b.2)).map (·.1))) hk2 (Nat.le_succ _) ⟨hlen, out, c, vals_of_each ho, hat⟩, rfl, q _ (I2.hok.fresh (Nat.le_succ _))⟩
end

/-! ### generator expressions whose element is read in full: the element may call, make and walk what it likes -/
section
open PySem.Spec PyProof.Rows GenW
/-- the context of a generator expression's element; B: the around of its frame -/
abbrev gxCx (X : Cx) (B : Around) (s : Shared) (H : Hp) (cenv : Env) (ys : List Str) (fp : List Addr) (pn : List (Addr × Obj)) : Cx :=
  { X with A := B, N := X.N ++ ys, s_0 := s, H_0 := H, env := cenv, outer := X.stack, stack := cenv :: X.stack, ex := fp, fn := fun _ => false, calm := true, pn := pn, xe := fun _ _ => False }
/-- the names of a generator expression's scope: its own are new, the others captured -/
structure GxOk (N : List Str) (sc scope : Scope) (own : List (Str × Nat)) : Prop where
  kind : scope.kind = .function
  co : scope.isCoroutine = false
  cell : ∀ y ∈ scope.names, y.2 ≠ .cell
  dot : scope.names.lookup (".0" : Str) = some NameKind.local
  free : ∀ y ∈ scope.names, y.2 = .free → sc.names.lookup y.1 = some .cell ∨ sc.names.lookup y.1 = some .free
  ix : ∀ p ∈ own, N[p.2]? = some p.1
  own : ∀ y ∈ scope.names, y.2 = .local → y.1 ∈ own.map (·.1) ∨ y.1 ∉ N
def gxC (N : List Str) (sc scope : Scope) (own : List (Str × Nat)) : Bool :=
  (match scope.kind with | .function => true | _ => false) && !scope.isCoroutine && decide (scope.names.lookup (".0" : Str) = some NameKind.local) && (own.all fun p => decide (N[p.2]? = some p.1)) &&
    (scope.names.all fun y => match y.2 with
      | .free => (match sc.names.lookup y.1 with | some .cell => true | some .free => true | _ => false)
      | .local => decide (y.1 ∈ own.map (·.1)) || decide (y.1 ∉ N)
      | .cell => false
      | _ => true)
theorem gxOk_by {N : List Str} {sc scope : Scope} {own : List (Str × Nat)} (h : gxC N sc scope own = true) : GxOk N sc scope own := by
  unfold gxC at h
  simp only [Bool.and_eq_true, List.all_eq_true, decide_eq_true_eq, Bool.not_eq_true'] at h
  obtain ⟨⟨⟨⟨h1, h2⟩, h3⟩, h5⟩, h4⟩ := h
  refine ⟨?_, h2, fun y hy e => ?_, h3, fun y hy e => ?_, h5, fun y hy e => ?_⟩
  · split at h1
    · assumption
    · cases h1
  · have q := h4 y hy
    simp only [e] at q
    cases q
  · have q := h4 y hy
    simp only [e] at q
    split at q <;> first | exact .inl (by assumption) | exact .inr (by assumption) | cases q
  · have q := h4 y hy
    simp only [e, Bool.or_eq_true, decide_eq_true_eq] at q
    exact q
variable {X : Cx} {pins : List (Addr × Obj)} {σ : L2.St} {H : Hp} {s : Shared}
theorem over_gen {A : Around} {elt : Expr} {gs : List Comprehension} {scope : Scope} {pos : Pos} {it acc : Value} {cenv : Env} : A.over (.compLoop (.GeneratorExp elt gs scope pos) 0 it acc cenv) [] = A.deeper cenv := by
  first
    | rfl
    | (obtain ⟨hd, d, fr, gs, u⟩ := A; simp [Around.over, Around.deeper, marksOver, frameCount, unitsOf, envsOf, guardsOf, pushEnvs, pushGuards, Code.envs, Code.env?, Code.isFrame, Code.guards, Code.isGuard, Code.weight, Code.frames, Code.isCreation, Code.isCaller, Code.cUnits])
theorem gx_start {scope : Scope} {ys : List Str} {fp : List Addr} {B : Around} {C a bi : Addr} {code : Value} {go : Obj} {m : Str → Option Value} {H' : Hp} {s' : Shared} {own : List (Str × Nat)} {vs : List Nat} (I : Inv X pins σ H s) (ok : GxOk X.N X.env.scope scope own) (hN : X.N.Nodup) (hvs : ∀ p ∈ own, p.2 ∈ vs)
    (hbi : bi = builtinsNs) (hB : B.handled = none) (hfr : B.frames = some (genEnv scope (cloFrom X.env.cells scope.names []) C code bi X.env :: X.stack)) (hfp : ∀ b ∈ fp, FpOk X pins H b ∧ b < s.heap.objs.size)
    (hos : s'.os = s.os) (hg : AllBare s'.gens) (un : Un (frs X.stack) fp H H' s.heap s'.heap) (hok : HOk X.prog X.w H' s'.heap) (hC : s.heap.objs.size ≤ C) (hCn : H' C = none) (hns : s'.heap.Ns C m)
    (ha : s'.heap.get? a = some go) (ha0 : s.heap.objs.size ≤ a) (haC : a ≠ C) (haN : H' a = none) (hgo : ∀ v, go.data ≠ .cell v) (hkc : ∀ c v, s.heap.IsCell c v → H c = none → c ∉ fp → s'.heap.IsCell c v) :
    Inv (gxCx X B s H (genEnv scope (cloFrom X.env.cells scope.names []) C code bi X.env) ys fp [(a, go)]) [] (wipe (σ ++ List.replicate ys.length none) vs) H' s' := by
  subst hbi
  have hfree : ∀ y ∈ scope.names, y.2 = .free → ∃ c, X.env.cells.lookup y.1 = some c := fun y hy e => by
    rcases ok.free y hy e with k | k
    · exact I.ok.has _ (.inl k)
    · exact I.ok.has _ (.inr k)
  have cm : ∀ {y c}, (y, c) ∈ cloFrom X.env.cells scope.names [] → X.env.cells.lookup y = some c ∧ c < s.heap.objs.size := fun {y c} hm => by
    rcases cloFrom_mem hm with hm | ⟨h1, rfl⟩
    · cases hm
    · obtain ⟨c, hc⟩ := hfree _ h1 rfl
      rw [hc]
      obtain ⟨w, z⟩ := I.cell _ _ hc
      exact ⟨rfl, z.lt⟩
  have look : ∀ {y}, scope.names.lookup y = some .free → ∃ c, (cloFrom X.env.cells scope.names []).lookup y = some c ∧ X.env.cells.lookup y = some c := fun {y} hl => by
    obtain ⟨c', e'⟩ := mem_lookup (cloFrom_has (cells := X.env.cells) (acc := []) (PySem.mem_of_lookup hl))
    exact ⟨c', e', (cm (PySem.mem_of_lookup e')).1⟩
  have cellK : ∀ {y c}, (cloFrom X.env.cells scope.names []).lookup y = some c → ∀ v, s.heap.IsCell c v → s'.heap.IsCell c v := fun {y c} e v z =>
    hkc c v z (I.freeC _ _ (cm (PySem.mem_of_lookup e)).1) fun hb => (hfp c hb).1.2.2.2.2.1 _ _ (cm (PySem.mem_of_lookup e)).1 rfl
  have okB : (gxCx X B s H (genEnv scope (cloFrom X.env.cells scope.names []) C code builtinsNs X.env) ys fp [(a, go)]).Ok := by
    refine ⟨I.ok.mod, ok.kind, I.ok.glob, rfl, hC, fun y z c e1 e2 => I.ok.inj y z c (cm (PySem.mem_of_lookup e1)).1 (cm (PySem.mem_of_lookup e2)).1, fun y hy => ?_, fun y c z e => absurd z (by simp), fun _ => hB, hfr, .inr ⟨rfl, rfl⟩,
      fun b hb => ⟨Nat.ne_of_lt (Nat.lt_of_lt_of_le (hfp b hb).2 hC), fun y c e z => (hfp b hb).1.2.2.2.2.1 y c (cm (PySem.mem_of_lookup e)).1 z⟩, I.bs, Nat.le_trans I.ok.bsz I.sz, fun b o e hb => ?_, fun b hb z => ?_, I.stack, I.stkFree⟩
    · rcases hy with hy | hy
      · exact absurd rfl (ok.cell _ (PySem.mem_of_lookup (show scope.names.lookup y = some .cell from hy)))
      · obtain ⟨c, h1, _⟩ := look (show scope.names.lookup y = some .free from hy)
        exact ⟨c, h1⟩
    · rcases (hfp b hb).1.2.2.2.1 with z | z
      · exact I.ok.noex b o e z
      · exact absurd (Nat.lt_of_lt_of_le (Heap.lt_size e) (Nat.le_trans I.ok.bsz z)) (Nat.lt_irrefl _)
    · rcases List.mem_cons.mp (I.stkSub b z) with z | z
      · exact (hfp b hb).1.2.1 z
      · exact (hfp b hb).1.2.2.1 z
  refine ⟨okB, hos, hg, un, ⟨m, hns, fun i y v e1 e2 e3 => ?_⟩, fun y c e => ?_, hCn, fun y c e => ?_, fun p hp => ?_, hok, ?_⟩
  · obtain ⟨e2, hiv⟩ := wipe_some e2
    have hi : i < σ.length := by
      by_cases hi : i < σ.length
      · exact hi
      · rw [List.getElem?_append_right (by omega), List.getElem?_replicate] at e2
        split at e2 <;> cases e2
    rw [List.getElem?_append_left hi] at e2
    have e1 : (X.N ++ ys)[i]? = some y := e1
    rw [List.getElem?_append_left (by rw [← I.len]; exact hi)] at e1
    have hfr' : scope.names.lookup y = some .free := by
      rcases (show Vis scope y from e3) with e | e | e
      · rcases ok.own _ (PySem.mem_of_lookup e) rfl with z | z
        · obtain ⟨p, hp, hpy⟩ := List.mem_map.mp z
          have e4 := ok.ix p hp
          rw [show p.1 = y from hpy] at e4
          rw [nodup_ix hN e1 e4] at hiv
          exact absurd (hvs p hp) hiv
        · exact absurd (List.mem_of_getElem? e1) z
      · exact absurd rfl (ok.cell _ (PySem.mem_of_lookup e))
      · exact e
    obtain ⟨m0, hn, hl⟩ := I.loc
    have hvis : Vis X.env.scope y := (ok.free _ (PySem.mem_of_lookup hfr') rfl).elim (fun k => .inr (.inl k)) (fun k => .inr (.inr k))
    obtain ⟨u, r, q⟩ := hl i y v e1 e2 hvis
    refine ⟨u, r, .inr ⟨.inr hfr', ?_⟩⟩
    obtain ⟨c, h1, h2⟩ := look hfr'
    rcases q with ⟨k, _⟩ | ⟨_, c', e', z⟩
    · have k : X.env.scope.names.lookup y = some .local := k
      rcases ok.free _ (PySem.mem_of_lookup hfr') rfl with k' | k' <;> rw [show X.env.scope.names.lookup y = _ from k'] at k <;> cases k
    · rw [h2] at e'
      cases e'
      exact ⟨c, h1, cellK h1 _ z⟩
  · obtain ⟨v, z⟩ := I.cell _ _ (cm (PySem.mem_of_lookup e)).1
    exact ⟨v, cellK e v z⟩
  · have h1 := (cm (PySem.mem_of_lookup e)).1
    obtain ⟨v, z⟩ := I.cell _ _ h1
    obtain ⟨oc, hoc, _⟩ := z
    exact un.free c oc hoc (I.freeC _ _ h1) fun hb => (hfp c hb).1.2.2.2.2.1 _ _ h1 rfl
  · have e : p = (a, go) := by
      have q : p ∈ [(a, go)] ++ ([] : List (Addr × Obj)) := hp
      simpa using q
    subst e
    refine ⟨ha, haN, haC, fun z => ?_, hgo⟩
    have := I.stack.mem z
    obtain ⟨_, o, ho, _⟩ := this
    exact absurd (Nat.lt_of_lt_of_le (Heap.lt_size ho) ha0) (Nat.lt_irrefl _)
  · show _ = (X.N ++ ys).length
    rw [wipe_length, List.length_append, List.length_append, List.length_replicate, I.len]
end
/-! the walk of a generator expression that hands out bools -/
section
open PySem.Spec PyProof.Rows GenW
/-- the end of the generator's run: nothing is left -/
def gxR (X' : Cx) (σ : L2.St) (Fi : Hp → Prop) : GenEnd := fun _ _ r s1 => r = .ok .next ∧ ∃ H', Inv X' [] σ H' s1 ∧ Fi H'
/-- a bool is handed out; c: the bool that stops the walk -/
def gxY (X' : Cx) (σ : L2.St) (c : Bool) (Fl : Hp → Prop) : Protocol := fun _ _ v s kap =>
  ∃ (b : Bool) (H' : Hp), v = .bool b ∧ Inv X' [] σ H' s ∧ (b = c → Fl H') ∧ (b = !c → ∀ s'' : Shared, s''.heap = s.heap → s''.os = s.os → AllBare s''.gens → kap (.send .none) s'')
/-- another state with the same heap -/
theorem inv_same {X' : Cx} {pins : List (Addr × Obj)} {σ : L2.St} {H : Hp} {s s' : Shared} (I : Inv X' pins σ H s) (h : s'.heap = s.heap) (o : s'.os = s.os) (g : AllBare s'.gens) : Inv X' pins σ H s' := by
  refine I.call' (ch := []) o ?_ (by rw [h]; exact I.hok) g (fun b z => absurd z (by simp))
  rw [h]
  exact Un.refl
/-- a turn of the walk: W by the turn and a measure -/
def GxTurn (J : It) (g : TG) (te : TE) (σ : L2.St) (vs : List Nat) (c : Bool) (Fi Fl : Hp → Prop) (W : Nat → Nat → Hp → Prop) : Prop := ∀ i m H, W i m H →
  (J.stop i H ∧ Fi H) ∨ (J.go i H ∧ ∃ Nx : Hp → Prop, (∀ H', Nx H' → ∃ m', m' < m ∧ W (i + 1) m' H') ∧ ∀ x H', J.yld i H x H' → g x σ H' fun σ2 H2 => wipe σ2 vs = σ ∧ te σ2 H2 fun y H3 => ∃ b, y = .bl b ∧ (b = c → Fl H3) ∧ (b = !c → Nx H3))
section
variable {X' : Cx} {B0 : Around} {σ : L2.St} {vs : List Nat} {c : Bool} {Fi Fl : Hp → Prop} {W : Nat → Nat → Hp → Prop} {elt tg iter : Expr} {scope : Scope} {pos : Pos} {it : Addr} {fp : List Addr} {tn : Nat → Heap → Prop} {J : It} {g : TG} {te : TE} {k : Nat}
theorem weak_wipe {vs : List Nat} {pins : List (Addr × Obj)} {σ2 : L2.St} {H : Hp} {s : Shared} (hl : σ.length = X'.N.length) (I : Inv X' pins σ2 H s) (h : wipe σ2 vs = σ) : Inv X' pins σ H s := by
  refine I.weak (hl.trans I.len.symm) fun j v e => ?_
  rw [← h] at e
  exact (wipe_some e).1
theorem seg_gx (hA : X'.A = B0.over (.compLoop (.GeneratorExp elt [⟨tg, iter, [], 0⟩] scope pos) 0 (.ref it) .none X'.env) []) (hco : X'.env.scope.isCoroutine = false) (hcalm : X'.calm = true) (hxe : X'.xe = fun _ _ => False) (hex : X'.ex = fp)
    (hpn : ∀ p ∈ X'.pn, ∀ b ∈ fp, p.1 ≠ b) (T : Turn X'.prog X'.w X'.K tg J fp it tn) (hg : PG X' tg g) (he : PE X' elt te) (hl : σ.length = X'.N.length) (turn : GxTurn J g te σ vs c Fi Fl W) :
    ∀ (n i m : Nat) (s₀ s : Shared) (H : Hp), m < n → Inv X' [] σ H s → tn i s.heap → (∀ b ∈ fp, H b = none) → W i m H →
      Seg (model X'.prog X'.w) B0 (gxR X' σ Fi) (gxY X' σ c Fl) n s₀ (.compLoop (.GeneratorExp elt [⟨tg, iter, [], 0⟩] scope pos) 0 (.ref it) .none X'.env)
        ((model X'.prog X'.w).den (.compLoop (.GeneratorExp elt [⟨tg, iter, [], 0⟩] scope pos) 0 (.ref it) .none X'.env)) [] s := by
  have stat : ∀ {σ' : L2.St} {H' : Hp} {s' : Shared}, Inv X' [] σ' H' s' → (∀ b ∈ fp, H' b = none) → ∀ b ∈ fp, FpOk X' [] H' b := fun {σ' H' s'} I' hn b hb => by
    have hb' : b ∈ X'.ex := by rw [hex]; exact hb
    exact ⟨hn b hb, (I'.ok.exf b hb').1, I'.ok.exfs b hb', .inl hb', fun x c e => (I'.ok.exf b hb').2 x c e, fun p hp => hpn p (by simpa using hp) b hb⟩
  have noE : ∀ {e : Value} {s : Shared} {G : Prop}, X'.xe e s → G := fun {e s G} h => by rw [hxe] at h; exact h.elim
  intro n
  induction n with
  | zero => intro i m s₀ s H hm; omega
  | succ n ih =>
    intro i m s₀ s H hm I st hn w
    show Seg _ B0 _ _ _ s₀ _ ((compTurn (.GeneratorExp elt [⟨tg, iter, [], 0⟩] scope pos) 0 (.ref it) .none X'.env).onRaise (leaving X'.env)) [] s
    rw [compTurn_gen, Sem.onRaise_eq_wrap]
    refine seg_bind_wrap (wpAny_standAt ?_)
    rcases turn i m H w with ⟨stop, fi⟩ | ⟨go, Nx, hNx, step⟩
    · have q := T.done X' rfl rfl rfl hcalm i [] s σ H (fun _ _ => False) I (stat I hn) st stop
      rw [hA] at q
      refine seg_bind_wrap (wpAny_mono q (fun r s6 h6 => ?_) fun _ _ e => e.elim)
      obtain ⟨hr, I6⟩ := h6
      subst hr
      exact seg_end (.ok .next) ⟨rfl, H, I6, fi⟩
    · have q := T.item X' rfl rfl rfl hcalm i [] s σ H (fun _ _ => False) I (stat I hn) st go
      rw [hA] at q
      refine seg_bind_wrap (wpAny_mono q (fun r s6 h6 => ?_) fun _ _ e => e.elim)
      obtain ⟨u, hr, h6⟩ := h6
      subst hr
      refine seg_bind_wrap (wpAny_mono h6 (fun _ s7 h7 => ?_) fun _ _ e => e.elim)
      obtain ⟨x, H7, I7, r7, y7, st7, n7⟩ := h7
      have I7' := I7.pinned (stat I7 n7) (T.obj _ _ st7)
      have q2 := hg.run _ s7 σ H7 x u _ I7' r7 (step x H7 y7)
      rw [hA] at q2
      refine seg_bind_wrap (wpAny_mono q2 (fun _ s8 h8 => ?_) fun _ _ e => noE e)
      obtain ⟨σ8, H8, I8, hw8, q8⟩ := h8
      refine seg_bind_wrap (wpAny_pure ?_)
      simp only [if_true]
      have hy : ∀ v, yieldOut X'.env v = yieldValue v := fun v => by simp only [yieldOut, hco, Bool.false_eq_true, if_false]
      simp only [hy]
      rw [Sem.bind_eq_wrap', Sem.bind_eq_wrap', Sem.wrap_wrap, Sem.wrap_wrap]
      have q3 := he.run _ s8 σ8 H8 _ I8 q8
      rw [hA] at q3
      refine seg_wrap (wpAny_mono q3 (fun z s10 h10 => ?_) fun _ _ e => noE e)
      obtain ⟨yv, H10, I10, r10, b, rfl, hfl, hnx⟩ := h10
      cases r10
      have pin' : ∀ b ∈ fp, ∀ o, s7.heap.get? b = some o → s10.heap.get? b = some o ∧ H10 b = none := fun b hb o e =>
        let z := I10.pin (b, o) (List.mem_append_right _ (List.mem_append_right _ (mem_pinsAt hb e)))
        ⟨z.1, z.2.1⟩
      have I11 : Inv X' [] σ H10 s10 := weak_wipe hl (I10.unpinned (pins := [])) hw8
      have n11 : ∀ b ∈ fp, H10 b = none := fun b hb => by
        obtain ⟨o, e, _⟩ := T.obj _ _ st7 b hb
        exact (pin' b hb o e).2
      have st11 : tn (i + 1) s10.heap := T.keep _ _ _ st7 fun b hb o e => (pin' b hb o e).1
      refine seg_at (seg_yield rfl rfl rfl ⟨b, H10, rfl, I11, hfl, fun hb s'' eh eo eb => ?_⟩)
      obtain ⟨m', hm', w'⟩ := hNx H10 (hnx hb)
      exact seg_again rfl (ih (i + 1) m' s'' s'' H10 (by omega) (inv_same I11 eh eo eb) (by rw [eh]; exact st11) n11 w')
end
end
section
open PySem.Spec PyProof.Rows GenW
section
variable {X' : Cx} {A : Around} {σ : L2.St} {c : Bool} {Fi Fl : Hp → Prop} {R : Result → Shared → Prop} {a : Addr} {g : Nat} {go : Obj}
/-- one draw -/
theorem gx_next (hh : A.handled = none) (hd : A.depth < recursionLimit) (hgen : ∀ h : Heap, h.get? a = some go → h.IsGen a g) {n : Nat} {s : Shared} {Q : Option Value → Shared → Prop} {E : Value → Shared → Prop} (hg : s.heap.IsGen a g) (hl : s.heap.NoLimit)
    (hpn : (a, go) ∈ X'.pn)
    (hgs : ∃ gs, s.gens[g]? = some gs ∧ gs.Goes (model X'.prog X'.w) A.in1 (gxR X' σ Fi) (gxY X' σ c Fl) n (.send .none) (s.setGen g .running))
    (hend : ∀ s' H', Inv X' [] σ H' s' → Fi H' → Q none s')
    (hstop : ∀ s' H', Inv X' [] σ H' s' → Fl H' → Q (some (.bool c)) s')
    (hgoes : ∀ s' H' m, n = m + 1 → Inv X' [] σ H' s' → (∃ gs, s'.gens[g]? = some gs ∧ gs.Goes (model X'.prog X'.w) A.in1 (gxR X' σ Fi) (gxY X' σ c Fl) m (.send .none) (s'.setGen g .running)) → Q (some (.bool (!c))) s') :
    wpAny (model X'.prog X'.w) A (pyNext (.ref a)) Q E s := by
  obtain ⟨gs, hgs, hgo⟩ := hgs
  have hgl : g < s.gens.size := (Array.getElem?_eq_some_iff.mp hgs).1
  refine wpAny_gsz (n := g + 1) hgl (wpAny_pyNext_genexpQ (P := fun _ _ s1 => ∃ H', Inv X' [] σ H' s1 ∧ Fi H') (Y := gxY X' σ c Fl) (n := n) hh hl hd hg hgs hgo (fun v s₁ gs' hbare hv => ?_) fun s₁ hp h' hk => ?_)
  · intro hsz
    obtain ⟨b, H', rfl, I, hfl, hkap⟩ := hv
    have hsz1 : g < s₁.gens.size := by
      have q : (s₁.setGen g gs').gens.size = s₁.gens.size := setGen_size _ _ _
      have hsz' : g + 1 ≤ (s₁.setGen g gs').gens.size := hsz
      omega
    have I2 : Inv X' [] σ H' (s₁.setGen g gs') := inv_same I rfl rfl (allBare_setGen I.bare hbare)
    by_cases hb : b = c
    · subst hb
      exact hstop _ H' I2 (hfl rfl)
    · have hb' : b = !c := by revert hb; cases b <;> cases c <;> decide
      subst hb'
      have hk := hkap rfl ((s₁.setGen g gs').setGen g .running) rfl rfl (allBare_setGen (allBare_setGen I.bare hbare) rfl)
      cases n with
      | zero => exact hk.elim
      | succ m => exact hgoes _ H' m rfl I2 ⟨gs', setGen_at hsz1, hk⟩
  · intro hsz
    obtain ⟨H', I, fi⟩ := hp
    refine hend _ H' (I.call' (ch := []) (s' := { s₁.setGen g .finished with heap := h' }) rfl (Un.kept hk) (I.hok.kept hk) (allBare_setGen I.bare rfl) fun b z => absurd z (by simp)) fi
theorem gx_all (hh : A.handled = none) (hd : A.depth < recursionLimit) (hgen : ∀ h : Heap, h.get? a = some go → h.IsGen a g) (hpn : (a, go) ∈ X'.pn) (hc : c = false)
    (hend : ∀ s' H', Inv X' [] σ H' s' → Fi H' → R (.ok (.ret (.bool true))) s') (hstop : ∀ s' H', Inv X' [] σ H' s' → Fl H' → R (.ok (.ret (.bool false))) s') :
    ∀ (n : Nat) (s : Shared), s.heap.IsGen a g → s.heap.NoLimit →
      (∃ gs, s.gens[g]? = some gs ∧ gs.Goes (model X'.prog X'.w) A.in1.in1 (gxR X' σ Fi) (gxY X' σ c Fl) n (.send .none) (s.setGen g .running)) →
      codeAny (model X'.prog X'.w) A (.builtin "all.loop" ⟨[.ref a], []⟩) R s := by
  subst hc
  have loop : ∀ (n : Nat) (s : Shared), s.heap.IsGen a g → s.heap.NoLimit →
      (∃ gs, s.gens[g]? = some gs ∧ gs.Goes (model X'.prog X'.w) A.in1.in1 (gxR X' σ Fi) (gxY X' σ false Fl) n (.send .none) (s.setGen g .running)) →
      (∀ s' H' m, n = m + 1 → Inv X' [] σ H' s' → (∃ gs, s'.gens[g]? = some gs ∧ gs.Goes (model X'.prog X'.w) A.in1.in1 (gxR X' σ Fi) (gxY X' σ false Fl) m (.send .none) (s'.setGen g .running)) → codeAny (model X'.prog X'.w) A (.builtin "all.loop" ⟨[.ref a], []⟩) R s') →
      codeAny (model X'.prog X'.w) A (.builtin "all.loop" ⟨[.ref a], []⟩) R s := by
    intro n s hg hl hgs hrec
    refine codeAny_builtin F.entry_all_loop ?_
    rw [Around.under_plainId F.plain_all_loop _]
    show wpAny _ A.in1 (pyNext (.ref a) >>= _) _ _ s
    refine wpAny_bind (gx_next (A := A.in1) hh hd hgen hg hl hpn hgs (fun s' H' I fi => ?_) (fun s' H' I fl => ?_) fun s' H' m hn I hgs' => ?_)
    · exact wpAny_bind (wpAny_rule (wpAny_pure (hend s' H' I fi)))
    · refine wpAny_bind (wpAny_holding (wpAny_truthy_bool ?_))
      refine wpAny_bind (wpAny_letGo ?_)
      simp only [Bool.false_eq_true, if_false]
      exact wpAny_bind (wpAny_rule (wpAny_pure (hstop s' H' I fl)))
    · refine wpAny_bind (wpAny_holding (wpAny_truthy_bool ?_))
      refine wpAny_bind (wpAny_letGo ?_)
      simp only [Bool.not_false, if_true]
      exact wpAny_pure ⟨plainId_quiet F.plain_all_loop _, hrec s' H' m hn I hgs'⟩
  intro n
  induction n with
  | zero => exact fun s hg hl hgs => loop 0 s hg hl hgs fun _ _ m hn => absurd hn (by omega)
  | succ n ih =>
    exact fun s hg hl hgs => loop (n + 1) s hg hl hgs fun s' H' m hn I hgs' => by
      obtain rfl : m = n := by omega
      exact ih s' (hgen _ (I.pin (a, go) (List.mem_append_left _ hpn)).1) I.nolimit hgs'
theorem gx_any (hh : A.handled = none) (hd : A.depth < recursionLimit) (hgen : ∀ h : Heap, h.get? a = some go → h.IsGen a g) (hpn : (a, go) ∈ X'.pn) (hc : c = true)
    (hend : ∀ s' H', Inv X' [] σ H' s' → Fi H' → R (.ok (.ret (.bool false))) s') (hstop : ∀ s' H', Inv X' [] σ H' s' → Fl H' → R (.ok (.ret (.bool true))) s') :
    ∀ (n : Nat) (s : Shared), s.heap.IsGen a g → s.heap.NoLimit →
      (∃ gs, s.gens[g]? = some gs ∧ gs.Goes (model X'.prog X'.w) A.in1.in1 (gxR X' σ Fi) (gxY X' σ c Fl) n (.send .none) (s.setGen g .running)) →
      codeAny (model X'.prog X'.w) A (.builtin "any.loop" ⟨[.ref a], []⟩) R s := by
  subst hc
  have loop : ∀ (n : Nat) (s : Shared), s.heap.IsGen a g → s.heap.NoLimit →
      (∃ gs, s.gens[g]? = some gs ∧ gs.Goes (model X'.prog X'.w) A.in1.in1 (gxR X' σ Fi) (gxY X' σ true Fl) n (.send .none) (s.setGen g .running)) →
      (∀ s' H' m, n = m + 1 → Inv X' [] σ H' s' → (∃ gs, s'.gens[g]? = some gs ∧ gs.Goes (model X'.prog X'.w) A.in1.in1 (gxR X' σ Fi) (gxY X' σ true Fl) m (.send .none) (s'.setGen g .running)) → codeAny (model X'.prog X'.w) A (.builtin "any.loop" ⟨[.ref a], []⟩) R s') →
      codeAny (model X'.prog X'.w) A (.builtin "any.loop" ⟨[.ref a], []⟩) R s := by
    intro n s hg hl hgs hrec
    refine codeAny_builtin F.entry_any_loop ?_
    rw [Around.under_plainId F.plain_any_loop _]
    show wpAny _ A.in1 (pyNext (.ref a) >>= _) _ _ s
    refine wpAny_bind (gx_next (A := A.in1) hh hd hgen hg hl hpn hgs (fun s' H' I fi => ?_) (fun s' H' I fl => ?_) fun s' H' m hn I hgs' => ?_)
    · exact wpAny_bind (wpAny_rule (wpAny_pure (hend s' H' I fi)))
    · refine wpAny_bind (wpAny_holding (wpAny_truthy_bool ?_))
      refine wpAny_bind (wpAny_letGo ?_)
      simp only [if_true]
      exact wpAny_bind (wpAny_rule (wpAny_pure (hstop s' H' I fl)))
    · refine wpAny_bind (wpAny_holding (wpAny_truthy_bool ?_))
      refine wpAny_bind (wpAny_letGo ?_)
      simp only [Bool.not_true, Bool.false_eq_true, if_false]
      exact wpAny_pure ⟨plainId_quiet F.plain_any_loop _, hrec s' H' m hn I hgs'⟩
  intro n
  induction n with
  | zero => exact fun s hg hl hgs => loop 0 s hg hl hgs fun _ _ m hn => absurd hn (by omega)
  | succ n ih =>
    exact fun s hg hl hgs => loop (n + 1) s hg hl hgs fun s' H' m hn I hgs' => by
      obtain rfl : m = n := by omega
      exact ih s' (hgen _ (I.pin (a, go) (List.mem_append_left _ hpn)).1) I.nolimit hgs'
end
end
section
open PySem.Spec PyProof.Rows GenW
section
variable {X : Cx} {pins : List (Addr × Obj)} {σ : L2.St} {H : Hp} {s : Shared}
theorem un_tab {fs ex : List Addr} {H : Hp} {T : Addr} {ps more : Array Value} {h h' : Heap} (hT : H T = some (.tbl ps)) (k : ∀ b o, b ≠ T → h.get? b = some o → h'.get? b = some o) (hm : ∃ o, h'.get? T = some o) :
    Un fs ex H (upd H T (.tbl (ps ++ more))) h h' := by
  have nN : ∀ b, H b = none → b ≠ T := fun b e z => by rw [z, hT] at e; cases e
  have nP : ∀ b u, H b = some u → (∀ q, u ≠ .tbl q) → b ≠ T := fun b u e q z => by
    rw [z, hT] at e
    exact q ps (Option.some.inj e).symm
  refine ⟨fun b o e n _ _ => k b o (nN b n) e, fun b o e n _ _ => ⟨o.slots, k b o (nN b n) e⟩, fun b o _ n _ => by rw [upd_ne (nN b n)]; exact n, fun b o e _ => ?_, fun b xs e => by rw [upd_ne (nP b _ e fun q z => by cases z)]; exact e, fun b o u e => by rw [upd_ne (nP b _ e fun q z => by cases z)]; exact e, fun b qs e => ?_⟩
  · by_cases hb : b = T
    · rw [hb]; exact hm
    · exact ⟨o, k b o hb e⟩
  · by_cases hb : b = T
    · rw [hb, hT] at e
      cases e
      rw [hb, upd_same]
      exact ⟨more, rfl⟩
    · rw [upd_ne hb, e]
      exact ⟨#[], by simp⟩
theorem gx_gen {c0 T : Addr} {elt tg iter : Expr} {gpos : Pos} {scope : Scope} {ys : List Str} {wi : TI} {g : TG} {te : TE} {k : Nat} {own : List (Str × Nat)} {vs : List Nat} {cb : Bool} {Fi Fl : Hp → Prop} {Q' : Value → Shared → Prop} (hN : X.N.Nodup) (hvs : ∀ p ∈ own, p.2 ∈ vs)
    (hr : Room (k + 2) X.A) (TB : GxR.TabB X.base X.mg c0 T) (hcode : X.env.code = .ref c0) (ok : GxOk X.N X.env.scope scope own) (hi : PI X tg iter wi)
    (hg : ∀ (B : Around) (s : Shared) (H : Hp) (C : Addr) (cl : List (Str × Addr)) (code : Value) (fp : List Addr) (pn : List (Addr × Obj)), Room k B → PG (gxCx X B s H (genEnv scope cl C code builtinsNs X.env) ys fp pn) tg g)
    (he : ∀ (B : Around) (s : Shared) (H : Hp) (C : Addr) (cl : List (Str × Addr)) (code : Value) (fp : List Addr) (pn : List (Addr × Obj)), Room k B → PE (gxCx X B s H (genEnv scope cl C code builtinsNs X.env) ys fp pn) elt te)
    (hs : ∀ v, genFold iter X.env v = pure v) (I : Inv X pins σ H s)
    (h : wi σ H fun J H1 => GxR.TabG H1 T ∧ ∀ H1', GxR.Tabbed T H1 H1' → ∃ W : Nat → Nat → Hp → Prop, (∃ m, W 0 m H1') ∧ GxTurn J g te (wipe (σ ++ List.replicate ys.length none) vs) vs cb Fi Fl W)
    (hQ' : ∀ (B : Around) (s2 : Shared) (H2 : Hp) (cenv : Env) (fp : List Addr) (a : Addr) (gn : Nat) (go : Obj) (n : Nat) (s5 : Shared), (∀ h : Heap, h.get? a = some go → h.IsGen a gn) → s5.heap.IsGen a gn → s5.heap.NoLimit →
      (∃ gs, s5.gens[gn]? = some gs ∧ gs.Goes (model X.prog X.w) X.A.in1.in1 (gxR (gxCx X B s2 H2 cenv ys fp [(a, go)]) (wipe (σ ++ List.replicate ys.length none) vs) Fi) (gxY (gxCx X B s2 H2 cenv ys fp [(a, go)]) (wipe (σ ++ List.replicate ys.length none) vs) cb Fl) n (.send .none) (s5.setGen gn .running)) →
      (∀ s' H', Inv (gxCx X B s2 H2 cenv ys fp [(a, go)]) [] (wipe (σ ++ List.replicate ys.length none) vs) H' s' → Inv X pins σ H' s') → Q' (.ref a) s5) :
    wpAny (model X.prog X.w) X.A (eval (.GeneratorExp elt [⟨tg, iter, [], 0⟩] scope gpos) X.env) Q' X.xe s := by
  have hfree : ∀ y ∈ scope.names, y.2 = .free → ∃ c, X.env.cells.lookup y.1 = some c := fun y hy e => by
    rcases ok.free y hy e with k | k
    · exact I.ok.has _ (.inl k)
    · exact I.ok.has _ (.inr k)
  refine wpAny_GeneratorExp_make ok.co (closure_ok hfree) ok.cell ok.dot ok.kind hr.depth ?_ hs
  refine thn (hi.run pins s σ H _ I h) fun xv t1 h1 => thn h1 fun itv s2 h2 => ?_
  obtain ⟨it, fp, tn, J, H2, rfl, I2, Tn, st2, f2, ⟨ps, hT, htri⟩, hq⟩ := h2
  refine ⟨I2.nolimit, ?_⟩
  have tT : s2.heap.get? T = some { cls := .none, data := .fields ps } := I2.hok T _ hT
  have lT : T < s2.heap.objs.size := Heap.lt_size tT
  have cd : PySem.W.CodeHd s2.heap c0 T := TB.code.keeps fun b u e => I2.bk b u e
  have szf : ∀ b ∈ fp, b < s2.heap.objs.size := fun b hb => by
    obtain ⟨o, e, _⟩ := Tn.obj _ _ st2 b hb
    exact Heap.lt_size e
  have run : ∀ (code : Value) (h3 : Heap) (tk : Nat) (ps' : Array Value), Heap.ExtBut T s2.heap h3 → s2.heap.objs.size ≤ h3.objs.size → h3.get? T = some { cls := .none, data := .fields ps' } → (∃ more, ps' = ps ++ more) → TriplesOk ps'.toList →
      wpAny (model X.prog X.w) X.A (builtinsFor X.env.globals X.env.builtins) (fun bi s₄ =>
        ∀ h', h'.Ns s₄.heap.objs.size (fun y => if y = ".0" then some (Value.ref it) else none) → Heap.SameBut s₄.heap.objs.size (s₄.heap.push { cls := .type "frame", data := .dict #[] }) h' →
          Q' (.ref h'.objs.size) { s₄ with
            gens := s₄.gens.push (.fresh (.compStart (.GeneratorExp elt [⟨tg, iter, [], 0⟩] scope gpos) 0 (.ref it) .none (genEnv scope (cloFrom X.env.cells scope.names []) s₄.heap.objs.size code bi X.env))),
            toks := s₄.toks + 1 + 1 + 1,
            heap := h'.push { cls := .type "generator", data := .fields #[.int s₄.gens.size 0, .str "<genexpr>" (s₄.toks + 1), .str (X.env.qual ++ "<genexpr>") (s₄.toks + 1 + 1)] } }) X.xe { s2 with heap := h3, toks := tk } := by
    intro code h3 tk ps' hx hsz hT3 hmore ht3
    obtain ⟨bm, ob, e1, e2, e3, e4, e5, e6, e7, e8⟩ := TB.bm
    have up3 : ∀ b u, b ≠ T → s2.heap.get? b = some u → h3.get? b = some u := fun b u hb e => hx b u hb e
    refine wpAny_builtinsFor (m := X.mg) (by rw [I2.ok.glob]; exact (I2.mod.glob.keeps I2.bk).extBut hx TB.gP) e1 e2 (up3 _ _ e4 (I2.bk _ _ e5)) e6 e7 e8 ?_
    intro h' hns hsb
    replace hns : h'.Ns h3.objs.size (fun y => if y = ".0" then some (Value.ref it) else none) := hns
    replace hsb : Heap.SameBut h3.objs.size (h3.push { cls := .type "frame", data := .dict #[] }) h' := hsb
    obtain ⟨more, rfl⟩ := hmore
    have hCa : (h3.objs.size : Nat) < h'.objs.size := hns.lt
    have up5 : ∀ b u, h3.get? b = some u → h'.get? b = some u := fun b u e => hsb.extBut b u (Nat.ne_of_lt (Heap.lt_size e)) (Heap.get?_push_of_some _ e)
    obtain ⟨go, hgo⟩ : ∃ go : Obj, go = { cls := .type "generator", data := .fields #[.int s2.gens.size 0, .str "<genexpr>" (tk + 1), .str (X.env.qual ++ "<genexpr>") (tk + 1 + 1)] } := ⟨_, rfl⟩
    have up : ∀ b u, b ≠ T → s2.heap.get? b = some u → (h'.push go).get? b = some u := fun b u hb e => Heap.get?_push_of_some _ (up5 b u (up3 b u hb e))
    have tT5 : (h'.push go).get? T = some { cls := .none, data := .fields (ps ++ more) } := Heap.get?_push_of_some _ (up5 _ _ hT3)
    have nT : ∀ b, H2 b = none → b ≠ T := fun b e z => by rw [z, hT] at e; cases e
    have nT' : ∀ b : Addr, s2.heap.objs.size ≤ b → b ≠ T := fun b hb z => by rw [z] at hb; exact Nat.lt_irrefl _ (Nat.lt_of_lt_of_le lT hb)
    have hgen : ∀ h : Heap, h.get? h'.objs.size = some go → h.IsGen h'.objs.size s2.gens.size := fun h e => ⟨go, _, _, e, by rw [hgo], by rw [hgo], by rw [hgo]⟩
    have hpush : (h'.push go).get? h'.objs.size = some go := Heap.get?_push_size _ (by rw [hgo]; rfl)
    have bare5 : AllBare (s2.gens.push (.fresh (.compStart (.GeneratorExp elt [⟨tg, iter, [], 0⟩] scope gpos) 0 (.ref it) .none (genEnv scope (cloFrom X.env.cells scope.names []) h3.objs.size code builtinsNs X.env)))) := AllBare.push I2.bare rfl
    have J5 := GxR.inv_tab (more := more) (h' := h'.push go) (g' := s2.gens.push (.fresh (.compStart (.GeneratorExp elt [⟨tg, iter, [], 0⟩] scope gpos) 0 (.ref it) .none (genEnv scope (cloFrom X.env.cells scope.names []) h3.objs.size code builtinsNs X.env)))) (d' := s2.drawn) (t' := tk + 1 + 1 + 1) I2 hT up tT5 bare5
    have un5 : Un (frs X.stack) fp H2 (upd H2 T (.tbl (ps ++ more))) s2.heap (h'.push go) := un_tab hT up ⟨_, tT5⟩
    obtain ⟨W, ⟨m0, w0⟩, turn⟩ := hq _ (⟨⟨ps ++ more, upd_same, ht3⟩, fun b hb => upd_ne hb⟩ : GxR.Tabbed T H2 (upd H2 T (.tbl (ps ++ more))))
    have hCn : upd H2 T (.tbl (ps ++ more)) h3.objs.size = none := by rw [upd_ne (nT' _ hsz)]; exact I2.hok.fresh hsz
    have han : upd H2 T (.tbl (ps ++ more)) h'.objs.size = none := by
      have q : (s2.heap.objs.size : Nat) ≤ h'.objs.size := Nat.le_of_lt (Nat.lt_of_le_of_lt hsz hCa)
      rw [upd_ne (nT' _ q)]; exact I2.hok.fresh q
    have hfr : (X.A.in1.in1.over (.compLoop (.GeneratorExp elt [⟨tg, iter, [], 0⟩] scope gpos) 0 (.ref it) .none (genEnv scope (cloFrom X.env.cells scope.names []) h3.objs.size code builtinsNs X.env)) []).frames = some (genEnv scope (cloFrom X.env.cells scope.names []) h3.objs.size code builtinsNs X.env :: X.stack) := by
      rw [over_gen]
      exact Around.frames_deeper I2.ok.frames
    have rB : Room k (X.A.in1.in1.over (.compLoop (.GeneratorExp elt [⟨tg, iter, [], 0⟩] scope gpos) 0 (.ref it) .none (genEnv scope (cloFrom X.env.cells scope.names []) h3.objs.size code builtinsNs X.env)) []) := by
      rw [over_gen]
      refine ⟨hr.hd, ?_, ?_⟩
      · have := hr.dp; show X.A.depth + 1 + 3 * k + 5 < _; omega
      · have := hr.un; show X.A.units + 1 + 1 + 3 + 16 * k + 200 < _; omega
    generalize hB : X.A.in1.in1.over (.compLoop (.GeneratorExp elt [⟨tg, iter, [], 0⟩] scope gpos) 0 (.ref it) .none (genEnv scope (cloFrom X.env.cells scope.names []) h3.objs.size code builtinsNs X.env)) [] = B at hfr rB
    have I5 := gx_start (ys := ys) (B := B) (C := h3.objs.size) (a := h'.objs.size) (code := code) (go := go) (H' := upd H2 T (.tbl (ps ++ more)))
      (s' := { s2 with gens := s2.gens.push (.fresh (.compStart (.GeneratorExp elt [⟨tg, iter, [], 0⟩] scope gpos) 0 (.ref it) .none (genEnv scope (cloFrom X.env.cells scope.names []) h3.objs.size code builtinsNs X.env))), toks := tk + 1 + 1 + 1, heap := h'.push go })
      I2 ok hN hvs (rfl : builtinsNs = builtinsNs) rB.hd hfr (fun b hb => ⟨f2 b hb, szf b hb⟩) rfl bare5 un5 J5.hok hsz hCn (hns.keeps fun b o e => Heap.get?_push_of_some _ e) hpush
      (Nat.le_of_lt (Nat.lt_of_le_of_lt hsz hCa)) (Nat.ne_of_gt hCa) han (fun v q => by rw [hgo] at q; cases q) fun c v z hn _ => by
        obtain ⟨oc, hoc, r⟩ := z
        exact ⟨oc, up c oc (nT c hn) hoc, r⟩
    have n5 : ∀ b ∈ fp, upd H2 T (.tbl (ps ++ more)) b = none := fun b hb => by rw [upd_ne (nT b (f2 b hb).1)]; exact (f2 b hb).1
    have st5 : tn 0 (h'.push go) := Tn.keep _ _ _ st2 fun b hb o e => up b o (nT b (f2 b hb).1) e
    have hgo' : ({ cls := .type "generator", data := .fields #[.int (s2.gens.size : Nat) 0, .str "<genexpr>" (tk + 1), .str (X.env.qual ++ "<genexpr>") (tk + 1 + 1)] } : Obj) = go := hgo.symm
    show Q' (.ref h'.objs.size) { s2 with gens := s2.gens.push (.fresh (.compStart (.GeneratorExp elt [⟨tg, iter, [], 0⟩] scope gpos) 0 (.ref it) .none (genEnv scope (cloFrom X.env.cells scope.names []) h3.objs.size code builtinsNs X.env))), toks := tk + 1 + 1 + 1, heap := h'.push { cls := .type "generator", data := .fields #[.int s2.gens.size 0, .str "<genexpr>" (tk + 1), .str (X.env.qual ++ "<genexpr>") (tk + 1 + 1)] } }
    rw [← hgo]
    refine hQ' B s2 H2 (genEnv scope (cloFrom X.env.cells scope.names []) h3.objs.size code builtinsNs X.env) fp h'.objs.size s2.gens.size go (m0 + 1) _ hgen (hgen _ hpush) J5.nolimit ⟨_, Array.getElem?_push_size .., rfl, ?_⟩ fun s' H' I' =>
      I2.call' (ch := fp) I'.os I'.base I'.hok I'.bare fun b hb => ⟨(f2 b hb).2.2.2.1, (f2 b hb).2.1, (f2 b hb).2.2.2.2.1, (f2 b hb).2.2.2.2.2⟩
    have loop : ∀ s6 : Shared, s6.heap = h'.push go → s6.os = s2.os → AllBare s6.gens → Seg (model X.prog X.w) X.A.in1.in1 _ _ (m0 + 1) s6 (.compLoop (.GeneratorExp elt [⟨tg, iter, [], 0⟩] scope gpos) 0 (.ref it) .none (genEnv scope (cloFrom X.env.cells scope.names []) h3.objs.size code builtinsNs X.env)) _ [] s6 := fun s6 q1 q2 q3 =>
      seg_gx (X' := gxCx X B s2 H2 (genEnv scope (cloFrom X.env.cells scope.names []) h3.objs.size code builtinsNs X.env) ys fp [(h'.objs.size, go)]) (B0 := X.A.in1.in1) hB.symm ok.co rfl rfl rfl
        (fun p hp b hb => by
          rw [List.mem_singleton.mp hp]
          exact Nat.ne_of_gt (Nat.lt_trans (Nat.lt_of_lt_of_le (szf b hb) hsz) hCa))
        Tn (hg B s2 H2 _ _ code fp _ rB) (he B s2 H2 _ _ code fp _ rB)
        (by show _ = (X.N ++ ys).length; rw [wipe_length, List.length_append, List.length_append, List.length_replicate, I2.len]) turn (m0 + 1) 0 m0 s6 s6 _ (Nat.lt_succ_self _) (inv_same I5 q1 q2 q3) (by rw [q1]; exact st5) n5 w0
    have lp := loop (Shared.setGen { s2 with gens := s2.gens.push (.fresh (.compStart (.GeneratorExp elt [⟨tg, iter, [], 0⟩] scope gpos) 0 (.ref it) .none (genEnv scope (cloFrom X.env.cells scope.names []) h3.objs.size code builtinsNs X.env))), toks := tk + 1 + 1 + 1, heap := h'.push go } s2.gens.size .running) rfl rfl (allBare_setGen bare5 rfl)
    show Seg _ X.A.in1.in1 _ _ _ _ _ ((compStart (.GeneratorExp elt [⟨tg, iter, [], 0⟩] scope gpos) 0 (.ref it) .none (genEnv scope (cloFrom X.env.cells scope.names []) h3.objs.size code builtinsNs X.env)).onRaise (leaving _)) [] _
    unfold compStart
    rw [Sem.onRaise_eq_wrap]
    show Seg _ X.A.in1.in1 _ _ _ _ _ ((ask >>= _).wrap _ _ _ _) [] _
    refine seg_bind_wrap (wpAny_askSetting ?_)
    split
    · exact seg_again rfl lp
    · first
        | exact seg_bind_wrap (wpAny_rule (seg_bind_wrap (wpAny_standAt (seg_bind_wrap (Tn.self _ 0 _ _ _ st5 (seg_again rfl lp))))))
        | (refine seg_bind_wrap (wpAny_rule ?_); show Seg _ X.A.in1.in1 _ _ _ _ _ ((standAt iter.pos >>= _).wrap _ _ _ _) [] _; exact seg_bind_wrap (wpAny_standAt (seg_bind_wrap (Tn.self _ 0 _ _ _ st5 (seg_again rfl lp)))))
  cases hf : codeAmong gpos ps.toList with
  | none =>
    refine wpAny_genexprCodeX hcode (cd.code tT htri) (cd.tab tT) hf fun c' h' tk hx hge hlt hco' _ htab' _ => ?_
    obtain ⟨_, _, _, _, _, _, _, _, _, _, _, _, _, _, _, _, _, _, _, htr, _⟩ := hco'
    exact run _ h' tk _ hx (Nat.le_trans hge (Nat.le_of_lt hlt)) htab'.2 ⟨_, rfl⟩ htr
  | some cv =>
    refine wpAny_genexprCode_hit hcode (cd.code tT htri) hf ?_
    exact run cv s2.heap s2.toks ps (Heap.ExtBut.refl _ _) (Nat.le_refl _) tT ⟨#[], by simp⟩ htri
end
end
section
open PySem.Spec PyProof.Rows GenW
/-- all(elt for tg in e), any(..): the element read in full; ny: how many names it has of its own; behind it the def's table may have grown -/
def tAllR (T : Addr) (wi : TI) (g : TG) (te : TE) (ny : Nat) (vs : List Nat) : TE := fun σ H Q => wi σ H fun J H1 => GxR.TabG H1 T ∧ ∀ H1', GxR.Tabbed T H1 H1' → ∃ W : Nat → Nat → Hp → Prop, (∃ m, W 0 m H1') ∧ GxTurn J g te (wipe (σ ++ List.replicate ny none) vs) vs false (fun H2 => Q (.bl true) H2) (fun H2 => Q (.bl false) H2) W
def tAnyR (T : Addr) (wi : TI) (g : TG) (te : TE) (ny : Nat) (vs : List Nat) : TE := fun σ H Q => wi σ H fun J H1 => GxR.TabG H1 T ∧ ∀ H1', GxR.Tabbed T H1 H1' → ∃ W : Nat → Nat → Hp → Prop, (∃ m, W 0 m H1') ∧ GxTurn J g te (wipe (σ ++ List.replicate ny none) vs) vs true (fun H2 => Q (.bl false) H2) (fun H2 => Q (.bl true) H2) W
section
variable {X : Cx}
theorem pe_allR {c0 T : Addr} {elt tg iter : Expr} {p pos gpos : Pos} {scope : Scope} {ys : List Str} {wi : TI} {g : TG} {te : TE} {k : Nat} {own : List (Str × Nat)} {vs : List Nat} (hN : X.N.Nodup) (hvs : ∀ p ∈ own, p.2 ∈ vs)
    (hr : Room (k + 2) X.A) (hgl : Gl X "all") (hm : X.mg "all" = none) (hb : bootBuiltins "all" = some (.builtin "all")) (TB : GxR.TabB X.base X.mg c0 T) (hcode : X.env.code = .ref c0) (ok : GxOk X.N X.env.scope scope own) (hi : PI X tg iter wi)
    (hg : ∀ (B : Around) (s : Shared) (H : Hp) (C : Addr) (cl : List (Str × Addr)) (code : Value) (fp : List Addr) (pn : List (Addr × Obj)), Room k B → PG (gxCx X B s H (genEnv scope cl C code builtinsNs X.env) ys fp pn) tg g)
    (he : ∀ (B : Around) (s : Shared) (H : Hp) (C : Addr) (cl : List (Str × Addr)) (code : Value) (fp : List Addr) (pn : List (Addr × Obj)), Room k B → PE (gxCx X B s H (genEnv scope cl C code builtinsNs X.env) ys fp pn) elt te)
    (hs : ∀ v, genFold iter X.env v = pure v)
    (hst : starEach [.GeneratorExp elt [⟨tg, iter, [], 0⟩] scope gpos] X.env = (false, eval (.GeneratorExp elt [⟨tg, iter, [], 0⟩] scope gpos) X.env) :: starEach [] X.env := by rfl) :
    PE X (.Call (.Name "all" p) [.GeneratorExp elt [⟨tg, iter, [], 0⟩] scope gpos] [] pos) (tAllR T wi g te ys.length vs) := by
  refine ⟨fun pins s σ H Q I h => wpAny_Call_Name_kw (ld_blt I hgl hm hb (PyProof.Rows.callWith_builtin1 ?_ hst (by rfl)))⟩
  rw [hst]
  show wpAny _ _ (spliced ((false, eval (.GeneratorExp elt [⟨tg, iter, [], 0⟩] scope gpos) X.env) :: backTo pos (starEach [] X.env))) _ _ s
  refine Calls.spliced_cons (gx_gen (cb := false) (Fi := fun H2 => Q (.bl true) H2) (Fl := fun H2 => Q (.bl false) H2) hN hvs hr TB hcode ok hi hg he hs I h fun B s2 H2 cenv fp a gn go n s5 hgen hig hlim hgs hback => ?_)
  refine Calls.spliced_nil ?_
  refine call_function_tree F.kind_all F.plain_all F.entry_all (F.args_all1 _) ?_
  unfold Builtin.«all»
  refine wpAny_bind (m := oneArg "all" _) (wpAny_pure ?_)
  refine wpAny_bind (wpAny_pyIter_gen hig ?_)
  refine wpAny_pure ⟨plainId_quiet F.plain_all_loop _, gx_all (X' := gxCx X B s2 H2 cenv ys fp [(a, go)]) (c := false) hr.hd hr.depth hgen (List.mem_singleton.mpr rfl) rfl (fun s' H' I' fi => ?_) (fun s' H' I' fl => ?_) n s5 hig hlim hgs⟩
  · exact ⟨.bl true, H', hback s' H' I', rfl, fi⟩
  · exact ⟨.bl false, H', hback s' H' I', rfl, fl⟩
theorem pe_anyR {c0 T : Addr} {elt tg iter : Expr} {p pos gpos : Pos} {scope : Scope} {ys : List Str} {wi : TI} {g : TG} {te : TE} {k : Nat} {own : List (Str × Nat)} {vs : List Nat} (hN : X.N.Nodup) (hvs : ∀ p ∈ own, p.2 ∈ vs)
    (hr : Room (k + 2) X.A) (hgl : Gl X "any") (hm : X.mg "any" = none) (hb : bootBuiltins "any" = some (.builtin "any")) (TB : GxR.TabB X.base X.mg c0 T) (hcode : X.env.code = .ref c0) (ok : GxOk X.N X.env.scope scope own) (hi : PI X tg iter wi)
    (hg : ∀ (B : Around) (s : Shared) (H : Hp) (C : Addr) (cl : List (Str × Addr)) (code : Value) (fp : List Addr) (pn : List (Addr × Obj)), Room k B → PG (gxCx X B s H (genEnv scope cl C code builtinsNs X.env) ys fp pn) tg g)
    (he : ∀ (B : Around) (s : Shared) (H : Hp) (C : Addr) (cl : List (Str × Addr)) (code : Value) (fp : List Addr) (pn : List (Addr × Obj)), Room k B → PE (gxCx X B s H (genEnv scope cl C code builtinsNs X.env) ys fp pn) elt te)
    (hs : ∀ v, genFold iter X.env v = pure v)
    (hst : starEach [.GeneratorExp elt [⟨tg, iter, [], 0⟩] scope gpos] X.env = (false, eval (.GeneratorExp elt [⟨tg, iter, [], 0⟩] scope gpos) X.env) :: starEach [] X.env := by rfl) :
    PE X (.Call (.Name "any" p) [.GeneratorExp elt [⟨tg, iter, [], 0⟩] scope gpos] [] pos) (tAnyR T wi g te ys.length vs) := by
  refine ⟨fun pins s σ H Q I h => wpAny_Call_Name_kw (ld_blt I hgl hm hb (PyProof.Rows.callWith_builtin1 ?_ hst (by rfl)))⟩
  rw [hst]
  show wpAny _ _ (spliced ((false, eval (.GeneratorExp elt [⟨tg, iter, [], 0⟩] scope gpos) X.env) :: backTo pos (starEach [] X.env))) _ _ s
  refine Calls.spliced_cons (gx_gen (cb := true) (Fi := fun H2 => Q (.bl false) H2) (Fl := fun H2 => Q (.bl true) H2) hN hvs hr TB hcode ok hi hg he hs I h fun B s2 H2 cenv fp a gn go n s5 hgen hig hlim hgs hback => ?_)
  refine Calls.spliced_nil ?_
  refine call_function_tree F.kind_any F.plain_any F.entry_any (F.args_any1 _) ?_
  unfold Builtin.«any»
  refine wpAny_bind (m := oneArg "any" _) (wpAny_pure ?_)
  refine wpAny_bind (wpAny_pyIter_gen hig ?_)
  refine wpAny_pure ⟨plainId_quiet F.plain_any_loop _, gx_any (X' := gxCx X B s2 H2 cenv ys fp [(a, go)]) (c := true) hr.hd hr.depth hgen (List.mem_singleton.mpr rfl) rfl (fun s' H' I' fi => ?_) (fun s' H' I' fl => ?_) n s5 hig hlim hgs⟩
  · exact ⟨.bl false, H', hback s' H' I', rfl, fi⟩
  · exact ⟨.bl true, H', hback s' H' I', rfl, fl⟩
end
end
/-! ### over a tuple, over a range -/
section
variable {K : PySem.W.Frag} {g : TG} {te : TE} {σ : L2.St} {vs : List Nat} {c : Bool} {Fi Fl : Hp → Prop} {H1 : Hp}
theorem gx_tup {a : Addr} {xs : List V} (Pv : Nat → Hp → Prop) (h0 : Pv 0 H1) (hl : ∀ i H, i ≤ xs.length → Pv i H → SqT K H a xs)
    (hs : ∀ i x H, xs[i]? = some x → Pv i H → g x σ H fun σ2 H2 => wipe σ2 vs = σ ∧ te σ2 H2 fun y H3 => ∃ b, y = .bl b ∧ (b = c → Fl H3) ∧ (b = !c → Pv (i + 1) H3)) (hd : ∀ H, Pv xs.length H → Fi H) :
    ∃ W : Nat → Nat → Hp → Prop, (∃ m, W 0 m H1) ∧ GxTurn (Itt K a) g te σ vs c Fi Fl W := by
  refine ⟨fun i m H => m = xs.length - i ∧ i ≤ xs.length ∧ Pv i H, ⟨xs.length, by simp, Nat.zero_le _, h0⟩, ?_⟩
  rintro i m H ⟨rfl, hi, p⟩
  have q := hl i H hi p
  by_cases hlt : i < xs.length
  · refine .inr ⟨⟨xs, xs[i], q, by simp [hlt]⟩, Pv (i + 1), fun H' p' => ⟨xs.length - (i + 1), by omega, rfl, hlt, p'⟩, fun x H' y => ?_⟩
    obtain ⟨e, y⟩ := y
    subst e
    exact hs i x _ (y xs q) p
  · have e : i = xs.length := by omega
    subst e
    exact .inl ⟨⟨xs, q, Nat.le_refl _⟩, hd H p⟩
theorem gx_range {lo : Int} {n : Nat} (Pv : Nat → Hp → Prop) (h0 : Pv 0 H1)
    (hs : ∀ i H, i < n → Pv i H → g (.int (lo + i)) σ H fun σ2 H2 => wipe σ2 vs = σ ∧ te σ2 H2 fun y H3 => ∃ b, y = .bl b ∧ (b = c → Fl H3) ∧ (b = !c → Pv (i + 1) H3)) (hd : ∀ H, Pv n H → Fi H) :
    ∃ W : Nat → Nat → Hp → Prop, (∃ m, W 0 m H1) ∧ GxTurn (Itr lo n) g te σ vs c Fi Fl W := by
  refine ⟨fun i m H => m = n - i ∧ i ≤ n ∧ Pv i H, ⟨n, by simp, Nat.zero_le _, h0⟩, ?_⟩
  rintro i m H ⟨rfl, hi, p⟩
  by_cases hlt : i < n
  · refine .inr ⟨hlt, Pv (i + 1), fun H' p' => ⟨n - (i + 1), by omega, rfl, hlt, p'⟩, fun x H' y => ?_⟩
    obtain ⟨e, y⟩ := y
    subst e y
    exact hs i _ hlt p
  · have e : i = n := by omega
    subst e
    exact .inl ⟨Nat.le_refl _, hd H p⟩
end

/-! ### reading, step by step -/
theorem iteV {a b : Int} {A B : Prop} (h1 : a = b → A) (h2 : a ≠ b → B) : if decide (V.int a = V.int b) = true then A else B := by
  by_cases h : a = b
  · rw [if_pos (decide_eq_true (congrArg V.int h))]; exact h1 h
  · rw [if_neg (by rw [decide_eq_false (fun z => h (V.int.inj z))]; exact Bool.false_ne_true)]; exact h2 h
theorem iteVn {a b : Int} {A B : Prop} (h1 : a ≠ b → A) (h2 : a = b → B) : if (!decide (V.int a = V.int b)) = true then A else B := by
  by_cases h : a = b
  · rw [if_neg (by rw [decide_eq_true (congrArg V.int h)]; exact Bool.false_ne_true)]; exact h2 h
  · rw [if_pos (by rw [decide_eq_false (fun z => h (V.int.inj z))]; rfl)]; exact h1 h
theorem iteD {c A B : Prop} [Decidable c] (h1 : c → A) (h2 : ¬ c → B) : if decide c = true then A else B := by
  by_cases h : c
  · rw [if_pos (decide_eq_true h)]; exact h1 h
  · rw [if_neg (by rw [decide_eq_false h]; exact Bool.false_ne_true)]; exact h2 h
theorem iteDn {c A B : Prop} [Decidable c] (h1 : ¬ c → A) (h2 : c → B) : if (!decide c) = true then A else B := by
  by_cases h : c
  · rw [if_neg (by rw [decide_eq_true h]; exact Bool.false_ne_true)]; exact h2 h
  · rw [if_pos (by rw [decide_eq_false h]; rfl)]; exact h1 h
theorem iteB {b : Bool} {A B : Prop} (h1 : b = true → A) (h2 : b = false → B) : if b = true then A else B := by
  cases b with
  | true => exact iteT (h1 rfl)
  | false => exact iteF (h2 rfl)
theorem iteN0 {i : Int} {A B : Prop} (h1 : i ≠ 0 → A) (h2 : i = 0 → B) : if (i != 0) = true then A else B := by
  by_cases h : i = 0
  · rw [if_neg (by simp [h])]; exact h2 h
  · rw [if_pos (by simpa using h)]; exact h1 h
theorem vdec {a b : Int} : decide (V.int a = V.int b) = decide (a = b) := by
  by_cases h : a = b
  · subst h; simp
  · rw [decide_eq_false h, decide_eq_false (fun z => h (V.int.inj z))]
theorem sql_ne {K : PySem.W.Frag} {H : Hp} {r a : Addr} {o : HO} {xs : List V} (h : SqL K H a xs) (n : a ≠ r) : SqL K (upd H r o) a xs := by
  rcases h with (h | ⟨u, h⟩) | h
  · exact .inl (.inl (by rw [upd_ne n]; exact h))
  · exact .inl (.inr ⟨u, by rw [upd_ne n]; exact h⟩)
  · exact .inr h
theorem mulW64 {i j : Int} (hi : i.natAbs < 2 ^ 64) (hj : j.natAbs < 2 ^ 64) : CMulW i j := wide_mul hi hj (by decide) (by decide) (by decide)
section
variable {K : PySem.W.Frag}
theorem kit_int_int : PySem.W.kitOne K (.type "int") (.type "int") = some true := kit_ty (by decide +kernel)
theorem kit_int_bool : PySem.W.kitOne K (.type "int") (.type "bool") = some false := kit_ty (by decide +kernel)
theorem kit_int_str : PySem.W.kitOne K (.type "int") (.type "str") = some false := kit_ty (by decide +kernel)
theorem kit_int_tuple : PySem.W.kitOne K (.type "int") (.type "tuple") = some false := kit_ty (by decide +kernel)
theorem kit_int_list : PySem.W.kitOne K (.type "int") (.type "list") = some false := kit_ty (by decide +kernel)
theorem kit_tuple_tuple : PySem.W.kitOne K (.type "tuple") (.type "tuple") = some true := kit_ty (by decide +kernel)
theorem kit_tuple_list : PySem.W.kitOne K (.type "tuple") (.type "list") = some false := kit_ty (by decide +kernel)
theorem kit_tuple_str : PySem.W.kitOne K (.type "tuple") (.type "str") = some false := kit_ty (by decide +kernel)
theorem kit_tuple_int : PySem.W.kitOne K (.type "tuple") (.type "int") = some false := kit_ty (by decide +kernel)
theorem kit_tuple_bool : PySem.W.kitOne K (.type "tuple") (.type "bool") = some false := kit_ty (by decide +kernel)
theorem kitA_int : PySem.W.kitAny K (.type "int") [.type "tuple", .type "list"] = some false :=
  kitAny_cons kit_int_tuple (fun _ => kitAny_cons kit_int_list (fun _ => kitAny_nil) (fun z => nomatch z)) (fun z => nomatch z)
theorem kitA_tuple : PySem.W.kitAny K (.type "tuple") [.type "tuple", .type "list"] = some true :=
  kitAny_cons kit_tuple_tuple (fun z => nomatch z) (fun _ => rfl)
end
local macro_rules | `(tactic| walk_at "rd1") => `(tactic| first
  | refine ⟨_, rfl, ?_⟩
  | refine ⟨_, _, rfl, rfl, ?_⟩
  | refine ⟨_, _, rfl, ?_⟩
  | refine ⟨rfl, ?_⟩
  | refine ⟨(show (0 : Int) < _ by omega), ?_⟩
  | refine .inl ⟨_, rfl, ?_⟩
  | refine ⟨mulW64 (by omega) (by omega), ?_⟩
  | refine ⟨cdivZ (b := 64) (by omega) (by omega) (by decide) (by decide), ?_⟩
  | refine ⟨(show CPowW _ _ from ⟨by decide, by decide +kernel⟩), ?_⟩
  | refine ⟨_, _, rfl, .inr (.inl (.inl (by assumption))), ?_⟩
  | refine ⟨_, _, rfl, .inl (.inl (.inl (by assumption))), ?_⟩
  | refine ⟨_, _, rfl, .inl (.inl upd_same), rfl, ?_⟩
  | refine iteT ?_
  | refine iteF ?_
  | refine ⟨_, _, _, _, rfl, rfl, .inl (.inl (by assumption)), rfl, ?_⟩
  | refine ⟨_, _, _, _, rfl, rfl, .inl (.inl upd_same), rfl, ?_⟩
  | refine ⟨_, _, _, _, rfl, rfl, (by assumption), rfl, ?_⟩
  | refine ⟨_, _, _, _, rfl, rfl, upd_same, rfl, ?_⟩
  | refine ⟨_, _, _, _, _, rfl, .ty _, .base (.int _), kit_int_int, ?_⟩
  | refine ⟨_, _, _, _, _, rfl, .ty _, .base (.int _), kit_int_bool, ?_⟩
  | refine ⟨_, _, _, _, _, rfl, .ty _, .base (.int _), kit_int_str, ?_⟩
  | refine ⟨_, _, _, _, _, rfl, .ty _, .base (.tup (by assumption)), kit_tuple_tuple, ?_⟩
  | refine ⟨_, _, _, _, _, rfl, .ty _, .base (.tup (by assumption)), kit_tuple_list, ?_⟩
  | refine ⟨_, _, _, _, _, rfl, .ty _, .base (.tup (by assumption)), kit_tuple_str, ?_⟩)
local macro_rules | `(tactic| walk_at "rd") => `(tactic| repeat walk_at "rd1")

/-- a tuple of ints; a tuple of these -/
abbrev rD (r : List Int) : PyData := .tuple (r.map .int)
abbrev rsD (rs : List (List Int)) : PyData := .tuple (rs.map rD)
section
variable {K : PySem.W.Frag} {H H' : Hp}
theorem dpAll_of {α : Type} {f : α → V} {g : α → PyData} : ∀ {l : List α}, (∀ x ∈ l, Dp K H (f x) (g x)) → DpAll K H (l.map f) (l.map g)
  | [], _ => .nil
  | _ :: _, h => .cons (h _ List.mem_cons_self) (dpAll_of fun x hx => h x (List.mem_cons_of_mem _ hx))
theorem dpAll_ints (r : List Int) : DpAll K H (r.map V.int) (r.map .int) := dpAll_of fun x _ => .int x
theorem dp_ints {a : Addr} {r : List Int} (h : SqT K H a (r.map V.int)) : Dp K H (.ref a) (rD r) := .tup h (dpAll_ints r)
mutual
theorem Dp.same (s : Same H H') : ∀ (d : PyData) (v : V), Dp K H v d → Dp K H' v d
  | _, _, .non => .non
  | _, _, .bl b => .bl b
  | _, _, .int i => .int i
  | _, _, .str x => .str x
  | _, _, .lst h a => .lst (L2.Same.seq s h) (DpAll.same s _ _ a)
  | _, _, .tup h a => .tup (Toy.Same.tup s h) (DpAll.same s _ _ a)
theorem DpAll.same (s : Same H H') : ∀ (ds : List PyData) (vs : List V), DpAll K H vs ds → DpAll K H' vs ds
  | _, _, .nil => .nil
  | _, _, .cons h t => .cons (Dp.same s _ _ h) (DpAll.same s _ _ t)
end
end
/-! ### what stays: tuples; all but tables -/
/-- the tuples stay -/
def Tp (H H' : Hp) : Prop := ∀ b xs, Rd H b (.tup xs) → Rd H' b (.tup xs)
theorem Tp.refl (H : Hp) : Tp H H := fun _ _ h => h
theorem Tp.trans {H H1 H2 : Hp} (a : Tp H H1) (b : Tp H1 H2) : Tp H H2 := fun c xs h => b c xs (a c xs h)
theorem tp_ext {H H' : Hp} (e : LamX.ExtN H H') : Tp H H' := fun b xs h => by
  rcases h with h | ⟨o, h⟩
  · exact .inl (e _ _ h fun ps z => by cases z)
  · exact .inr ⟨o, e _ _ h fun ps z => by cases z⟩
theorem tp_same {H H' : Hp} (s : Same H H') : Tp H H' := tp_ext (LamX.ExtN.of s)
theorem tp_lst {H : Hp} {D : Addr} {xs ys : List V} (h : H D = some (.lst xs)) : Tp H (upd H D (.lst ys)) := fun b zs q => by
  have n : b ≠ D := fun e => by
    subst e
    rcases q with q | ⟨o, q⟩
    · rw [h] at q; cases q
    · rw [h] at q; cases q
  rcases q with q | ⟨o, q⟩
  · exact .inl ((upd_ne n).trans q)
  · exact .inr ⟨o, (upd_ne n).trans q⟩
theorem tp_new {H : Hp} {D : Addr} {o : HO} (h : H D = Option.none) : Tp H (upd H D o) := tp_same (same_upd h)
section
variable {K : PySem.W.Frag} {H H' : Hp}
theorem Tp.sqt {a : Addr} {xs : List V} (s : Tp H H') (h : SqT K H a xs) : SqT K H' a xs := by
  rcases h with h | h
  · exact .inl (s _ _ h)
  · exact .inr h
mutual
/-- ints, texts, tuples of such -/
def tOnly : PyData → Bool
  | .int _ => true
  | .str _ => true
  | .tuple xs => tOnlyAll xs
  | _ => false
def tOnlyAll : List PyData → Bool
  | [] => true
  | x :: xs => tOnly x && tOnlyAll xs
end
mutual
theorem Dp.tp (s : Tp H H') : ∀ (d : PyData) (v : V), tOnly d = true → Dp K H v d → Dp K H' v d
  | .int i, _, _, h => by cases h; exact .int i
  | .str x, _, _, h => by cases h; exact .str x
  | .tuple xs, _, t, h => by
    cases h with
    | tup h1 h2 => exact .tup (s.sqt h1) (DpAll.tp s xs _ (by simpa [tOnly] using t) h2)
  | .none, _, t, _ => by simp [tOnly] at t
  | .bool _, _, t, _ => by simp [tOnly] at t
  | .list _, _, t, _ => by simp [tOnly] at t
  | .dict _, _, t, _ => by simp [tOnly] at t
theorem DpAll.tp (s : Tp H H') : ∀ (ds : List PyData) (vs : List V), tOnlyAll ds = true → DpAll K H vs ds → DpAll K H' vs ds
  | [], _, _, h => by cases h; exact .nil
  | d :: ds, _, t, h => by
    cases h with
    | cons h1 h2 =>
      have t' : tOnly d = true ∧ tOnlyAll ds = true := by simpa [tOnlyAll] using t
      exact .cons (Dp.tp s d _ t'.1 h1) (DpAll.tp s ds _ t'.2 h2)
end
theorem tOnly_ints (r : List Int) : tOnlyAll (r.map .int) = true := by
  induction r with
  | nil => rfl
  | cons x xs ih => simp [tOnlyAll, tOnly, ih]
theorem tOnly_rD (r : List Int) : tOnly (rD r) = true := tOnly_ints r
theorem tOnly_rows (rs : List (List Int)) : tOnlyAll (rs.map rD) = true := by
  induction rs with
  | nil => rfl
  | cons x xs ih => simp [tOnlyAll, tOnly, ih, tOnly_ints]
/-! ### comprehensions that map -/
/-- i items are made at D, each as R says; all that was before stands -/
def MapAt (H1 : Hp) (D : Addr) (R : Nat → V → Hp → Prop) (i : Nat) (H : Hp) : Prop := ∃ ys, Same H1 H ∧ H D = some (.lst ys) ∧ ys.length = i ∧ ∀ (j : Nat) (y : V), ys[j]? = some y → R j y H
theorem mapAt_0 {H1 : Hp} {D : Addr} {R : Nat → V → Hp → Prop} (hD : H1 D = Option.none) : MapAt H1 D R 0 (upd H1 D (.lst [])) := ⟨[], same_upd hD, upd_same, rfl, fun j y h => by simp at h⟩
theorem mapAt_step {H1 H H4 : Hp} {D : Addr} {R : Nat → V → Hp → Prop} {i : Nat} {y : V} (h : MapAt H1 D R i H) (hD : H1 D = Option.none) (hz : i < sizeLine) (s : Same H H4) (hR : ∀ i v H H', R i v H → Tp H H' → R i v H') (r : R i y H4) :
    ∃ acc, H4 D = some (.lst acc) ∧ acc.length < sizeLine ∧ MapAt H1 D R (i + 1) (upd H4 D (.lst (acc ++ [y]))) := by
  obtain ⟨ys, h1, h2, h3, h4⟩ := h
  have e4 := s _ _ h2
  have t : Tp H4 (upd H4 D (.lst (ys ++ [y]))) := tp_lst e4
  refine ⟨ys, e4, by rw [h3]; exact hz, ys ++ [y], fun b o e => ?_, upd_same, by simp [h3], fun j z hz => ?_⟩
  · rw [upd_ne (ne_of_none e hD)]
    exact s _ _ (h1 _ _ e)
  · by_cases hj : j < ys.length
    · rw [List.getElem?_append_left hj] at hz
      exact hR _ _ _ _ (hR _ _ _ _ (h4 j z hz) (tp_same s)) t
    · rw [List.getElem?_append_right (by omega)] at hz
      have ej : j - ys.length = 0 := by
        by_cases q : j - ys.length = 0
        · exact q
        · rw [List.getElem?_eq_none (by simp; omega)] at hz; cases hz
      rw [ej] at hz
      simp at hz
      subst hz
      have : j = i := by omega
      subst this
      exact hR _ _ _ _ r t
/-- the items as a list, when each is told by its place -/
theorem items_eq {n : Nat} {ys : List V} {f : Nat → V} (h : ys.length = n) (e : ∀ (j : Nat) (y : V), ys[j]? = some y → y = f j) : ys = (List.range n).map f := by
  refine List.ext_getElem? fun i => ?_
  by_cases hi : i < n
  · have hi' : i < ys.length := by omega
    rw [List.getElem?_map, List.getElem?_range hi, List.getElem?_eq_getElem hi', e i _ (List.getElem?_eq_getElem hi')]
    rfl
  · rw [List.getElem?_eq_none (by omega), List.getElem?_eq_none (by simp; omega)]
/-- rows made one by one read as the rows -/
theorem dpAll_get {ys : List V} {ds : List PyData} (hl : ys.length = ds.length) (e : ∀ (j : Nat) (y : V) (d : PyData), ys[j]? = some y → ds[j]? = some d → Dp K H y d) : DpAll K H ys ds := by
  induction ys generalizing ds with
  | nil =>
    cases ds with
    | nil => exact .nil
    | cons d ds => simp at hl
  | cons y ys ih =>
    cases ds with
    | nil => simp at hl
    | cons d ds => exact .cons (e 0 y d rfl rfl) (ih (by simpa using hl) fun j y d h1 h2 => e (j + 1) y d (by simpa using h1) (by simpa using h2))
end
/-! ### a comprehension's scope, by its place -/
def rvOf : Stmt → Expr
  | .Return (some e) _ => e
  | .Assign _ e _ => e
  | _ => .Constant .none 0 ⟨0, 0, 0, 0⟩
def scOf : Expr → Scope
  | .ListComp _ _ s _ => s
  | _ => { kind := .function, names := [], isGenerator := false, isCoroutine := false }
theorem relabel_look {env : Env} {y : Str} : ∀ {names : List (Str × NameKind)}, names.lookup y = some .cell ∨ names.lookup y = some .free →
    (names.map fun (n, k) => if (k == NameKind.free && env.scope.kind == .function && env.kindOf n == some .cell) then (n, NameKind.cell) else (n, k)).lookup y = some .cell ∨
    (names.map fun (n, k) => if (k == NameKind.free && env.scope.kind == .function && env.kindOf n == some .cell) then (n, NameKind.cell) else (n, k)).lookup y = some .free
  | [], h => by simp at h
  | (n, k) :: r, h => by
    have ih := @relabel_look env y r
    by_cases e : y = n
    · subst e
      simp only [List.lookup_cons, beq_self_eq_true] at h
      simp only [List.map_cons]
      rcases h with h | h <;> (cases h; split <;> simp)
    · have e' : (y == n) = false := by simpa using e
      simp only [List.lookup_cons, e'] at h
      have q := ih h
      simp only [List.map_cons]
      split <;> simpa [List.lookup_cons, e'] using q
/-- a comprehension within a comprehension -/
theorem blkOk_in {N : List Str} {sc scope : Scope} {own : List (Str × Nat)} {env : Env} (h : blkC N sc scope own = true) : BlkOk N (relabel sc env) scope own := by
  have b := blkOk_by h
  exact ⟨b.kind, b.uniq, b.ix, fun y hy e => relabel_look (b.free y hy e), b.own⟩
/-- tuple(xs) -/
def rTupOf (K : PySem.W.Frag) : List V → Hp → VK → Prop := fun xs H Q => ∃ p ys, xs = [.ref p] ∧ ((SqL K H p ys ∧ ∀ l, H l = Option.none → Q (.ref l) (upd H l (.tup ys))) ∨ (SqT K H p ys ∧ Q (.ref p) H))
theorem dpAll_app {K : PySem.W.Frag} {H : Hp} : ∀ {xs ys : List V} {ds es : List PyData}, DpAll K H xs ds → DpAll K H ys es → DpAll K H (xs ++ ys) (ds ++ es)
  | _, _, _, _, .nil, h => h
  | _, _, _, _, .cons h t, h2 => .cons h (dpAll_app t h2)
theorem DpAll.len {K : PySem.W.Frag} {H : Hp} : ∀ {xs : List V} {ds : List PyData}, DpAll K H xs ds → xs.length = ds.length
  | _, _, .nil => rfl
  | _, _, .cons _ t => congrArg (· + 1) (DpAll.len t)
theorem dpAll_at {K : PySem.W.Frag} {H : Hp} : ∀ {xs : List V} {ds : List PyData} {i : Nat} {x : V} {d : PyData}, DpAll K H xs ds → xs[i]? = some x → ds[i]? = some d → Dp K H x d
  | _, _, _, _, _, .nil, h, _ => by simp at h
  | _, _, 0, _, _, .cons a _, h1, h2 => by
    simp at h1 h2
    subst h1 h2
    exact a
  | _, _, i + 1, _, _, .cons _ t, h1, h2 => dpAll_at (i := i) t (by simpa using h1) (by simpa using h2)
theorem dpAll_ints_eq {K : PySem.W.Frag} {H : Hp} : ∀ {xs : List V} {r : List Int}, DpAll K H xs (r.map .int) → xs = r.map V.int
  | _, [], h => by cases h; rfl
  | _, n :: r, h => by
    cases h with
    | cons a t =>
      cases a
      rw [dpAll_ints_eq t]
      rfl
section
variable {P : Program} {w : World} {K : PySem.W.Frag} {mg : Str → Option Value} {base : Heap}
/-- a tuple's items read as ints -/
theorem dpAll_ints_eq' {H : Hp} : ∀ {xs : List V} {ns : List Int}, DpAll K H xs (ns.map .int) → xs = ns.map V.int
  | [], [], _ => rfl
  | [], _ :: _, h => by cases h
  | _ :: _, [], h => by cases h
  | x :: xs, n :: ns, h => by
    cases h with
    | cons h1 h2 =>
      cases h1
      rw [dpAll_ints_eq' h2]
      rfl
theorem row_at {H : Hp} {xs : List V} {rs : List (List Int)} {i : Nat} {x : V} (h : DpAll K H xs (rs.map rD)) (hx : xs[i]? = some x) : ∃ a r, rs[i]? = some r ∧ x = .ref a ∧ SqT K H a (r.map V.int) := by
  have hi : i < rs.length := by
    have h1 := Toy.DpAll.len h
    have h2 := (List.getElem?_eq_some_iff.mp hx).1
    rw [List.length_map] at h1
    omega
  have dx2 : Dp K H x (rD rs[i]) := dpAll_at h hx (by rw [List.getElem?_map, List.getElem?_eq_getElem hi]; rfl)
  cases dx2 with
  | @tup b zs _ hb hbs =>
    have ez := dpAll_ints_eq' hbs
    subst ez
    exact ⟨b, rs[i], List.getElem?_eq_getElem hi, rfl, hb⟩
theorem rows_tup {H : Hp} {v : V} {rs : List (List Int)} (h : Dp K H v (rsD rs)) : ∃ a xs, v = .ref a ∧ SqT K H a xs ∧ DpAll K H xs (rs.map rD) := by
  cases h with
  | @tup b zs _ hb hbs => exact ⟨b, zs, rfl, hb, hbs⟩
end

theorem val3 {x y z : V} {us : List Value} (r : Vals [x, y, z] us) : ∃ a b c, us = [a, b, c] ∧ RelV x a ∧ RelV y b ∧ RelV z c := by
  cases r with
  | cons h1 t =>
    cases t with
    | cons h2 t =>
      cases t with
      | cons h3 t =>
        cases t
        exact ⟨_, _, _, rfl, h1, h2, h3⟩
section
variable {P : Program} {w : World} {K : PySem.W.Frag} {mg : Str → Option Value} {base : Heap} {Φ : Heap → Prop} {D U : Nat}
theorem isi_int {i : Int} {t : Tok} {T : String} {b : Bool} (h : PySem.W.kitOne K (.type "int") (.type T) = some b) : Isi K Φ (.int i t) T b :=
  ⟨.type "int", fun _ => True, PySem.W.kitx_int, fun _ _ => trivial, h, fun z => nomatch z⟩
theorem glo {cenv : Env} {sc : Scope} {x : Str} {k : NameKind} (e : cenv.scope = sc) (h : sc.names.lookup x = some k) : cenv.kindOf x = some k := by
  show cenv.scope.names.lookup x = _
  rw [e]
  exact h
theorem is_integer_pu (T : Txt K mg) (Sx : Stay K mg Φ) (hD : D < recursionLimit) (i : Int) (t : Tok) : PuG P w Φ D U T.is_integer.f T.is_integer.fd P_is_integer [.int i t] (· = .bool true) := by
  refine pf_of T.is_integer.F sc_is_integer Sx rfl rfl hD fun cenv ev hsc => ?_
  have hv : ∀ {pos : Pos}, PuE P w Φ cenv (bindL cenv.kindOf (P_is_integer.zip [Value.int i t]) fun _ => Option.none) (D + 1) (U + 3) (.Name "value" pos) (· = .int i t) := fun {pos} =>
    pu_name ev (by rw [hsc]; rfl) (bindL_get (i := 0) (by decide) rfl rfl (glo hsc rfl))
  exact pu_and Sx (x := true) (y := true) (pu_isi Sx ev (glo hsc rfl) T.n_isinstance (glo hsc rfl) T.n_int bo_int hv (isi_int kit_int_int))
    (fun _ => pu_not (x := false) (pu_isi Sx ev (glo hsc rfl) T.n_isinstance (glo hsc rfl) T.n_bool bo_bool hv (isi_int kit_int_bool)))
theorem is_integer_in_pu (T : Txt K mg) (Sx : Stay K mg Φ) (hD : D + 1 < recursionLimit) (i lo hi : Int) (t t2 t3 : Tok) :
    PuG P w Φ D U T.is_integer_in.f T.is_integer_in.fd P_is_integer_in [.int i t, .int lo t2, .int hi t3] (· = .bool (decide (lo ≤ i) && decide (i ≤ hi))) := by
  refine pf_of T.is_integer_in.F sc_is_integer_in Sx rfl rfl (by omega) fun cenv ev hsc => ?_
  have hv : ∀ {pos : Pos}, PuE P w Φ cenv (bindL cenv.kindOf (P_is_integer_in.zip [Value.int i t, .int lo t2, .int hi t3]) fun _ => Option.none) (D + 1) (U + 3) (.Name "value" pos) (· = .int i t) := fun {pos} =>
    pu_name ev (by rw [hsc]; rfl) (bindL_get (i := 0) (by decide) rfl rfl (glo hsc rfl))
  have hl : ∀ {pos : Pos}, PuE P w Φ cenv (bindL cenv.kindOf (P_is_integer_in.zip [Value.int i t, .int lo t2, .int hi t3]) fun _ => Option.none) (D + 1) (U + 3) (.Name "low" pos) (· = .int lo t2) := fun {pos} =>
    pu_name ev (by rw [hsc]; rfl) (bindL_get (i := 1) (by decide) rfl rfl (glo hsc rfl))
  have hh : ∀ {pos : Pos}, PuE P w Φ cenv (bindL cenv.kindOf (P_is_integer_in.zip [Value.int i t, .int lo t2, .int hi t3]) fun _ => Option.none) (D + 1) (U + 3) (.Name "high" pos) (· = .int hi t3) := fun {pos} =>
    pu_name ev (by rw [hsc]; rfl) (bindL_get (i := 2) (by decide) rfl rfl (glo hsc rfl))
  refine PuE.imp (pu_and Sx (x := true) (y := decide (lo ≤ i) && decide (i ≤ hi)) (pu_call (f := T.is_integer.f) (R := (· = .bool true)) Sx ev (glo hsc rfl) T.is_integer.g T.is_integer.F.kp (pua_cons Sx hv pua_nil) ?_)
    (fun _ => pu_chain Sx (PuE.imp hl fun y e => ⟨t2, e⟩) (PuE.imp hv fun y e => ⟨t, e⟩) (PuE.imp hh fun y e => ⟨t3, e⟩))) fun y e => ?_
  · rintro us ⟨u, vs, rfl, rfl, rfl⟩
    exact PuG.pos (is_integer_pu T Sx hD i t) Sx (b_is_integer T) rfl
  · rw [e, Bool.true_and]
/-- the two as promises -/
def sp_is_integer : Sp := fun vs H Q _ => ∃ i : Int, vs = [.int i] ∧ Q (.bl true) H
theorem ok_is_integer (T : Txt K mg) : FnOk P w K mg base CX0 1 T.is_integer.f T.is_integer.fd P_is_integer sp_is_integer := by
  refine fnOk_pu (fun vs H Q E h => ?_) (fun A outer s H us vs Q E hr he hv h => ?_)
  · obtain ⟨i, rfl, _⟩ := h; rfl
  · obtain ⟨i, rfl, q⟩ := h
    obtain ⟨u, rfl, ⟨t, rfl⟩⟩ := vals1 hv
    refine ⟨fun h => Kp s.heap h, _, fun _ _ e => e, is_integer_pu T (stay_all he.mod fun b o e => (he.bs b o e).1) (by have := hr.dp; omega) i t, ?_⟩
    rintro y rfl
    exact ⟨.bl true, rfl, q⟩
def sp_is_integer_in : Sp := fun vs H Q _ => ∃ i lo hi : Int, vs = [.int i, .int lo, .int hi] ∧ Q (.bl (decide (lo ≤ i) && decide (i ≤ hi))) H
theorem ok_is_integer_in (T : Txt K mg) : FnOk P w K mg base CX0 2 T.is_integer_in.f T.is_integer_in.fd P_is_integer_in sp_is_integer_in := by
  refine fnOk_pu (fun vs H Q E h => ?_) (fun A outer s H us vs Q E hr he hv h => ?_)
  · obtain ⟨i, lo, hi, rfl, _⟩ := h; rfl
  · obtain ⟨i, lo, hi, rfl, q⟩ := h
    obtain ⟨u, u2, u3, rfl, ⟨t, rfl⟩, ⟨t2, rfl⟩, ⟨t3, rfl⟩⟩ := val3 hv
    refine ⟨fun h => Kp s.heap h, _, fun _ _ e => e, is_integer_in_pu T (stay_all he.mod fun b o e => (he.bs b o e).1) (by have := hr.dp; omega) i lo hi t t2 t3, ?_⟩
    rintro y rfl
    exact ⟨.bl _, rfl, q⟩
/-- the element of is_order's and is_monomial's all(..) -/
theorem elt_in {X : Cx} {Tb : Addr} {sc : Scope} {x : Str} {xs : List Int} {H1 : Hp} {lo hi : Int} {g : Str} {p1 p2 p3 p4 p5 : Pos} {j : Nat} {th : Tok} (T : Txt X.K X.mg) (hr : Room 12 X.A) (hx : sc.names.lookup x = some .local) (hf : sc.names.lookup ("is_integer_in" : Str) = some .globalImplicit) (hg : sc.names.lookup g = some .globalImplicit)
    (mgh : X.mg g = some (.int hi th)) (hd : (x == ("__debug__" : Str)) = false) (hd2 : (g == ("__debug__" : Str)) = false) :
    EltT X Tb sc x (.Call (.Name "is_integer_in" p1) [.Name x p2, .Constant (.int lo) j p3, .Name g p4] [] p5) (xs.map V.int) (fun i => decide (lo ≤ xs.getD i 0) && decide (xs.getD i 0 ≤ hi)) H1 := by
  intro Φ pins σ t1 cenv m i v u Sx I hΦ ev hsc _ hi' rv hm
  have hlt : i < xs.length := by have := (List.getElem?_eq_some_iff.mp hi').1; simpa using this
  rw [List.getElem?_map, List.getElem?_eq_getElem hlt] at hi'
  obtain rfl := Option.some.inj hi'
  obtain ⟨t, rfl⟩ := rv
  have eg : xs.getD i 0 = xs[i] := by rw [List.getD_eq_getElem?_getD, List.getElem?_eq_getElem hlt]; rfl
  refine PuE.imp (R := (· = .bool (decide (lo ≤ xs[i]) && decide (xs[i] ≤ hi)))) ?_ (fun y e => by rw [e]; simp only [eg])
  refine pu_call (f := T.is_integer_in.f) Sx ev (glo hsc hf) T.is_integer_in.g T.is_integer_in.F.kp (pua_cons Sx (pu_name ev (by rw [hsc]; exact hx) hm hd) (pua_cons Sx pu_int (pua_cons Sx (pu_glob Sx ev (glo hsc hg) mgh hd2) pua_nil))) ?_
  rintro us ⟨u, vs, rfl, rfl, u2, vs2, rfl, ⟨t2, rfl⟩, u3, vs3, rfl, rfl, rfl⟩
  exact PuG.pos (is_integer_in_pu T Sx (by have := hr.dp; omega) _ _ _ t t2 th) Sx (b_is_integer_in T) rfl
end

section
variable {P : Program} {w : World} {K : PySem.W.Frag} {mg : Str → Option Value} {base : Heap}
theorem okC {x qual : Str} {st : Stmt} {f : Addr} {fd : FuncData} {N ps : List Str} {k : Nat} {sp : Sp} {c : Addr} (F : Fun K x qual st f fd) (hc : fd.code = .ref c) (S : FnScope N ps (defScope st)) (len : ∀ vs H Q E, sp vs H Q E → vs.length = ps.length)
    (hbody : ∀ (A : Around) (outer : List Env) (s : Shared) (H : Hp) (vs : List V) (Q : VK) (E : XK), Room k (A.deeper (PyProof.Rows.envOfC qual (defScope st) s.heap.objs.size f (.ref c))) → sp vs H Q E →
      ∃ t, PSs (cxOf CX0 P w K mg base N qual (defScope st) f (.ref c) A outer s H E).nox (defBody st) t ∧ t { nx := fun _ H' => Q .non H', rt := Q } (L2.start N vs) H) : FnOk P w K mg base CX0 (k + 1) f fd ps sp := by
  obtain ⟨oc, od, kV, doc, pm, an, cdv, ct, osl, rfl, lk, hcd⟩ := F.ex
  have e : cdv = .ref c := hc
  subst e
  refine fn_of lk hcd S len fun A outer s H vs Q E hr hsp => ?_
  obtain ⟨t, h, q⟩ := hbody A outer s H vs Q E hr hsp
  exact ⟨t, h.nox, q⟩
end

/-! ### tables of the defs that make generator expressions and lambdas -/
def gensL : List Str := ["is_row_of_indexes", "is_complex"]
def lamsL : List Str := []
structure TabsAt where
  a : Str → Addr
  ne : ∀ x ∈ gensL ++ lamsL, ∀ y ∈ gensL ++ lamsL, x ≠ y → a x ≠ a y
def qLam (x : Str) : Str := x ++ ".<locals>." ++ "<lambda>"
def lamT (x : Str) (Pt : Addr) : List (Addr × Str) := [(Pt, qLam x)]
structure TS (t : TabsAt) (H : Hp) : Prop where
  g : ∀ x ∈ gensL, GxR.TabG H (t.a x)
  l : ∀ x ∈ lamsL, LamX.Tabs (lamT x (t.a x)) H
theorem tabG_eq {H H' : Hp} {p : Addr} (h : GxR.TabG H p) (e : H' p = H p) : GxR.TabG H' p := by
  obtain ⟨ps, h1, h2⟩ := h
  exact ⟨ps, e.trans h1, h2⟩
theorem TS.same {t : TabsAt} {H H' : Hp} (h : TS t H) (s : Same H H') : TS t H' := by
  have g : ∀ {p : Addr}, GxR.TabG H p → GxR.TabG H' p := fun {p} ⟨ps, h1, h2⟩ => ⟨ps, s _ _ h1, h2⟩
  exact ⟨fun x hx => g (h.g x hx), fun x hx => (h.l x hx).ext s⟩
theorem tabs_off {H H' : Hp} {x : Str} {l p : Addr} (h : LamX.Tabs (lamT x l) H) (hp : GxR.TabG H p) (n : p ≠ l) (e : ∀ b, b ≠ p → H' b = H b) : LamX.Tabs (lamT x l) H' := fun z hz => by
  unfold lamT at hz
  rw [List.mem_singleton] at hz
  subst hz
  obtain ⟨ps, a1, a2, a3⟩ := h (l, qLam x) List.mem_cons_self
  obtain ⟨ps', p1, _⟩ := hp
  refine ⟨ps, (e _ n.symm).trans a1, a2, fun pos cv hcv => ?_⟩
  obtain ⟨cz, q1, q2⟩ := a3 pos cv hcv
  refine ⟨cz, q1, (e _ fun z => ?_).trans q2⟩
  rw [z, p1] at q2
  unfold LamX.CodeO at q2
  cases q2
theorem ext_tab {H H' : Hp} {p : Addr} (hp : GxR.TabG H p) (e : GxR.Tabbed p H H') : LamX.ExtN H H' := fun b o h n => by
  obtain ⟨ps, p1, _⟩ := hp
  have nb : b ≠ p := fun z => by
    subst z
    rw [p1] at h
    exact n ps (Option.some.inj h).symm
  exact (e.2 b nb).trans h
/-- the tables when one of a generator expression has grown -/
theorem TS.tab {t : TabsAt} {H H' : Hp} (h : TS t H) {x : Str} (hx : x ∈ gensL) (hd : x ∉ lamsL) (e : GxR.Tabbed (t.a x) H H') : TS t H' := by
  refine ⟨fun y hy => ?_, fun y hy => ?_⟩
  · by_cases hxy : y = x
    · subst hxy; exact e.1
    · exact tabG_eq (h.g y hy) (e.2 _ (t.ne y (List.mem_append_left _ hy) x (List.mem_append_left _ hx) hxy))
  · have hxy : x ≠ y := fun z => hd (z ▸ hy)
    exact tabs_off (h.l y hy) (h.g x hx) (t.ne x (List.mem_append_left _ hx) y (List.mem_append_right _ hy) hxy) e.2
/-- the tables when a lambda's has grown -/
theorem TS.lam {t : TabsAt} {H H' : Hp} (h : TS t H) {x : Str} (hx : x ∈ lamsL) (hd : x ∉ gensL) (kb : ∀ b o, b ≠ t.a x → H b = some o → H' b = some o) (n : LamX.Tabs (lamT x (t.a x)) H') (hp : ∃ ps, H (t.a x) = some (.tbl ps)) : TS t H' := by
  refine ⟨fun y hy => ?_, fun y hy => ?_⟩
  · obtain ⟨ps, h1, h2⟩ := h.g y hy
    exact ⟨ps, kb _ _ (t.ne y (List.mem_append_left _ hy) x (List.mem_append_right _ hx) fun z => hd (z ▸ hy)) h1, h2⟩
  · by_cases hxy : y = x
    · subst hxy; exact n
    · intro z hz
      unfold lamT at hz
      rw [List.mem_singleton] at hz
      subst hz
      obtain ⟨ps, a1, a2, a3⟩ := h.l y hy (t.a y, qLam y) List.mem_cons_self
      obtain ⟨ps', p1⟩ := hp
      refine ⟨ps, kb _ _ (t.ne y (List.mem_append_right _ hy) x (List.mem_append_right _ hx) hxy) a1, a2, fun pos cv hcv => ?_⟩
      obtain ⟨cz, q1, q2⟩ := a3 pos cv hcv
      refine ⟨cz, q1, kb _ _ (fun z => ?_) q2⟩
      rw [z, p1] at q2
      unfold LamX.CodeO at q2
      cases q2
/-- all but tables stays, and the tables are in order -/
structure Ex (t : TabsAt) (H H' : Hp) : Prop where
  keep : LamX.ExtN H H'
  ts : TS t H'
theorem Ex.same {t : TabsAt} {H H1 H2 : Hp} (a : Ex t H H1) (s : Same H1 H2) : Ex t H H2 := ⟨fun b o e n => s _ _ (a.keep b o e n), a.ts.same s⟩
theorem Ex.trans {t : TabsAt} {H H1 H2 : Hp} (a : Ex t H H1) (b : Ex t H1 H2) : Ex t H H2 := ⟨a.keep.trans b.keep, b.ts⟩
theorem Ex.of {t : TabsAt} {H H1 : Hp} (h : TS t H) (s : Same H H1) : Ex t H H1 := ⟨LamX.ExtN.of s, h.same s⟩
theorem Ex.tab {t : TabsAt} {H H' : Hp} (h : TS t H) {x : Str} (hx : x ∈ gensL) (hd : x ∉ lamsL) (e : GxR.Tabbed (t.a x) H H') : Ex t H H' := ⟨ext_tab (h.g x hx) e, h.tab hx hd e⟩
/-! ### the generator expressions' scopes -/
def geSc : Expr → Scope
  | .GeneratorExp _ _ s _ => s
  | _ => { kind := .function, names := [], isGenerator := false, isCoroutine := false }
def ar0 : Expr → Expr
  | .Call _ (e :: _) _ _ => e
  | _ => .Constant .none 0 ⟨0, 0, 0, 0⟩
def bo0 : Expr → Expr
  | .BoolOp _ (e :: _) _ => e
  | _ => .Constant .none 0 ⟨0, 0, 0, 0⟩
def ifT : Stmt → Expr
  | .If e _ _ _ => e
  | _ => .Constant .none 0 ⟨0, 0, 0, 0⟩
def stN (s : Stmt) (i : Nat) : Stmt := (defBody s).getD i (.Pass ⟨0, 0, 0, 0⟩)
/-- the tables' owners -/
structure TBs {K : PySem.W.Frag} {mg : Str → Option Value} (T : Txt K mg) (base : Heap) (t : TabsAt) where
  c : Str → Addr
  h_is_row_of_indexes : T.is_row_of_indexes.fd.code = .ref (c "is_row_of_indexes")
  b_is_row_of_indexes : GxR.TabB base mg (c "is_row_of_indexes") (t.a "is_row_of_indexes")
  h_is_complex : T.is_complex.fd.code = .ref (c "is_complex")
  b_is_complex : GxR.TabB base mg (c "is_complex") (t.a "is_complex")

/-! ### the model: tables, echelons, complexes, Betti numbers -/
abbrev IT2 := List (Int × Int)
def getD2 : IT2 → Int → Option Int
  | [], _ => none
  | e :: r, k => if e.1 = k then some e.2 else getD2 r k
def hasD2 : IT2 → Int → Bool
  | [], _ => false
  | e :: r, k => if e.1 = k then true else hasD2 r k
def putD2 : IT2 → Int → Int → IT2
  | [], k, v => [(k, v)]
  | e :: r, k, v => if e.1 = k then (e.1, v) :: r else e :: putD2 r k v
def invL (n p : Int) : Int := (List.range (p - 2).toNat).foldl (fun a _ => a * n % p) 1
def slotL (c : Int) : Int := if 0 ≤ c then 2 * c else -2 * c - 1
def bitsL (D : IT2) : Int := D.foldl (fun s e => s + e.2 * (2 ^ (32 * (slotL e.1).toNat) : Nat)) 0
def colL (s : Nat) : Int := if s % 2 = 1 then -(((s : Int) + 1) / 2) else (s : Int) / 2
def setP (p : Int) (D : IT2) : IT2 := (D.filter fun e => decide (e.2 % p ≠ 0)).map fun e => (e.1, e.2 % p)
def rowGo : Nat → Nat → Nat → IT2
  | 0, _, _ => []
  | f + 1, left, at0 => if left = 0 then [] else ((List.range 32).map fun i => (colL (at0 + i), (((left >>> (32 * i)) % 2 ^ 32 : Nat) : Int))) ++ rowGo f (left >>> 1024) (at0 + 32)
def okD (D : IT2) : Bool := decide (D.length ≤ 1000) && D.all fun e => decide (0 ≤ e.1) && decide (e.1 ≤ 1000) && decide (e.2.natAbs < 2 ^ 60)
def restStep (p : Int) (l : Int) (e : Int × Int) : Int :=
  let n := l / 2 ^ (32 * (slotL e.1).toNat) % 2 ^ 32 % p
  if n = 0 then l else l + (p - n) * e.2
def restPO (p : Int) (rows row : IT2) : Option IT2 :=
  let left := rows.foldl (restStep p) (bitsL (setP p row))
  if left.toNat < 2 ^ 8192 then some (setP p (rowGo 8 left.toNat 0)) else none
def minL : List Int → Option Int
  | [] => none
  | a :: r => some (r.foldl (fun m x => if x < m then x else m) a)
def putPO (p : Int) (rows row : IT2) : Option IT2 :=
  match restPO p rows row with
  | none => none
  | some left => if okD left = false then none else match minL ((left.map (·.1)).filter fun c => decide (0 ≤ c)) with
    | none => some rows
    | some c => match getD2 left c with
      | none => none
      | some v => if hasD2 rows c then none else some (rows ++ [(c, bitsL (left.map fun e => (e.1, e.2 * invL v p % p)))])
def rankPO (p : Int) (rows : List IT2) : Option Nat := (rows.foldlM (putPO p) []).map List.length
abbrev RT2 := List (Int × IT2)
def setZ (D : IT2) : IT2 := D.filter fun e => decide (e.2 ≠ 0)
def cancS (n : Int) (t : IT2) (e : Int × Int) : IT2 := putD2 t e.1 ((getD2 t e.1).getD 0 - n * e.2)
def cancT (row : IT2) (n : Int) (other : IT2) (first : Int) : IT2 := other.foldl (cancS n) (row.map fun e => (e.1, e.2 * first))
def gcdF (D : IT2) (c : Nat) : Nat := D.foldl (fun g e => Nat.gcd g e.2.natAbs) c
def cancL (row : IT2) (n : Int) (other : IT2) (first : Int) : IT2 :=
  let t := cancT row n other first
  let c := gcdF t 0
  if 1 < c then t.map fun e => (e.1, e.2 / (c : Int)) else t
def restZS (l : IT2) (e : Int × IT2) : Option IT2 :=
  if (getD2 l e.1).getD 0 = 0 then some l else match getD2 e.2 e.1 with
    | none => none
    | some v => let r := cancL l ((getD2 l e.1).getD 0) e.2 v
      if okD r then some r else none
def restZO (rows : RT2) (row : IT2) : Option IT2 := (rows.foldlM restZS (setZ row)).map setZ
def hasR : RT2 → Int → Bool
  | [], _ => false
  | e :: r, k => if e.1 = k then true else hasR r k
def putZO (rows : RT2) (row : IT2) : Option RT2 :=
  match restZO rows row with
  | none => none
  | some left => match minL ((left.map (·.1)).filter fun c => decide (0 ≤ c)) with
    | none => some rows
    | some c => if hasR rows c then none else some (rows ++ [(c, left)])
def rankZO (rows : List IT2) : Option Nat := (rows.foldlM putZO []).map List.length
def rankO (f : Int) (rows : List IT2) : Option Nat := if f = 0 then rankZO rows else rankPO f rows
-- rows
def ltR : List Int → List Int → Bool
  | [], [] => false
  | [], _ :: _ => true
  | _ :: _, [] => false
  | a :: l, b :: m => if a < b then true else if b < a then false else ltR l m
def insR (x : List Int) : List (List Int) → List (List Int)
  | [] => [x]
  | y :: l => if ltR y x then y :: insR x l else x :: y :: l
def isort (l : List (List Int)) : List (List Int) := l.foldr insR []
def maskOf (s : List Int) : Nat := s.foldl (fun a p => a + 2 ^ p.toNat) 0
def setOf (m : Nat) : List Int := ((List.range (if m = 0 then 0 else Nat.log2 m + 1)).filter fun i => decide ((m >>> i) % 2 = 1)).map fun (i : Nat) => (i : Int)
def holdsM (m o : Nat) : Bool := (m &&& o) == o
def freeMasks (n : Nat) (sets : List (List Int)) : List Nat := 
  let ms := sets.map maskOf
  (List.range (2 ^ n)).filter fun m => !ms.any fun o => holdsM m o
def levPut (L : List (List (List Int))) (r : List Int) : List (List (List Int)) :=
  let L' := L ++ List.replicate (r.length + 1 - L.length) []
  L'.modify r.length (· ++ [r])
def levelsL (ms : List Nat) : List (List (List Int)) := (isort (ms.map setOf)).foldl levPut []
def idxR : List (List Int) → List Int → Option Nat
  | [], _ => none
  | a :: l, r => if a = r then some 0 else (idxR l r).map (· + 1)
def borderO (r : List Int) (below : List (List Int)) : Option IT2 :=
  (List.range r.length).foldlM (fun D i => match idxR below (r.eraseIdx i) with | none => none | some k => some (putD2 D (k : Int) (if i % 2 = 0 then 1 else -1))) []
def brankO (f : Int) (lev below : List (List Int)) : Option Nat := do
  let rows ← lev.mapM fun r => borderO r below
  if rows.all okD then rankO f rows else none
def dimsO (f : Int) (L : List (List (List Int))) : Option (List Int) := do
  let rk ← (List.range (L.length - 1)).mapM fun k => brankO f (L.getD (k + 1) []) (L.getD k [])
  let ranks := 0 :: (rk ++ [0])
  some ((List.range L.length).map fun k => ((L.getD k []).length : Int) - (ranks.getD k 0 : Nat) - (ranks.getD (k + 1) 0 : Nat))
/-- the numbers of one set's subcomplex -/
def tripW (s : Int) (ins : List Int) : List (Int × Int × Int) := ((List.range ins.length).filter fun k => decide (ins.getD k 0 ≠ 0)).map fun (k : Nat) => (s - (k : Int), s, ins.getD k 0)
def tripO (f : Int) (ms : List Nat) (w : Nat) : Option (List (Int × Int × Int)) := (dimsO f (levelsL (ms.filter fun m => holdsM w m))).map fun ins => tripW ((setOf w).length : Int) ins
def triplesO (f : Int) (n : Nat) (sets : List (List Int)) : Option (List (Int × Int × Int)) := ((List.range (2 ^ n)).mapM (tripO f (freeMasks n sets))).map List.flatten
abbrev ST := List ((Int × Int) × Int)
def putS : ST → Int × Int → Int → ST
  | [], k, v => [(k, v)]
  | e :: r, k, v => if e.1 = k then (e.1, e.2 + v) :: r else e :: putS r k v
def insS (x : (Int × Int) × Int) : ST → ST
  | [] => [x]
  | y :: l => if (y.1.1 < x.1.1) || (y.1.1 = x.1.1 && y.1.2 < x.1.2) then y :: insS x l else x :: y :: l
def sqbettiO (f : Int) (n : Nat) (sets : List (List Int)) : Option (List (Int × Int × Int)) := do
  let t ← triplesO f n sets
  let s := t.foldl (fun s e => putS s (e.1, e.2.1) e.2.2) []
  some ((s.foldr insS []).map fun e => (e.1.1, e.1.2, e.2))
def ring : List (List Int) := [[0,1],[0,4],[1,2],[2,3],[3,4]]
def nonf (n : Nat) (fac : List (List Int)) : List (List Int) :=
  let ms := fac.map maskOf
  let c := (List.range (2 ^ n)).filter fun m => !ms.any fun o => holdsM o m
  isort ((c.filter fun m => !c.any fun o => (m != o) && holdsM m o).map setOf)
def plane : List (List Int) := [[0, 1, 3], [0, 1, 4], [0, 2, 3], [0, 2, 5], [0, 4, 5], [1, 2, 4], [1, 2, 5], [1, 3, 5],[2, 3, 4], [3, 4, 5]]

def gI (l : List Int) (i : Nat) : Int := l.getD i 0
theorem gI_get {l : List Int} {i : Nat} (h : i < l.length) : l[i]? = some (gI l i) := by
  unfold gI; rw [List.getD_eq_getElem?_getD, List.getElem?_eq_getElem h]; rfl

/-! ### enumerate(tuple) -/
section
open PySem.Spec PyProof.Rows
theorem meets_enumT {v : Value} {o : Obj} {H : Heap → Prop} (B : Begins v o H) :
    Meets (Builtin.«enumerate.__new__» ⟨[.type "enumerate", v], []⟩) (fun _ R s => H s.heap ∧
      R (.ok (.ret (.ref (s.heap.push o).objs.size))) { s with heap := (s.heap.push o).push { cls := .type "enumerate", data := .fields #[.none, .bool false, .ref s.heap.objs.size, rawInt 0, .none, .none] } }) :=
  .of_wp fun prog w A R s h => by
    obtain ⟨hp, g, d, tk, os⟩ := s
    obtain ⟨h1, h⟩ := h
    have hsub := sub_enumerate
    have q1 : ∀ {A' : Around} {E : Value → Shared → Prop} {Q : Value → Shared → Prop}, Q (.ref hp.objs.size) ⟨hp.push o, g, d, tk, os⟩ → wpAny (model prog w) A' (pyIter v) Q E ⟨hp, g, d, tk, os⟩ :=
      fun q => B.iter prog w _ _ ⟨hp, g, d, tk, os⟩ _ h1 q
    wp_walk using q1
    refine wpAny_stack_any fun st => wpAny_pure ?_
    split
    · rename_i c _ _ _ _ _
      cases (c == Value.type "enumerate")
      · wp_walk using q1
        exact ⟨_, rfl, h⟩
      · wp_walk using q1
        exact ⟨_, rfl, h⟩
    · wp_walk using q1
      exact ⟨_, rfl, h⟩
theorem enum_beginsT {prog : Program} {w : World} {A : Around} {E : Value → Shared → Prop} {s : Shared} {v : Value} {o : Obj} {H : Heap → Prop} {Q : Value → Shared → Prop} (B : Begins v o H) (h1 : H s.heap)
    (h : ∀ h', IsEnum h' (s.heap.objs.size + 1) s.heap.objs.size 0 .none → h'.get? s.heap.objs.size = some o → h'.objs.size = s.heap.objs.size + 2 →
      (∀ b o, s.heap.get? b = some o → h'.get? b = some o) → Q (.ref (s.heap.objs.size + 1)) { s with heap := h' }) :
    wpAny (model prog w) A (call (.type "enumerate") [v]) Q E s := by
  refine callType_new PySem.F.called_enumerate (by decide) (PySem.F.typeCall_enumerate_1 _) (PySem.F.newCall_enumerate_1 _) (fun obj => PySem.F.args_object_init_2 obj _) PySem.F.entry_enumerate_new (meets_enumT B) ⟨h1, ?_⟩
  have hz : (s.heap.push o).objs.size = s.heap.objs.size + 1 := Heap.size_push ..
  show _ ∧ _
  rw [hz]
  have he : IsEnum ((s.heap.push o).push { cls := .type "enumerate", data := .fields #[.none, .bool false, .ref s.heap.objs.size, rawInt 0, .none, .none] }) (s.heap.objs.size + 1) s.heap.objs.size 0 .none := by
    have := Heap.get?_push_size (s.heap.push o) (o := { cls := .type "enumerate", data := .fields #[.none, .bool false, .ref s.heap.objs.size, rawInt 0, .none, .none] }) rfl
    rw [hz] at this
    exact this
  refine ⟨⟨_, he, rfl⟩, h _ he (Heap.get?_push_of_some _ (Heap.get?_push_size _ B.free)) (by rw [Heap.size_push, hz]) fun b o x => Heap.get?_push_of_some _ (Heap.get?_push_of_some _ x)⟩
end
section
open PySem.Spec PyProof.Rows
/-- the tuple at a, each item in a new pair -/
def ItET (K : PySem.W.Frag) (a : Addr) : It :=
  ⟨fun i H => ∃ (xs : List V) (x : V), SqT K H a xs ∧ xs[i]? = some x, fun i H v H' => ∃ T x, v = .ref T ∧ H T = none ∧ H' = upd H T (.tup [.int (i : Nat), x]) ∧ ∀ xs, SqT K H a xs → xs[i]? = some x, fun i H => ∃ xs : List V, SqT K H a xs ∧ xs.length = i⟩
theorem turn_enumT {P : Program} {w : World} {K : PySem.W.Frag} {elts : List Expr} {kk : Nat} {tpos : Pos} (a e it : Addr) :
    Turn P w K (.Tuple elts kk tpos) (ItET K a) [e, it] e (fun i h => (∃ old, IsEnum h e it ((i : Nat) : Int) old) ∧ h.IsTupleIter it a i ∧ e ≠ it ∧ a ≠ it ∧ a ≠ e) where
  mem := by simp
  obj := fun i h st b hb => by
    obtain ⟨⟨old, he⟩, ⟨o, ho, hc, hd⟩, _⟩ := st
    have e' : b = e ∨ b = it := by simpa using hb
    rcases e' with z | z
    · rw [z]; exact ⟨_, he, fun v q => nomatch q⟩
    · rw [z]; exact ⟨o, ho, fun v q => by rw [hd] at q; cases q⟩
  keep := fun i h h' st k => let ⟨⟨old, he⟩, hi, hne⟩ := st; ⟨⟨old, k e (by simp) _ he⟩, hi.at fun o q => k it (by simp) o q, hne⟩
  item := by
    intro X hP hw hK hc i pins s σ H E I hf st hg
    subst hP hw hK
    obtain ⟨⟨old, he⟩, hit, hne, hai, hae⟩ := st
    obtain ⟨xs, x, hq, hx⟩ := hg
    obtain ⟨its, rv, htup, hz⟩ := I.tuple hq
    obtain ⟨u, hu, ru⟩ := rv.get hx
    have hlt : i < its.toArray.size := by simpa using (List.getElem?_eq_some_iff.mp hu).1
    have hel : e < s.heap.objs.size := Heap.lt_size he
    have hil : it < s.heap.objs.size := by obtain ⟨_, q, _⟩ := hit; exact Heap.lt_size q
    have hef : e ∉ [it, a] := by simp [hne, Ne.symm hae]
    refine wpAny_pyNext_enum_itemD (Draws.tuple (A := X.A.in1) (I.ok.hd hc) it a hai its.toArray) he ⟨hit, htup⟩ hlt hne hef fun x' h' tk hx' ho hst' hT hsz hk => ?_
    have ex : x' = u := by
      have q : its[i]? = some x' := by simpa using hx'
      rw [hu] at q
      exact (Option.some.inj q).symm
    subst ex
    refine ⟨_, rfl, wpAny_letOwnedTupleGo_enum (s := { s with heap := h', toks := tk + 1 }) ho fun h'' he' sb => ?_⟩
    have hT2 : h''.get? s.heap.objs.size = some { cls := .type "tuple", data := .seq #[.int i tk, x'] } := (sb.2 _ (Nat.ne_of_gt hel)).trans hT
    have new : ObjOk X.prog X.w (upd H s.heap.objs.size (.tup [.int (i : Nat), x])) h'' s.heap.objs.size (.tup [.int (i : Nat), x]) :=
      ⟨by show 2 ≤ sizeLine; decide, [.int i tk, x'], .cons ⟨_, rfl⟩ (.cons ru .nil), ⟨_, hT2, rfl, _, rfl⟩⟩
    have I1 : Inv X pins σ (upd H s.heap.objs.size (.tup [.int (i : Nat), x])) { s with heap := h'', toks := tk + 1 } :=
      I.turnedNew (ch := [e, it]) (fun b ob hb q => (sb.2 b (fun z => hb (by simp [z]))).trans (hk b ob (fun z => hb (by simp [z])) (fun z => hb (by simp [z])) q)) hf (Nat.le_refl _) new
    refine ⟨.ref s.heap.objs.size, _, I1, rfl, ⟨_, x, rfl, I.hok.fresh (Nat.le_refl _), rfl, fun ys hy => ?_⟩, ⟨⟨x', ?_⟩, hst'.1.at fun o q => (sb.2 it (Ne.symm hne)).trans q, hne, hai, hae⟩, fun b hb => ?_⟩
    · rw [I.tuple_inj hy hq]
      exact hx
    · have e1 : ((i + 1 : Nat) : Int) = (i : Int) + 1 := by omega
      rw [e1]; exact he'
    · have hb' : b < s.heap.objs.size := by
        have e' : b = e ∨ b = it := by simpa using hb
        rcases e' with z | z
        · rw [z]; exact hel
        · rw [z]; exact hil
      rw [upd_ne (Nat.ne_of_lt hb')]
      exact (hf b hb).1
  done := by
    intro X hP hw hK hc i pins s σ H E I hf st hg
    subst hP hw hK
    obtain ⟨⟨old, he⟩, hit, hne, hai, hae⟩ := st
    obtain ⟨xs, hq, hx⟩ := hg
    obtain ⟨its, rv, htup, hz⟩ := I.tuple hq
    obtain ⟨f0, f1, f2, f3, f4, f5⟩ := hf it (by simp)
    have hl : its.toArray.size = i := by rw [List.size_toArray, ← hx]; exact rv.length.symm
    refine wpAny_pyNext_enum_endD (Draws.tuple (A := X.A.in1) (I.ok.hd hc) it a hai its.toArray) he (by rw [hl]; exact ⟨hit, htup⟩) fun h' eb => ⟨rfl, I.turned (t' := s.toks) (fun b o hb q => eb b o hb q) f0 f1 f3 f4 f5⟩
  self := fun A i s Q E st h => let ⟨⟨_, he⟩, _⟩ := st; wpAny_pyIter_enum he h
def iEnumT (K : PySem.W.Frag) (ta : TA) : TI := fun σ H R => ta σ H fun vs H1 => ∃ a xs, vs = [.ref a] ∧ SqT K H1 a xs ∧ R (ItET K a) H1
theorem pi_enumT {X : Cx} {e : Expr} {ta : TA} {p pos tpos : Pos} {elts : List Expr} {kk : Nat} (hg : Gl X "enumerate") (hm : X.mg "enumerate" = none) (ha : PA X [e] ta) (hs : starEach [e] X.env = [(false, eval e X.env)] := by rfl) :
    PI X (.Tuple elts kk tpos) (.Call (.Name "enumerate" p) [e] [] pos) (iEnumT X.K ta) := by
  refine ⟨fun pins s σ H R I h => ?_⟩
  refine Call_ (ld_blt I hg hm boot_enumerate (PyProof.Rows.callWith_type1 (thn (ha.run pos pins s σ H _ I h) fun us s1 ⟨vs, H1, I1, r1, q1⟩ => ?_) hs rfl))
  obtain ⟨a, xs, ex, hq, q⟩ := q1
  subst ex
  cases r1 with
  | cons r rr =>
    cases rr
    cases r
    obtain ⟨its, rv, htup, hz⟩ := I1.tuple hq
    have htup' : s1.heap.IsTuple a its.toArray := htup
    have la : a < s1.heap.objs.size := by obtain ⟨o, e, _⟩ := htup; exact Heap.lt_size e
    refine enum_beginsT (begins_tuple a its.toArray) htup' fun h' he hit hsz hk => wpAny_pyIter_enum he ?_
    have I2 : Inv X pins σ H1 { s1 with heap := h' } := I1.kept (t' := s1.toks) hk
    refine ⟨s1.heap.objs.size + 1, [s1.heap.objs.size + 1, s1.heap.objs.size], _, _, H1, rfl, I2, turn_enumT a (s1.heap.objs.size + 1) s1.heap.objs.size, ⟨⟨.none, he⟩, ⟨_, hit, rfl, rfl⟩, Nat.succ_ne_self _, Nat.ne_of_lt la, Nat.ne_of_lt (Nat.lt_succ_of_lt la)⟩, fun b hb => ?_, q⟩
    have e' : b = s1.heap.objs.size + 1 ∨ b = s1.heap.objs.size := by simpa using hb
    have hle : s1.heap.objs.size ≤ b := by
      rcases e' with z | z
      · rw [z]; exact Nat.le_add_right _ _
      · rw [z]; exact Nat.le_refl _
    exact I1.fpOk hle (I1.hok.fresh hle)
theorem walk_enumT {K : PySem.W.Frag} {a : Addr} {xs : List V} : Walk (ItET K a) xs.length (fun H => SqT K H a xs) (YPair (fun i => some (.int (i : Nat))) (fun i => xs[i]?)) := by
  refine ⟨fun i _ hi q => ⟨xs, xs[i], q, by simp [hi]⟩, fun _ q => ⟨xs, q, rfl⟩, fun i H v H' _ q y => ?_⟩
  obtain ⟨T, x, h1, h2, h3, h4⟩ := y
  exact ⟨T, .int (i : Nat), x, h1, h2, h3, rfl, h4 xs q⟩
end

theorem pg_tupK {X : Cx} {K : PySem.W.Frag} {es : List Expr} {k : Nat} {pos : Pos} {t : TGs} {n : Nat} (hK : X.K = K) (hc : X.calm = true) (h : PGs X es t)
    (hn : (assignEach es X.env).length = n := by rfl) (hst : (assignEach es X.env).findIdx? (·.1) = none := by rfl) : PG X (.Tuple es k pos) (gTup K n t) := by
  subst hK
  exact pg_tup hc h hn hst
theorem walk_zipTT {K : PySem.W.Frag} {a b : Addr} {xs ys : List V} {n : Nat} (hn : n = min xs.length ys.length) : Walk (RZ.ItzT K a b) n (fun H => SqT K H a xs ∧ SqT K H b ys) (YPair (fun i => xs[i]?) (fun i => ys[i]?)) := by
  refine ⟨fun i H hi h => ?_, fun H h => ?_, fun i H x H' hi h q => ?_⟩
  · have h1 : i < xs.length := by omega
    have h2 : i < ys.length := by omega
    exact ⟨xs, ys, _, _, h.1, h.2, List.getElem?_eq_getElem h1, List.getElem?_eq_getElem h2⟩
  · exact ⟨xs, ys, h.1, h.2, by omega⟩
  · obtain ⟨T, x1, y1, e1, e2, e3, e4, e5⟩ := q
    exact ⟨T, x1, y1, e1, e2, e3, e4 _ h.1, e5 _ h.2⟩

section
variable {g : TG} {te : TE} {σ : L2.St} {vs : List Nat} {c : Bool} {Fi Fl : Hp → Prop} {H1 : Hp} {J : It} {n : Nat} {G : Hp → Prop} {Y : Nat → Hp → V → Hp → Prop}
/-- over any walk -/
theorem gx_it (w : Walk J n G Y) (Pv : Nat → Hp → Prop) (h0 : Pv 0 H1) (hG : ∀ i H, i ≤ n → Pv i H → G H)
    (hs : ∀ i x H H', i < n → Pv i H → Y i H x H' → g x σ H' fun σ2 H2 => wipe σ2 vs = σ ∧ te σ2 H2 fun y H3 => ∃ b, y = .bl b ∧ (b = c → Fl H3) ∧ (b = !c → Pv (i + 1) H3)) (hd : ∀ H, Pv n H → Fi H) :
    ∃ W : Nat → Nat → Hp → Prop, (∃ m, W 0 m H1) ∧ GxTurn J g te σ vs c Fi Fl W := by
  refine ⟨fun i m H => m = n - i ∧ i ≤ n ∧ Pv i H, ⟨n, by simp, Nat.zero_le _, h0⟩, ?_⟩
  rintro i m H ⟨rfl, hi, p⟩
  have q := hG i H hi p
  by_cases hlt : i < n
  · exact .inr ⟨w.goes i H hlt q, Pv (i + 1), fun H' p' => ⟨n - (i + 1), by omega, rfl, hlt, p'⟩, fun x H' y => hs i x H H' hlt p (w.yields i H x H' hlt q y)⟩
  · have e : i = n := by omega
    subst e
    exact .inl ⟨w.stops H q, hd H p⟩
end
theorem at_gI {ns : List Int} {i : Nat} (h : i < ns.length) : (ns.map V.int)[i]? = some (.int (gI ns i)) := by rw [List.getElem?_map, gI_get h]; rfl
theorem gI_of {ns : List Int} {i : Nat} {x : V} (h : (ns.map V.int)[i]? = some x) : i < ns.length ∧ x = .int (gI ns i) := by
  have hi : i < ns.length := by have := (List.getElem?_eq_some_iff.mp h).1; simpa using this
  rw [at_gI hi] at h
  exact ⟨hi, (Option.some.inj h).symm⟩
theorem pi_tupK {X : Cx} {K : PySem.W.Frag} {tg l : Expr} {tl : TE} (hK : X.K = K) (hl : PE X l tl) : PI X tg l (iTup K tl) := by
  subst hK
  exact pi_tup hl
theorem pi_listK {X : Cx} {K : PySem.W.Frag} {tg l : Expr} {tl : TE} (hK : X.K = K) (hl : PE X l tl) : PI X tg l (iList K tl) := by
  subst hK
  exact pi_list hl
theorem two_line : 2 ≤ sizeLine := by decide
/-- t + u, tuples: one of them, or a new one -/
theorem catA {K : PySem.W.Frag} {H : Hp} {a b : Addr} {xs ys : List V} {Q : VK} (ha : SqT K H a xs) (hb : SqT K H b ys) (hz : xs.length + ys.length ≤ sizeLine) (h : ∀ p H', Same H H' → SqT K H' p (xs ++ ys) → Q (.ref p) H') : rCatA K (.ref a) (.ref b) H Q := by
  refine ⟨a, b, xs, ys, rfl, rfl, ha, hb, hz, fun e => ?_, fun _ e => ?_, fun _ _ p hp => h p _ (same_upd hp) (.inl (.inl upd_same))⟩
  · subst e; exact h b H (Same.refl _) hb
  · subst e; exact h a H (Same.refl _) (by rw [List.append_nil]; exact ha)
/-- (x,) * n -/
theorem repA {K : PySem.W.Frag} {H : Hp} {a : Addr} {x : V} {n : Nat} {Q : VK} (ha : SqT K H a [x]) (hn : 1 ≤ n) (hz : n ≤ 1000) (h : ∀ p H', Same H H' → SqT K H' p (List.replicate n x) → Q (.ref p) H') : rRepA K (.ref a) (.int n) H Q := by
  by_cases e : n = 1
  · subst e
    exact .inr ⟨a, _, rfl, rfl, ha, h a H (Same.refl _) ha⟩
  · refine .inl ⟨a, n, [x], rfl, rfl, ha, by simp, by omega, by omega, by simp, fun p hp => h p _ (same_upd hp) (.inl (.inl ?_))⟩
    have ef : ∀ k : Nat, (List.replicate k [x]).flatten = List.replicate k x := fun k => by
      induction k with
      | zero => rfl
      | succ k ih => rw [List.replicate_succ, List.flatten_cons, ih]; rfl
    rw [upd_same, Int.toNat_natCast, ef]
theorem TS.lst {t : TabsAt} {H : Hp} {p : Addr} {ys zs : List V} (h : TS t H) (hp : H p = some (.lst ys)) : TS t (upd H p (.lst zs)) := by
  refine ⟨fun x hx => ?_, fun x hx => ?_⟩
  · obtain ⟨ps, h1, h2⟩ := h.g x hx
    exact ⟨ps, (upd_ne fun z => by rw [z, hp] at h1; cases h1).trans h1, h2⟩
  · have : x ∈ ([] : List Str) := hx
    cases this
/-- nothing but a table stood there -/
def NewP (H : Hp) (p : Addr) : Prop := ∀ o, H p = some o → ∃ ps, o = .tbl ps
theorem NewP.of {H : Hp} {p : Addr} (h : H p = none) : NewP H p := fun o e => by rw [h] at e; cases e
theorem NewP.ex {t : TabsAt} {H H' : Hp} {p : Addr} (x : Ex t H H') (h : NewP H' p) : NewP H p := fun o e => Classical.byContradiction fun n => n (h o (x.keep p o e fun ps z => n ⟨ps, z⟩))
theorem NewP.ne {H : Hp} {p b : Addr} {o : HO} (h : NewP H p) (e : H b = some o) (n : ∀ ps, o ≠ .tbl ps) : b ≠ p := fun z => by
  subst z
  obtain ⟨ps, q⟩ := h o e
  exact n ps q
theorem Ex.lst {t : TabsAt} {H H' : Hp} {p : Addr} {ys zs : List V} (x : Ex t H H') (h0 : NewP H p) (hp : H' p = some (.lst ys)) : Ex t H (upd H' p (.lst zs)) :=
  ⟨fun b o e n => (upd_ne (h0.ne e n)).trans (x.keep b o e n), x.ts.lst hp⟩

/-! ### the checks -/
theorem gx_ri : ("is_row_of_indexes" : Str) ∈ gensL := by decide
theorem lx_ri : ("is_row_of_indexes" : Str) ∉ lamsL := by decide
theorem gx_ic : ("is_complex" : Str) ∈ gensL := by decide
theorem lx_ic : ("is_complex" : Str) ∉ lamsL := by decide
theorem ty_tup {K : PySem.W.Frag} {H : Hp} {a : Addr} {xs : List V} (h : SqT K H a xs) : TyX K H (.ref a) (.type "tuple") := by
  rcases h with (h | ⟨o, h⟩) | ⟨o, its, n, e1, e2, _⟩
  · exact .base (.tup h)
  · exact .fTuple h
  · exact .kTuple e1 e2
/-- a row of ascending places -/
def RowOk (n : Nat) (r : List Int) : Prop := r.Pairwise (· < ·) ∧ ∀ p ∈ r, 0 ≤ p ∧ p < n
def FldOk (f : Int) : Prop := f = 0 ∨ f = 2 ∨ f = 3 ∨ f = 5 ∨ f = 7
section
variable {P : Program} {w : World} {K : PySem.W.Frag} {mg : Str → Option Value} {base : Heap}
def sp_inverse_modulo : Sp := fun vs H Q _ => ∃ n p, vs = [.int n, .int p] ∧ 2 ≤ p ∧ p ≤ 31 ∧ n.natAbs < 2 ^ 64 ∧ Q (.int (invL n p)) H
theorem ok_inverse_modulo (T : Txt K mg) : FnOk P w K mg base CX0 1 T.inverse_modulo.f T.inverse_modulo.fd P_inverse_modulo sp_inverse_modulo := by
  refine T.inverse_modulo.F.ok sc_inverse_modulo (fun vs H Q E h => ?_) (fun cdv A outer s H vs Q E hr h => ?_)
  · obtain ⟨n, p, rfl, _⟩ := h; rfl
  · obtain ⟨n, p, rfl, hp, hp2, hn, k⟩ := h
    refine ⟨_, (pss_cons (ps_set (i := 2) sc_inverse_modulo.nd rfl (Or.inl rfl) pe_int)
  (pss_cons (ps_for PassesOwn.never rfl (pi_range1 rfl T.n_range (pa_cons (pe_op op_sub (pv 1) pe_int) pa_nil)) (pg_name (i := 3) sc_inverse_modulo.nd rfl (Or.inl rfl)) (pss_one (ps_set (i := 2) sc_inverse_modulo.nd rfl (Or.inl rfl) (pe_op op_mod (pe_op op_mulW (pv 2) (pv 0)) (pv 1)))))
  (pss_one (ps_ret (pv 2))))), ?_⟩
    walk_at "rd"
    refine ⟨by omega, by omega, for_range (lo := 0) (n := (p - 2).toNat) (fun i σ H' => H' = H ∧ (0 ≤ (List.range i).foldl (fun a _ => a * n % p) 1 ∧ (List.range i).foldl (fun a _ => a * n % p) 1 < p) ∧ ∃ v, σ = [some (.int n), some (.int p), some (.int ((List.range i).foldl (fun a _ => a * n % p) 1)), v]) ⟨rfl, by constructor <;> simp <;> omega, none, rfl⟩ ?_ ?_⟩
    · rintro i σ H' hi ⟨rfl, hb, v, rfl⟩
      rw [List.range_succ, List.foldl_append]
      generalize (List.range i).foldl (fun a _ => a * n % p) 1 = a at *
      walk_at "rd"
      refine ⟨⟨Int.emod_nonneg _ (by omega), Int.emod_lt_of_pos _ (by omega)⟩, _, rfl⟩
    · rintro σ H' ⟨rfl, hb, v, rfl⟩
      walk_at "rd"
      exact k
def sp_is_tuple_up_to (K : PySem.W.Frag) : Sp := fun vs H Q _ => ∃ (a : Addr) (m : Int) (xs : List V), vs = [.ref a, .int m] ∧ SqT K H a xs ∧ Q (.bl (decide ((xs.length : Int) ≤ m))) H
theorem ok_is_tuple_up_to (T : Txt K mg) : FnOk P w K mg base CX0 1 T.is_tuple_up_to.f T.is_tuple_up_to.fd P_is_tuple_up_to (sp_is_tuple_up_to K) := by
  refine T.is_tuple_up_to.F.ok sc_is_tuple_up_to (fun vs H Q E h => ?_) (fun cdv A outer s H vs Q E hr h => ?_)
  · obtain ⟨a, m, xs, rfl, _⟩ := h; rfl
  · obtain ⟨a, m, xs, rfl, hT, k⟩ := h
    refine ⟨_, (pss_one (ps_ret (pe_and (pe_callB (r := rIsi K) call_isi rfl T.n_isinstance bo_isinstance (pa_cons (pv 0) (pa_cons (pe_bltn (v := .ty "tuple") rfl T.n_tuple bo_tuple rfl) pa_nil))) (pe_one (pe_cmpR op_le (pe_callB (r := rLenS K) call_len_seq rfl T.n_len bo_len (pa_cons (pv 0) pa_nil)) (pv 1) (nomark _)))))), ?_⟩
    walk_at "rd"
    refine ⟨_, _, _, _, _, rfl, .ty _, ty_tup hT, kit_tuple_tuple, ?_⟩
    walk_at "rd"
    refine ⟨_, _, rfl, .inr hT, ?_⟩
    walk_at "rd"
    exact k
def sp_is_field : Sp := fun vs H Q _ => ∃ f : Int, vs = [.int f] ∧ FldOk f ∧ Q (.bl true) H
theorem ok_is_field (T : Txt K mg) : FnOk P w K mg base CX0 2 T.is_field.f T.is_field.fd P_is_field sp_is_field := by
  refine T.is_field.F.ok sc_is_field (fun vs H Q E h => ?_) (fun cdv A outer s H vs Q E hr h => ?_)
  · obtain ⟨f, rfl, _⟩ := h; rfl
  · obtain ⟨f, rfl, hf, k⟩ := h
    refine ⟨_, (pss_one (ps_ret (pe_and (pe_call (ok_is_integer T) (hr.mono (by decide)) rfl T.is_integer.g T.is_integer.F.kp (b_is_integer T) .nil pass0 (pa_cons (pv 0) pa_nil)) (pe_one (pe_or (pe_cmpR op_eq (pv 0) pe_int (nomark _)) (pe_one (pe_cmpR (r := rIn K false) op_in_seq (pv 0) (pe_glob rfl T.g_PRIMES (v := .ref T.aPRIMES) rfl) (by rfl)))))))), ?_⟩
    walk_at "rd"
    by_cases h0 : f = 0
    · rw [decide_eq_true (congrArg V.int h0)]
      walk_at "rd"
      exact k
    · rw [decide_eq_false fun z => h0 (V.int.inj z)]
      walk_at "rd"
      refine ⟨T.aPRIMES, _, rfl, .inr (T.t_PRIMES _), rfl, rfl, ?_⟩
      · have e : inV (V.int f) ([2, 3, 5, 7, 11, 13, 17, 19, 23, 29, 31].map V.int) = true := by
          rcases hf with rfl | rfl | rfl | rfl | rfl
          · exact absurd rfl h0
          all_goals decide
        rw [if_neg Bool.false_ne_true, e]
        exact k
def sp_check_field : Sp := fun vs H Q _ => ∃ f : Int, vs = [.int f] ∧ FldOk f ∧ Q .non H
theorem ok_check_field (T : Txt K mg) : FnOk P w K mg base CX0 3 T.check_field.f T.check_field.fd P_check_field sp_check_field := by
  refine T.check_field.F.ok sc_check_field (fun vs H Q E h => ?_) (fun cdv A outer s H vs Q E hr h => ?_)
  · obtain ⟨f, rfl, _⟩ := h; rfl
  · obtain ⟨f, rfl, hf, k⟩ := h
    refine ⟨_, (pss_one (ps_if (pt_not (pt_val (pe_call (ok_is_field T) (hr.mono (by decide)) rfl T.is_field.g T.is_field.F.kp (b_is_field T) .nil pass0 (pa_cons (pv 0) pa_nil)))) (pss_one ps_never) pss_nil)), ?_⟩
    walk_at "rd"
    refine ⟨hf, ?_⟩
    walk_at "rd"
    exact k
def sp_check_integer_in : Sp := fun vs H Q _ => ∃ n lo hi, vs = [.int n, .int lo, .int hi] ∧ (lo ≤ n ∧ n ≤ hi) ∧ Q .non H
theorem ok_check_integer_in (T : Txt K mg) : FnOk P w K mg base CX0 3 T.check_integer_in.f T.check_integer_in.fd P_check_integer_in sp_check_integer_in := by
  refine T.check_integer_in.F.ok sc_check_integer_in (fun vs H Q E h => ?_) (fun cdv A outer s H vs Q E hr h => ?_)
  · obtain ⟨n, lo, hi, rfl, _⟩ := h; rfl
  · obtain ⟨n, lo, hi, rfl, hb, k⟩ := h
    refine ⟨_, (pss_one (ps_if (pt_not (pt_val (pe_call (ok_is_integer_in T) (hr.mono (by decide)) rfl T.is_integer_in.g T.is_integer_in.F.kp (b_is_integer_in T) .nil pass0 (pa_cons (pv 0) (pa_cons (pv 1) (pa_cons (pv 2) pa_nil)))))) (pss_one ps_never) pss_nil)), ?_⟩
    walk_at "rd"
    refine ⟨_, _, _, rfl, ?_⟩
    rw [decide_eq_true hb.1, decide_eq_true hb.2]
    walk_at "rd"
    exact k
def sp_check_many : Sp := fun vs H Q _ => ∃ n : Int, vs = [.int n] ∧ 1 ≤ n ∧ n ≤ 8 ∧ Q .non H
theorem ok_check_many (T : Txt K mg) : FnOk P w K mg base CX0 4 T.check_many.f T.check_many.fd P_check_many sp_check_many := by
  refine T.check_many.F.ok sc_check_many (fun vs H Q E h => ?_) (fun cdv A outer s H vs Q E hr h => ?_)
  · obtain ⟨n, rfl, _⟩ := h; rfl
  · obtain ⟨n, rfl, h1, h2, k⟩ := h
    refine ⟨_, (pss_one (ps_expr (pe_call (ok_check_integer_in T) (hr.mono (by decide)) rfl T.check_integer_in.g T.check_integer_in.F.kp (b_check_integer_in T) .nil pass0 (pa_cons (pv 0) (pa_cons pe_int (pa_cons (pe_glob rfl T.g_MOST_MONO_VARIABLES (v := .int 8) ⟨_, rfl⟩) pa_nil)))))), ?_⟩
    walk_at "rd"
    refine ⟨n, 1, 8, rfl, ⟨h1, h2⟩, ?_⟩
    walk_at "rd"
    exact k
def sp_is_row_of_indexes (t : TabsAt) (K : PySem.W.Frag) : Sp := fun vs H Q _ => ∃ (a : Addr) (n : Nat) (r : List Int), vs = [.ref a, .int n] ∧ SqT K H a (r.map V.int) ∧ RowOk n r ∧ r.length ≤ 1000 ∧ TS t H ∧ ∀ H', Ex t H H' → Q (.bl true) H'
theorem ok_is_row_of_indexes (T : Txt K mg) {t : TabsAt} (B : TBs T base t) : FnOk P w K mg base CX0 10 T.is_row_of_indexes.f T.is_row_of_indexes.fd P_is_row_of_indexes (sp_is_row_of_indexes t K) := by
  refine okC T.is_row_of_indexes.F B.h_is_row_of_indexes sc_is_row_of_indexes (fun vs H Q E h => ?_) (fun A outer s H vs Q E hr h => ?_)
  · obtain ⟨a, n, r, rfl, _⟩ := h; rfl
  · obtain ⟨a, n, r, rfl, hT, ⟨hp, hb⟩, hl, ts, k⟩ := h
    refine ⟨_, (pss_cons (ps_if (PW.pt (pw_or (pt_not (pt_val (pe_callB (r := rIsi K) call_isi rfl T.n_isinstance bo_isinstance (pa_cons (pv 0) (pa_cons (pe_bltn (v := .ty "tuple") rfl T.n_tuple bo_tuple rfl) pa_nil))))) (pw_or1 (pt_not (pt_val (pe_allR (ys := (["place"] : List Str)) (own := []) (vs := [2]) sc_is_row_of_indexes.nd (by decide) hr rfl T.n_all bo_all B.b_is_row_of_indexes rfl (gxOk_by (N := N_is_row_of_indexes) (sc := defScope s_is_row_of_indexes) (own := []) (by decide +kernel)) (pi_tup (pv 0)) (fun _ _ _ _ _ _ _ _ hr => (pg_name (i := 2) (show List.Nodup (N_is_row_of_indexes ++ (["place"] : List Str)) by decide +kernel) rfl (Or.inl rfl))) (fun _ _ _ _ _ _ _ _ hr => (pe_call (ok_is_integer_in T) (hr.mono (by decide)) rfl T.is_integer_in.g T.is_integer_in.F.kp (b_is_integer_in T) .nil pass0 (pa_cons (pv 2) (pa_cons pe_int (pa_cons (pe_op op_sub (pv 1) pe_int) pa_nil))))) (fun _ => rfl))))))) (pss_one (ps_ret pe_bl)) pss_nil)
  (pss_one (ps_ret (pe_allR (ys := (["k"] : List Str)) (own := []) (vs := [2]) sc_is_row_of_indexes.nd (by decide) hr rfl T.n_all bo_all B.b_is_row_of_indexes rfl (gxOk_by (N := N_is_row_of_indexes) (sc := defScope s_is_row_of_indexes) (own := []) (by decide +kernel)) (pi_range1 rfl T.n_range (pa_cons (pe_op op_sub (pe_callB (r := rLenS K) call_len_seq rfl T.n_len bo_len (pa_cons (pv 0) pa_nil)) pe_int) pa_nil)) (fun _ _ _ _ _ _ _ _ hr => (pg_name (i := 2) (show List.Nodup (N_is_row_of_indexes ++ (["k"] : List Str)) by decide +kernel) rfl (Or.inl rfl))) (fun _ _ _ _ _ _ _ _ hr => (pe_cmpR op_lt (pe_ix (r := rIxT K) ix_tup (pv 0) (pv 2) (fun _ _ => rfl)) (pe_ix (r := rIxT K) ix_tup (pv 0) (pe_op op_add (pv 2) pe_int) (fun _ _ => rfl)) (nomark _))) (fun _ => rfl))))), ?_⟩
    walk_at "rd"
    refine ⟨_, _, _, _, _, rfl, .ty _, ty_tup hT, kit_tuple_tuple, ?_⟩
    walk_at "rd"
    refine ⟨⟨_, hT⟩, ts.g _ gx_ri, fun H2 e2 => ?_⟩
    have x2 : Ex t H H2 := Ex.tab ts gx_ri lx_ri e2
    refine gx_tup (Pv := fun i H' => Ex t H H') x2 (fun i H' _ x => (tp_ext x.keep).sqt hT) (fun i v H' hv x => ?_) (fun H3 x3 => ?_)
    · rw [List.getElem?_map] at hv
      obtain ⟨p, hpi, rfl⟩ := Option.map_eq_some_iff.mp hv
      have hbp := hb p (List.mem_of_getElem? hpi)
      walk_at "rd"
      refine ⟨_, _, _, rfl, ?_⟩
      rw [decide_eq_true hbp.1, decide_eq_true (show p ≤ (n : Int) - 1 by omega)]
      refine ⟨_, rfl, fun z => (by cases z), fun _ => x⟩
    · walk_at "rd"
      refine ⟨_, _, rfl, .inr ((tp_ext x3.keep).sqt hT), ?_⟩
      rw [List.length_map]
      walk_at "rd"
      refine ⟨(show (-2 ^ 62 : Int) ≤ (r.length : Int) - 1 by omega), (show (r.length : Int) - 1 < 2 ^ 62 by omega), x3.ts.g _ gx_ri, fun H4 e4 => ?_⟩
      have x4 : Ex t H H4 := x3.trans (Ex.tab x3.ts gx_ri lx_ri e4)
      refine gx_range (Pv := fun i H' => Ex t H H') x4 (fun i H' hi x => ?_) (fun H5 x5 => ?_)
      · have hi' : i + 1 < r.length := by omega
        have hT' := (tp_ext x.keep).sqt hT
        walk_at "rd"
        refine ⟨_, _, _, _, rfl, rfl, hT', at_of (show (0 : Int) + (i : Int) = ((i : Nat) : Int) by omega) (at_gI (by omega)), ?_⟩
        walk_at "rd"
        refine ⟨_, _, _, _, rfl, rfl, hT', at_of (show (0 : Int) + (i : Int) + 1 = ((i + 1 : Nat) : Int) by omega) (at_gI (by omega)), ?_⟩
        walk_at "rd"
        have h1 := gI_get (show i < r.length by omega)
        have h2 := gI_get hi'
        rw [List.getElem?_eq_getElem (by omega)] at h1 h2
        have := List.pairwise_iff_getElem.mp hp i (i + 1) (by omega) hi' (by omega)
        rw [Option.some.inj h1, Option.some.inj h2] at this
        refine ⟨?_, ?_⟩
        · rw [decide_eq_true this]
          exact fun z => (by cases z)
        · exact fun _ => x
      · exact k _ x5
end

/-! ### dicts of ints -/
def kvI (D : IT2) : List (L2.Key × V) := D.map fun e => (Sum.inl e.1, V.int e.2)
def NdI (D : IT2) : Prop := (D.map (·.1)).Nodup
theorem kvI_len (D : IT2) : (kvI D).length = D.length := List.length_map ..
theorem kvI_app (D E : IT2) : kvI (D ++ E) = kvI D ++ kvI E := List.map_append
theorem kvI_val (k : Int) : ∀ D : IT2, valV (kvI D) (Sum.inl k : L2.Key) = (getD2 D k).map V.int
  | [] => rfl
  | e :: r => by
    show valV ((Sum.inl e.1, V.int e.2) :: kvI r) (Sum.inl k) = Option.map V.int (if e.1 = k then some e.2 else getD2 r k)
    by_cases h : e.1 = k
    · rw [if_pos h, valV_pos (by rw [h])]; rfl
    · rw [if_neg h, valV_neg (fun z => h (Sum.inl.inj z)), kvI_val k r]
theorem hasD2_any (k : Int) : ∀ D : IT2, ((kvI D).any fun kv => decide (kv.1 = (Sum.inl k : L2.Key))) = hasD2 D k
  | [] => rfl
  | e :: r => by
    show (decide ((Sum.inl e.1 : L2.Key) = Sum.inl k) || (kvI r).any _) = if e.1 = k then true else hasD2 r k
    rw [hasD2_any k r]
    by_cases h : e.1 = k
    · rw [if_pos h, h]; simp
    · rw [if_neg h, decide_eq_false (fun z => h (Sum.inl.inj z))]; rfl
theorem hasD2_iff (k : Int) : ∀ D : IT2, hasD2 D k = true ↔ k ∈ D.map (·.1)
  | [] => by simp [hasD2]
  | e :: r => by
    rw [hasD2, List.map_cons, List.mem_cons]
    by_cases h : e.1 = k
    · rw [if_pos h]; simp [h]
    · rw [if_neg h, hasD2_iff k r]
      constructor
      · exact .inr
      · rintro (z | z)
        · exact absurd z.symm h
        · exact z
theorem getD2_none {k : Int} : ∀ {D : IT2}, hasD2 D k = false → getD2 D k = none
  | [], _ => rfl
  | e :: r, h => by
    rw [hasD2] at h
    by_cases c : e.1 = k
    · rw [if_pos c] at h; cases h
    · rw [if_neg c] at h
      rw [getD2, if_neg c]
      exact getD2_none h
theorem putD2_new {k v : Int} : ∀ {D : IT2}, hasD2 D k = false → putD2 D k v = D ++ [(k, v)]
  | [], _ => rfl
  | e :: r, h => by
    rw [hasD2] at h
    by_cases c : e.1 = k
    · rw [if_pos c] at h; cases h
    · rw [if_neg c] at h
      rw [putD2, if_neg c, putD2_new h]; rfl
theorem putD2_keys {k v : Int} : ∀ {D : IT2}, hasD2 D k = true → (putD2 D k v).map (·.1) = D.map (·.1)
  | [], h => by cases h
  | e :: r, h => by
    rw [hasD2] at h
    by_cases c : e.1 = k
    · rw [putD2, if_pos c]; rfl
    · rw [if_neg c] at h
      rw [putD2, if_neg c, List.map_cons, putD2_keys h]; rfl
theorem putD2_nd {D : IT2} {k v : Int} (h : NdI D) : NdI (putD2 D k v) := by
  cases c : hasD2 D k with
  | true =>
    unfold NdI
    rw [putD2_keys c]
    exact h
  | false =>
    unfold NdI
    rw [putD2_new c, List.map_append, List.nodup_append]
    refine ⟨h, by simp, fun a ha b hb e => ?_⟩
    have eb : b = k := by simpa using hb
    rw [eb] at e
    rw [e, ← hasD2_iff, c] at ha
    cases ha
theorem kvI_put {k v : Int} : ∀ {D : IT2}, NdI D → putK (kvI D) (Sum.inl k : L2.Key) (.int v) = kvI (putD2 D k v) := by
  intro D hnd
  unfold putK
  rw [hasD2_any]
  cases c : hasD2 D k with
  | false =>
    rw [if_neg Bool.false_ne_true, putD2_new c, kvI_app]; rfl
  | true =>
    rw [if_pos rfl]
    have key : ∀ D : IT2, NdI D → hasD2 D k = true → (kvI D).map (fun kv => if kv.1 = (Sum.inl k : L2.Key) then (kv.1, V.int v) else kv) = kvI (putD2 D k v) := by
      intro D
      induction D with
      | nil => intro _ h; cases h
      | cons e r ih =>
        intro nd h
        unfold NdI at nd
        rw [List.map_cons, List.nodup_cons] at nd
        rw [hasD2] at h
        by_cases c : e.1 = k
        · rw [putD2, if_pos c]
          show (if (Sum.inl e.1 : L2.Key) = Sum.inl k then ((Sum.inl e.1 : L2.Key), V.int v) else (Sum.inl e.1, V.int e.2)) :: (kvI r).map _ = (Sum.inl e.1, V.int v) :: kvI r
          rw [if_pos (congrArg Sum.inl c)]
          congr 1
          refine List.map_congr_left (g := id) (fun x hx => ?_) |>.trans (List.map_id _)
          obtain ⟨y, hy, rfl⟩ := List.mem_map.mp hx
          refine if_neg fun z => nd.1 ?_
          rw [c, ← Sum.inl.inj z]
          exact List.mem_map_of_mem hy
        · rw [if_neg c] at h
          rw [putD2, if_neg c]
          show (if (Sum.inl e.1 : L2.Key) = Sum.inl k then ((Sum.inl e.1 : L2.Key), V.int v) else (Sum.inl e.1, V.int e.2)) :: (kvI r).map _ = (Sum.inl e.1, V.int e.2) :: kvI (putD2 r k v)
          rw [if_neg fun z => c (Sum.inl.inj z), ih nd.2 h]
    exact key D hnd c
theorem putD2_len {k v : Int} (D : IT2) : (putD2 D k v).length ≤ D.length + 1 := by
  cases c : hasD2 D k with
  | false => rw [putD2_new c, List.length_append]; simp
  | true =>
    have := congrArg List.length (putD2_keys (v := v) c)
    rw [List.length_map, List.length_map] at this
    omega
theorem putD2_get {k v j : Int} : ∀ D : IT2, getD2 (putD2 D k v) j = if j = k then some v else getD2 D j
  | [] => by
    show (if k = j then some v else none) = _
    by_cases h : j = k
    · rw [if_pos h, if_pos h.symm]
    · rw [if_neg h, if_neg (fun z => h z.symm)]; rfl
  | e :: r => by
    by_cases c : e.1 = k
    · rw [putD2, if_pos c]
      show (if e.1 = j then some v else getD2 r j) = _
      by_cases h : j = k
      · rw [if_pos h, if_pos (c.trans h.symm)]
      · have n : ¬ e.1 = j := fun z => h (z.symm.trans c)
        rw [if_neg h, getD2, if_neg n, if_neg n]
    · rw [putD2, if_neg c]
      show (if e.1 = j then some e.2 else getD2 (putD2 r k v) j) = _
      rw [putD2_get r, getD2]
      by_cases h : j = k
      · have n : ¬ e.1 = j := fun z => c (z.trans h)
        rw [if_neg n, if_pos h, if_pos h]
      · rw [if_neg h, if_neg h]
theorem nd_filter {D : IT2} (h : NdI D) (p : Int × Int → Bool) : NdI (D.filter p) := h.sublist ((List.filter_sublist).map _)
theorem nd_map {D : IT2} (h : NdI D) (f : Int × Int → Int) : NdI (D.map fun e => (e.1, f e)) := by
  unfold NdI
  rw [List.map_map]
  exact h
theorem nd_take2 {D : IT2} (h : NdI D) (i : Nat) : NdI (D.take i) := h.sublist ((List.take_sublist _ _).map _)
theorem same_put {H H' : Hp} {d : Addr} {o : HO} (h : H d = none) (s : Same H H') : Same H (upd H' d o) := fun b o' e => by
  rw [upd_ne (ne_of_none e h)]
  exact s _ _ e
def tTru (K : PySem.W.Frag) (ta : TE) : TT := fun σ H Q => ta σ H fun x H' => ∃ k, TruV K x H' k ∧ Q k H'
theorem pt_truthK {X : Cx} {K : PySem.W.Frag} {a : Expr} {ta : TE} (hK : X.K = K) (ha : PE X a ta) (he : ∀ whole, isTrue a X.env whole = (do let v ← whole; standAt a.pos; holding [v] (truthy v))) :
    PT X a (tTru K ta) := by
  subst hK
  exact pt_truth ha he
/-- a dict that was locked is again as it was -/
theorem unlock_same {H H' : Hp} {d : Addr} {o : Obj} {u : HO} (h : H d = some u) (s : Same (upd H d (.frz o u)) H') : Same H (upd H' d u) := fun b x e => by
  by_cases c : b = d
  · subst c
    rw [h] at e
    cases e
    exact upd_same
  · rw [upd_ne c]
    exact s _ _ ((upd_ne c).trans e)
theorem lock_none {H : Hp} {d b : Addr} {u v : HO} (hd : H d = some v) (h : (upd H d u) b = none) : H b = none ∧ b ≠ d := by
  by_cases c : b = d
  · subst c; rw [upd_same] at h; cases h
  · rw [upd_ne c] at h; exact ⟨h, c⟩
section
variable {K : PySem.W.Frag}
theorem dc_it2 {J : It} {n : Nat} {G : Hp → Prop} {Y : Nat → Hp → V → Hp → Prop} (w : Walk J n G Y) {g : TG} {tt : TT} {tk tv : TE} {vs : List Nat} {σ : L2.St} {H1 : Hp} {D : Addr} {Qd : Hp → Prop} (Pv : Nat → Hp → Prop) (h0 : Pv 0 (upd H1 D (.dK []))) (hG : ∀ i H, i ≤ n → Pv i H → G H)
    (hs : ∀ i x H H', i < n → Pv i H → Y i H x H' → g x (wipe σ vs) H' fun σ2 H2 => wipe σ2 vs = wipe σ vs ∧ tt σ2 H2 fun b H3 =>
      if b = true then tk σ2 H3 fun y H4 => tv σ2 H4 fun z H5 => ∃ kvs k, y = kV k ∧ H5 D = some (.dK kvs) ∧ kvs.length < sizeLine ∧ Pv (i + 1) (upd H5 D (.dK (putK kvs k z))) else Pv (i + 1) H3) (hd : ∀ H, Pv n H → Qd H) :
    ∃ W : Nat → Nat → Hp → Prop, (∃ m, W 0 m (upd H1 D (.dK []))) ∧ ∀ i m H, W i m H →
      (J.stop i H ∧ Qd H) ∨ (J.go i H ∧ ∃ Nx : Hp → Prop, (∀ H', Nx H' → ∃ m', m' < m ∧ W (i + 1) m' H') ∧ ∀ x H', J.yld i H x H' → g x (wipe σ vs) H' fun σ2 H2 => wipe σ2 vs = wipe σ vs ∧ tt σ2 H2 fun b H3 =>
        if b = true then tk σ2 H3 fun y H4 => tv σ2 H4 fun z H5 => ∃ kvs k, y = kV k ∧ H5 D = some (.dK kvs) ∧ kvs.length < sizeLine ∧ Nx (upd H5 D (.dK (putK kvs k z))) else Nx H3) := by
  refine ⟨fun i m H => m = n - i ∧ i ≤ n ∧ Pv i H, ⟨n, by simp, Nat.zero_le _, h0⟩, ?_⟩
  rintro i m H ⟨rfl, hi, p⟩
  have q := hG i H hi p
  by_cases hlt : i < n
  · exact .inr ⟨w.goes i H hlt q, Pv (i + 1), fun H' p' => ⟨n - (i + 1), by omega, rfl, hlt, p'⟩, fun x H' y => hs i x H H' hlt p (w.yields i H x H' hlt q y)⟩
  · have e : i = n := by omega
    subst e
    exact .inl ⟨w.stops H q, hd H p⟩
theorem kvI_at {D : IT2} {i : Nat} {kx vx : V} (hi : i < D.length) (e1 : ((kvI D)[i]?).map (fun kv => kV kv.1) = some kx) (e2 : ((kvI D)[i]?).map Prod.snd = some vx) : kx = .int D[i].1 ∧ vx = .int D[i].2 := by
  have ek : (kvI D)[i]? = some (Sum.inl D[i].1, V.int D[i].2) := by unfold kvI; rw [List.getElem?_map, List.getElem?_eq_getElem hi]; rfl
  rw [ek] at e1 e2
  exact ⟨(Option.some.inj e1).symm, (Option.some.inj e2).symm⟩
/-- {k: f(k, n) for k, n in d.items() if p(k, n)} -/
theorem dc_items {g : TG} {tt : TT} {tk tv : TE} {vs : List Nat} {σ : L2.St} {G : Hp} {d Dn : Addr} {o : Obj} {D : IT2} {p : Int × Int → Bool} {f : Int × Int → Int} {Qd : Hp → Prop}
    (hd : G d = some (.frz o (.dK (kvI D)))) (hD : G Dn = none) (hnd : NdI D) (hl : D.length ≤ 100000)
    (hs : ∀ e ∈ D, ∀ (Ha : Hp) (T : Addr) (A : Hp → Prop) (Bc : V → V → Hp → Prop), Same G Ha → Ha T = some (.tup [.int e.1, .int e.2]) → (p e = false → ∀ H', Same Ha H' → A H') → (p e = true → ∀ H', Same Ha H' → Bc (.int e.1) (.int (f e)) H') →
      g (.ref T) (wipe σ vs) Ha fun σ2 H2 => wipe σ2 vs = wipe σ vs ∧ tt σ2 H2 fun b H3 => if b = true then tk σ2 H3 fun y H4 => tv σ2 H4 fun z H5 => Bc y z H5 else A H3)
    (hend : ∀ H', Same G H' → H' Dn = some (.dK (kvI ((D.filter p).map fun e => (e.1, f e)))) → Qd H') :
    ∃ W : Nat → Nat → Hp → Prop, (∃ m, W 0 m (upd G Dn (.dK []))) ∧ ∀ i m H, W i m H →
      ((Iti d o (kvI D)).stop i H ∧ Qd H) ∨ ((Iti d o (kvI D)).go i H ∧ ∃ Nx : Hp → Prop, (∀ H', Nx H' → ∃ m', m' < m ∧ W (i + 1) m' H') ∧ ∀ x H', (Iti d o (kvI D)).yld i H x H' → g x (wipe σ vs) H' fun σ2 H2 => wipe σ2 vs = wipe σ vs ∧ tt σ2 H2 fun b H3 =>
        if b = true then tk σ2 H3 fun y H4 => tv σ2 H4 fun z H5 => ∃ kvs k, y = kV k ∧ H5 Dn = some (.dK kvs) ∧ kvs.length < sizeLine ∧ Nx (upd H5 Dn (.dK (putK kvs k z))) else Nx H3) := by
  have hbig : 100000 < sizeLine := by decide
  refine dc_it2 walk_items (fun i H5 => Same G H5 ∧ H5 Dn = some (.dK (kvI (((D.take i).filter p).map fun e => (e.1, f e))))) ⟨same_upd hD, upd_same⟩ (fun i H5 _ q => q.1 _ _ hd) (fun i x H5 H6 hi q y => ?_) (fun H5 q => ?_)
  · obtain ⟨s5, hD5⟩ := q
    rw [kvI_len] at hi
    obtain ⟨Tt, kx, vx, rfl, q1, rfl, e1, e2⟩ := y
    obtain ⟨rfl, rfl⟩ := kvI_at hi e1 e2
    have s6 := same_upd (o := .tup [V.int D[i].1, V.int D[i].2]) q1
    have et : D.take (i + 1) = D.take i ++ [D[i]] := by rw [List.take_add_one, List.getElem?_eq_getElem hi]; rfl
    refine hs D[i] (List.getElem_mem hi) _ Tt _ _ (Same.trans s5 s6) upd_same (fun hp H' s' => ?_) (fun hp H' s' => ?_)
    · refine ⟨Same.trans (Same.trans s5 s6) s', ?_⟩
      rw [Same.trans s6 s' _ _ hD5, et, List.filter_append, List.filter_cons, if_neg (by rw [hp]; exact Bool.false_ne_true), List.filter_nil, List.append_nil]
    · have z := Same.trans s6 s' _ _ hD5
      have hnd2 : NdI (((D.take i).filter p).map fun e => (e.1, f e)) := nd_map (nd_filter (nd_take2 hnd i) p) f
      have hno : hasD2 (((D.take i).filter p).map fun e => (e.1, f e)) D[i].1 = false := by
        cases c : hasD2 (((D.take i).filter p).map fun e => (e.1, f e)) D[i].1 with
        | false => rfl
        | true =>
          exfalso
          rw [hasD2_iff, List.map_map] at c
          obtain ⟨e, he, ee⟩ := List.mem_map.mp c
          have he' := (List.mem_filter.mp he).1
          have h1 := nd_take2 hnd (i + 1)
          unfold NdI at h1
          rw [et, List.map_append, List.nodup_append] at h1
          exact h1.2.2 _ (List.mem_map_of_mem he') D[i].1 (by simp) ee
      refine ⟨_, Sum.inl D[i].1, rfl, z, ?_, same_put hD (Same.trans (Same.trans s5 s6) s'), ?_⟩
      · rw [kvI_len, List.length_map]
        have := List.length_filter_le p (D.take i)
        rw [List.length_take] at this
        omega
      · rw [upd_same, kvI_put hnd2, putD2_new hno, et, List.filter_append, List.filter_cons, if_pos hp, List.filter_nil, List.map_append]; rfl
  · obtain ⟨s5, hD5⟩ := q
    rw [kvI_len, List.take_length] at hD5
    exact hend _ s5 hD5
end
def setF (f : Int) (D : IT2) : IT2 := if f = 0 then setZ D else setP f D
section
variable {P : Program} {w : World} {K : PySem.W.Frag} {mg : Str → Option Value} {base : Heap}
def sp_settled : Sp := fun vs H Q _ => ∃ (f : Int) (d : Addr) (D : IT2), vs = [.int f, .ref d] ∧ (f = 0 ∨ 2 ≤ f) ∧ H d = some (.dK (kvI D)) ∧ NdI D ∧ D.length ≤ 100000 ∧
  ∀ d' H', H' d' = some (.dK (kvI (setF f D))) → H d' = none → Same H H' → Q (.ref d') H'
theorem ok_settled (T : Txt K mg) : FnOk P w K mg base CX0 1 T.settled.f T.settled.fd P_settled sp_settled := by
  refine T.settled.F.ok sc_settled (fun vs H Q E h => ?_) (fun cdv A outer s H vs Q E hr h => ?_)
  · obtain ⟨f, d, D, rfl, _⟩ := h; rfl
  · obtain ⟨f, d, D, rfl, hF, hd, hnd, hlen, k⟩ := h
    refine ⟨_, (pss_cons (ps_if (pt_truth (pv 0) (by intro _; rfl)) (pss_one (ps_ret (pe_lock (pe_dc (own := [("code", 2), ("n", 3)]) rfl sc_settled.nd (pi_items (pv 1)) (blkOk_by (own := [("code", 2), ("n", 3)]) (N := N_settled) (sc := defScope s_settled) (by decide +kernel)) (fun _ _ _ _ _ => (pg_tupK (K := K) (n := 2) rfl rfl (pgs_cons (pg_name (i := 2) sc_settled.nd rfl (Or.inl rfl)) (pgs_cons (pg_name (i := 3) sc_settled.nd rfl (Or.inl rfl)) pgs_nil)))) (fun _ _ _ _ _ => pts_one (pt_truthK (K := K) rfl (pe_op op_mod (pv 3) (pv 0)) (by intro _; rfl))) (fun _ _ _ _ _ => (pv 2)) (fun _ _ _ _ _ => (pe_op op_mod (pv 3) (pv 0))))))) pss_nil)
  (pss_one (ps_ret (pe_lock (pe_dc (own := [("code", 2), ("n", 3)]) rfl sc_settled.nd (pi_items (pv 1)) (blkOk_by (own := [("code", 2), ("n", 3)]) (N := N_settled) (sc := defScope s_settled) (by decide +kernel)) (fun _ _ _ _ _ => (pg_tupK (K := K) (n := 2) rfl rfl (pgs_cons (pg_name (i := 2) sc_settled.nd rfl (Or.inl rfl)) (pgs_cons (pg_name (i := 3) sc_settled.nd rfl (Or.inl rfl)) pgs_nil)))) (fun _ _ _ _ _ => pts_one (pt_truthK (K := K) rfl (pv 3) (by intro _; rfl))) (fun _ _ _ _ _ => (pv 2)) (fun _ _ _ _ _ => (pv 3))))))), ?_⟩
    walk_at "rd"
    refine iteN0 (fun hf => ?_) (fun hf => ?_)
    · have hf2 : 2 ≤ f := hF.resolve_left hf
      walk_at "rd"
      refine ⟨d, _, hd, trivial, fun od => ?_⟩
      have Gd : (upd H d (.frz od (.dK (kvI D)))) d = some (.frz od (.dK (kvI D))) := upd_same
      walk_at "rd"
      refine ⟨d, od, kvI D, rfl, Gd, fun Dn hD => ?_⟩
      refine dc_items (p := fun e => decide (e.2 % f ≠ 0)) (f := fun e => e.2 % f) Gd hD hnd hlen (fun e he Ha Tt A' Bc sa hT hA hB => ?_) (fun H5 s5 e5 => ?_)
      · refine ⟨Tt, _, rfl, .inl (.inl hT), rfl, ?_⟩
        walk_at "rd"
        refine iteN0 (fun c => ?_) (fun c => ?_)
        · walk_at "rd"
          exact hB (decide_eq_true c) _ (Same.refl _)
        · exact hA (decide_eq_false fun z => z c) _ (Same.refl _)
      · refine ⟨s5 _ _ Gd, ?_⟩
        obtain ⟨hn, hne⟩ := lock_none hd hD
        refine k Dn _ ?_ hn (unlock_same hd s5)
        rw [upd_ne hne, e5]
        unfold setF setP
        rw [if_neg hf]
    · subst hf
      walk_at "rd"
      refine ⟨d, _, hd, trivial, fun od => ?_⟩
      have Gd : (upd H d (.frz od (.dK (kvI D)))) d = some (.frz od (.dK (kvI D))) := upd_same
      walk_at "rd"
      refine ⟨d, od, kvI D, rfl, Gd, fun Dn hD => ?_⟩
      refine dc_items (p := fun e => decide (e.2 ≠ 0)) (f := fun e => e.2) Gd hD hnd hlen (fun e he Ha Tt A' Bc sa hT hA hB => ?_) (fun H5 s5 e5 => ?_)
      · refine ⟨Tt, _, rfl, .inl (.inl hT), rfl, ?_⟩
        walk_at "rd"
        refine iteN0 (fun c => ?_) (fun c => ?_)
        · walk_at "rd"
          exact hB (decide_eq_true c) _ (Same.refl _)
        · exact hA (decide_eq_false fun z => z c) _ (Same.refl _)
      · refine ⟨s5 _ _ Gd, ?_⟩
        obtain ⟨hn, hne⟩ := lock_none hd hD
        refine k Dn _ ?_ hn (unlock_same hd s5)
        rw [upd_ne hne, e5]
        unfold setF setZ
        rw [if_pos rfl, show (fun e : Int × Int => (e.1, e.2)) = id from rfl, List.map_id]
theorem gcdF_one (D : IT2) : gcdF D 1 = 1 := by
  unfold gcdF
  induction D with
  | nil => rfl
  | cons e r ih => rw [List.foldl_cons, Nat.gcd_one_left]; exact ih
def sp_common_divisor : Sp := fun vs H Q _ => ∃ (d : Addr) (D : IT2) (c : Nat), vs = [.ref d, .int c] ∧ H d = some (.dK (kvI D)) ∧ ∀ H', Same H H' → Q (.int (gcdF D c)) H'
theorem ok_common_divisor (T : Txt K mg) : FnOk P w K mg base CX0 1 T.common_divisor.f T.common_divisor.fd P_common_divisor sp_common_divisor := by
  refine T.common_divisor.F.ok sc_common_divisor (fun vs H Q E h => ?_) (fun cdv A outer s H vs Q E hr h => ?_)
  · obtain ⟨d, D, c, rfl, _⟩ := h; rfl
  · obtain ⟨d, D, c, rfl, hd, k⟩ := h
    refine ⟨_, (pss_cons (ps_set (i := 2) sc_common_divisor.nd rfl (Or.inl rfl) (pv 1))
  (pss_cons (ps_lock (ps_for PassesOwn.never rfl (pi_values (pv 0)) (pg_name (i := 3) sc_common_divisor.nd rfl (Or.inl rfl)) (pss_cons (ps_if (pt_cmpR op_eq (pv 2) pe_int (nomark _)) (pss_one ps_break) pss_nil)
  (pss_one (ps_set (i := 2) sc_common_divisor.nd rfl (Or.inl rfl) (pe_callBfun cr_gcd rfl T.g_gcd (pa_cons (pv 2) (pa_cons (pv 3) pa_nil))))))))
  (pss_one (ps_ret (pv 2))))), ?_⟩
    walk_at "rd"
    refine ⟨d, _, hd, trivial, fun od => ?_⟩
    have Gd : (upd H d (.frz od (.dK (kvI D)))) d = some (.frz od (.dK (kvI D))) := upd_same
    walk_at "rd"
    refine ⟨d, od, kvI D, rfl, Gd, ?_⟩
    refine for_it walk_values (fun i σ H' => H' = upd H d (.frz od (.dK (kvI D))) ∧ ∃ y, σ = [some (.ref d), some (.int c), some (.int (gcdF (D.take i) c)), y]) ⟨rfl, _, rfl⟩ (fun i σ H' _ q => by rw [q.1]; exact Gd) (fun i x σ H1 H2 hi q y => ?_) (fun σ H1 q => ?_)
    · obtain ⟨rfl, y3, rfl⟩ := q
      obtain ⟨rfl, kx, ek⟩ := y
      rw [kvI_len] at hi
      have ex : x = .int D[i].2 := by
        unfold kvI at ek
        rw [List.getElem?_map, List.getElem?_eq_getElem hi] at ek
        have := Option.some.inj ek
        exact (congrArg Prod.snd this).symm
      subst ex
      have et : gcdF (D.take (i + 1)) c = Nat.gcd (gcdF (D.take i) c) (D[i].2).natAbs := by
        unfold gcdF
        rw [List.take_add_one, List.getElem?_eq_getElem hi, List.foldl_append]; rfl
      walk_at "rd"
      refine iteV (fun h1 => ?_) (fun h1 => ?_)
      · have h1' : gcdF (D.take i) c = 1 := by omega
        have hall : gcdF D c = 1 := by
          have e : D = D.take i ++ D.drop i := (List.take_append_drop i D).symm
          have : gcdF D c = gcdF (D.drop i) (gcdF (D.take i) c) := by
            conv => lhs; rw [e]
            unfold gcdF
            rw [List.foldl_append]
          rw [this, h1', gcdF_one]
        rw [h1']
        refine ⟨Gd, ?_⟩
        walk_at "rd"
        have := k _ (unlock_same (o := od) hd (Same.refl _))
        rw [hall] at this
        exact this
      · walk_at "rd"
        exact ⟨_, by rw [et]; rfl⟩
    · obtain ⟨rfl, y3, rfl⟩ := q
      rw [kvI_len, List.take_length]
      refine ⟨Gd, ?_⟩
      walk_at "rd"
      exact k _ (unlock_same (o := od) hd (Same.refl _))
end

/-! ### bits of tables, tables of bits -/
theorem nat_bits {a k m : Nat} (h : k + 32 ≤ m) : a % 2 ^ m / 2 ^ k % 2 ^ 32 = a / 2 ^ k % 2 ^ 32 := by
  have e : (2 : Nat) ^ m = 2 ^ k * 2 ^ (m - k) := by rw [← Nat.pow_add]; congr 1; omega
  rw [e, Nat.mod_mul_right_div_self]
  exact Nat.mod_mod_of_dvd _ (Nat.pow_dvd_pow 2 (by omega))
def lotRow (left at0 : Nat) : IT2 := (List.range 32).map fun i => (colL (at0 + i), (((left >>> (32 * i)) % 2 ^ 32 : Nat) : Int))
theorem rowGo_zero (f at0 : Nat) : rowGo f 0 at0 = [] := by cases f <;> rfl
theorem rowGo_succ {f left at0 : Nat} (h : left ≠ 0) : rowGo (f + 1) left at0 = lotRow left at0 ++ rowGo f (left >>> 1024) (at0 + 32) := by
  show (if left = 0 then [] else _) = _
  rw [if_neg h]; rfl
theorem colL_inj {a b : Nat} (h : colL a = colL b) : a = b := by
  unfold colL at h
  split at h <;> split at h <;> omega
theorem lotRow_keys (left at0 : Nat) : (lotRow left at0).map (·.1) = (List.range 32).map fun i => colL (at0 + i) := by
  unfold lotRow
  rw [List.map_map]; rfl
/-- the sum of a dict of lots -/
def wS (L : IT2) : Int := L.foldl (fun s e => s + e.2 * ((2 ^ (1024 * e.1.toNat) : Nat) : Int)) 0
theorem foldl_add {α : Type} (f : α → Int) : ∀ (l : List α) (a : Int), l.foldl (fun s e => s + f e) a = a + (l.map f).sum
  | [], a => by simp
  | e :: r, a => by rw [List.foldl_cons, foldl_add f r, List.map_cons, List.sum_cons]; omega
theorem wS_sum (L : IT2) : wS L = (L.map fun e : Int × Int => e.2 * ((2 ^ (1024 * e.1.toNat) : Nat) : Int)).sum := by
  unfold wS
  rw [foldl_add]; omega
theorem wS_put {k x : Int} : ∀ {L : IT2}, wS (putD2 L k ((getD2 L k).getD 0 + x)) = wS L + x * ((2 ^ (1024 * k.toNat) : Nat) : Int) := by
  intro L
  rw [wS_sum, wS_sum]
  induction L with
  | nil =>
    show ([(k, (0 : Int) + x)].map (fun e : Int × Int => e.2 * ((2 ^ (1024 * e.1.toNat) : Nat) : Int))).sum = 0 + _
    rw [List.map_cons, List.map_nil, List.sum_cons, List.sum_nil, Int.zero_add, Int.add_zero, Int.zero_add]
  | cons e r ih =>
    by_cases c : e.1 = k
    · rw [getD2, if_pos c, putD2, if_pos c, List.map_cons, List.map_cons, List.sum_cons, List.sum_cons]
      show (e.2 + x) * ((2 ^ (1024 * e.1.toNat) : Nat) : Int) + _ = _
      rw [c, Int.add_mul]
      omega
    · rw [getD2, if_neg c, putD2, if_neg c, List.map_cons, List.map_cons, List.sum_cons, List.sum_cons, ih]
      omega
def lotStep (L : IT2) (e : Int × Int) : IT2 := putD2 L (slotL e.1 / 32) ((getD2 L (slotL e.1 / 32)).getD 0 + e.2 * ((2 ^ (32 * (slotL e.1 % 32).toNat) : Nat) : Int))
theorem slotL_nn (c : Int) : 0 ≤ slotL c := by unfold slotL; split <;> omega
theorem lot_pow {c : Int} : (2 ^ (32 * (slotL c % 32).toNat) : Nat) * (2 ^ (1024 * (slotL c / 32).toNat) : Nat) = (2 ^ (32 * (slotL c).toNat) : Nat) := by
  rw [← Nat.pow_add]
  congr 1
  have := slotL_nn c
  omega
theorem lots_sum (D : IT2) : wS (D.foldl lotStep []) = bitsL D := by
  have key : ∀ (D L : IT2), wS (D.foldl lotStep L) = wS L + (D.map fun e => e.2 * ((2 ^ (32 * (slotL e.1).toNat) : Nat) : Int)).sum := by
    intro D
    induction D with
    | nil => intro L; simp
    | cons e r ih =>
      intro L
      rw [List.foldl_cons, ih, lotStep, wS_put, List.map_cons, List.sum_cons, Int.mul_assoc, ← Int.natCast_mul, lot_pow]
      omega
  rw [key]
  unfold bitsL
  rw [foldl_add]
  show (0 : Int) + _ = _
  omega
theorem lots_nd (D : IT2) (i : Nat) : NdI ((D.take i).foldl lotStep []) := by
  have key : ∀ (D L : IT2), NdI L → NdI (D.foldl lotStep L) := by
    intro D
    induction D with
    | nil => intro L h; exact h
    | cons e r ih => intro L h; rw [List.foldl_cons]; exact ih _ (putD2_nd h)
  exact key _ _ List.nodup_nil
theorem putD2_mem {k v : Int} {e : Int × Int} : ∀ {D : IT2}, e ∈ putD2 D k v → e ∈ D ∨ (e.1 = k ∧ e.2 = v)
  | [], h => by
    rw [putD2, List.mem_singleton] at h
    rw [h]; exact .inr ⟨rfl, rfl⟩
  | x :: r, h => by
    rw [putD2] at h
    by_cases c : x.1 = k
    · rw [if_pos c] at h
      rcases List.mem_cons.mp h with rfl | h
      · exact .inr ⟨c, rfl⟩
      · exact .inl (List.mem_cons_of_mem _ h)
    · rw [if_neg c] at h
      rcases List.mem_cons.mp h with rfl | h
      · exact .inl List.mem_cons_self
      · exact (putD2_mem h).imp (List.mem_cons_of_mem _) id
theorem getD2_mem {k v : Int} : ∀ {D : IT2}, getD2 D k = some v → (k, v) ∈ D
  | [], h => by cases h
  | x :: r, h => by
    rw [getD2] at h
    by_cases c : x.1 = k
    · rw [if_pos c] at h
      have : x.2 = v := Option.some.inj h
      rw [← c, ← this]; exact List.mem_cons_self
    · rw [if_neg c] at h
      exact List.mem_cons_of_mem _ (getD2_mem h)
/-- the lots' bounds -/
theorem lots_bound {D : IT2} (h : ∀ e ∈ D, 0 ≤ e.1 ∧ e.1 ≤ 1000 ∧ e.2.natAbs < 2 ^ 64) (hl : D.length ≤ 1000) (i : Nat) : ∀ e ∈ (D.take i).foldl lotStep [], 0 ≤ e.1 ∧ e.1 ≤ 100 ∧ e.2.natAbs ≤ i * 2 ^ 1056 := by
  induction i with
  | zero => intro e he; rw [List.take_zero] at he; cases he
  | succ i ih =>
    by_cases hi : i < D.length
    · rw [List.take_add_one, List.getElem?_eq_getElem hi, List.foldl_append]
      show ∀ e ∈ lotStep _ D[i], _
      have hb := h D[i] (List.getElem_mem hi)
      generalize D[i] = x at *
      generalize (D.take i).foldl lotStep [] = L at *
      have grow : i * 2 ^ 1056 ≤ (i + 1) * 2 ^ 1056 := Nat.mul_le_mul_right _ (by omega)
      intro e he
      rcases putD2_mem he with he | ⟨e1, e2⟩
      · have := ih e he
        exact ⟨this.1, this.2.1, Nat.le_trans this.2.2 grow⟩
      · have hs : slotL x.1 = 2 * x.1 := by unfold slotL; rw [if_pos hb.1]
        refine ⟨by omega, by omega, ?_⟩
        have hg : ((getD2 L (slotL x.1 / 32)).getD 0).natAbs ≤ i * 2 ^ 1056 := by
          cases c : getD2 L (slotL x.1 / 32) with
          | none => simp
          | some v => exact (ih _ (getD2_mem c)).2.2
        have hx : (x.2 * ((2 ^ (32 * (slotL x.1 % 32).toNat) : Nat) : Int)).natAbs ≤ 2 ^ 1056 := by
          rw [Int.natAbs_mul, Int.natAbs_natCast]
          have h1 : (2 : Nat) ^ (32 * (slotL x.1 % 32).toNat) ≤ 2 ^ 992 := Nat.pow_le_pow_right (by decide) (by omega)
          have h2 : x.2.natAbs ≤ 2 ^ 64 := Nat.le_of_lt hb.2.2
          have h3 := Nat.mul_le_mul h2 h1
          rw [← Nat.pow_add] at h3
          exact h3
        rw [e2, Nat.add_mul, Nat.one_mul]
        have := Int.natAbs_add_le ((getD2 L (slotL x.1 / 32)).getD 0) (x.2 * ((2 ^ (32 * (slotL x.1 % 32).toNat) : Nat) : Int))
        omega
    · intro e he
      rw [List.take_of_length_le (by omega)] at he
      have := ih e (by rw [List.take_of_length_le (by omega)]; exact he)
      have grow : i * 2 ^ 1056 ≤ (i + 1) * 2 ^ 1056 := Nat.mul_le_mul_right _ (by omega)
      exact ⟨this.1, this.2.1, Nat.le_trans this.2.2 grow⟩
theorem lots_len (D : IT2) : (D.foldl lotStep []).length ≤ D.length := by
  have key : ∀ (D L : IT2), (D.foldl lotStep L).length ≤ L.length + D.length := by
    intro D
    induction D with
    | nil => intro L; simp
    | cons e r ih =>
      intro L
      rw [List.foldl_cons, List.length_cons]
      have h1 := ih (lotStep L e)
      have h2 := putD2_len (k := slotL e.1 / 32) (v := (getD2 L (slotL e.1 / 32)).getD 0 + e.2 * ((2 ^ (32 * (slotL e.1 % 32).toNat) : Nat) : Int)) L
      have h3 : (lotStep L e).length ≤ L.length + 1 := h2
      omega
  have := key D []
  simpa using this
/-- [f(k, n) for k, n in d.items()] -/
theorem lc_itemsI {g : TG} {te : TE} {vs : List Nat} {σ : L2.St} {G : Hp} {d Dn : Addr} {o : Obj} {D : IT2} {f : Int × Int → Int} {Qd : Hp → Prop}
    (hd : G d = some (.frz o (.dK (kvI D)))) (hD : G Dn = none) (hl : D.length ≤ 100000)
    (hs : ∀ e ∈ D, ∀ (Ha : Hp) (T : Addr) (Bc : V → Hp → Prop), Same G Ha → Ha T = some (.tup [.int e.1, .int e.2]) → (∀ H', Same Ha H' → Bc (.int (f e)) H') → g (.ref T) (wipe σ vs) Ha fun σ2 H2 => wipe σ2 vs = wipe σ vs ∧ te σ2 H2 fun y H4 => Bc y H4)
    (hend : ∀ H', Same G H' → H' Dn = some (.lst ((D.map f).map V.int)) → Qd H') :
    ∃ W : Nat → Nat → Hp → Prop, (∃ m, W 0 m (upd G Dn (.lst []))) ∧ ∀ i m H, W i m H →
      ((Iti d o (kvI D)).stop i H ∧ Qd H) ∨ ((Iti d o (kvI D)).go i H ∧ ∃ Nx : Hp → Prop, (∀ H', Nx H' → ∃ m', m' < m ∧ W (i + 1) m' H') ∧ ∀ x H', (Iti d o (kvI D)).yld i H x H' → g x (wipe σ vs) H' fun σ2 H2 => wipe σ2 vs = wipe σ vs ∧ tYes σ2 H2 fun b H3 =>
        if b = true then te σ2 H3 fun y H4 => ∃ acc, H4 Dn = some (.lst acc) ∧ acc.length < sizeLine ∧ Nx (upd H4 Dn (.lst (acc ++ [y]))) else Nx H3) := by
  have hbig : 100000 < sizeLine := by decide
  refine lc_it walk_items (tt := tYes) (fun i H5 => Same G H5 ∧ H5 Dn = some (.lst (((D.take i).map f).map V.int))) ⟨same_upd hD, upd_same⟩ (fun i H5 _ q => q.1 _ _ hd) (fun i x H5 H6 hi q y => ?_) (fun H5 q => ?_)
  · obtain ⟨s5, hD5⟩ := q
    rw [kvI_len] at hi
    obtain ⟨Tt, kx, vx, rfl, q1, rfl, e1, e2⟩ := y
    obtain ⟨rfl, rfl⟩ := kvI_at hi e1 e2
    have s6 := same_upd (o := .tup [V.int D[i].1, V.int D[i].2]) q1
    have et : D.take (i + 1) = D.take i ++ [D[i]] := by rw [List.take_add_one, List.getElem?_eq_getElem hi]; rfl
    refine hs D[i] (List.getElem_mem hi) _ Tt _ (Same.trans s5 s6) upd_same (fun H' s' => ?_)
    refine ⟨_, Same.trans s6 s' _ _ hD5, ?_, same_put hD (Same.trans (Same.trans s5 s6) s'), ?_⟩
    · rw [List.length_map, List.length_map, List.length_take]; omega
    · rw [upd_same, et, List.map_append, List.map_append]; rfl
  · obtain ⟨s5, hD5⟩ := q
    rw [kvI_len, List.take_length] at hD5
    exact hend _ s5 hD5
section
variable {P : Program} {w : World} {K : PySem.W.Frag} {mg : Str → Option Value} {base : Heap}
def sp_slot_of : Sp := fun vs H Q _ => ∃ c : Int, vs = [.int c] ∧ c.natAbs < 2 ^ 60 ∧ Q (.int (slotL c)) H
theorem ok_slot_of (T : Txt K mg) : FnOk P w K mg base CX0 1 T.slot_of.f T.slot_of.fd P_slot_of sp_slot_of := by
  refine T.slot_of.F.ok sc_slot_of (fun vs H Q E h => ?_) (fun cdv A outer s H vs Q E hr h => ?_)
  · obtain ⟨c, rfl, _⟩ := h; rfl
  · obtain ⟨c, rfl, hc, k⟩ := h
    refine ⟨_, (pss_one (ps_ret (pe_ifExp (pt_cmpR op_ge (pv 0) pe_int (nomark _)) (pe_op op_mulW pe_int (pv 0)) (pe_op op_sub (pe_op op_mulW (pe_un un_neg pe_int) (pv 0)) pe_int)))), ?_⟩
    walk_at "rd"
    unfold slotL at k
    refine iteD (fun h0 => ?_) (fun h0 => ?_)
    · rw [if_pos h0] at k
      walk_at "rd"
      exact k
    · rw [if_neg h0] at k
      walk_at "rd"
      exact k
def sp_bits_of : Sp := fun vs H Q _ => ∃ (d : Addr) (D : IT2), vs = [.ref d] ∧ H d = some (.dK (kvI D)) ∧ (∀ e ∈ D, 0 ≤ e.1 ∧ e.1 ≤ 1000 ∧ e.2.natAbs < 2 ^ 64) ∧ D.length ≤ 1000 ∧ ∀ H', Same H H' → Q (.int (bitsL D)) H'
theorem ok_bits_of (T : Txt K mg) : FnOk P w K mg base CX0 2 T.bits_of.f T.bits_of.fd P_bits_of sp_bits_of := by
  refine T.bits_of.F.ok sc_bits_of (fun vs H Q E h => ?_) (fun cdv A outer s H vs Q E hr h => ?_)
  · obtain ⟨d, D, rfl, _⟩ := h; rfl
  · obtain ⟨d, D, rfl, hd, hb, hlen, k⟩ := h
    have hbig : 100000 < sizeLine := by decide
    refine ⟨_, (pss_cons (ps_set (i := 1) sc_bits_of.nd rfl (Or.inl rfl) pe_dnewK)
  (pss_cons (ps_lock (ps_for PassesOwn.never rfl (pi_items (pv 0)) (pg_tup rfl (pgs_cons (pg_name (i := 2) sc_bits_of.nd rfl (Or.inl rfl)) (pgs_cons (pg_name (i := 3) sc_bits_of.nd rfl (Or.inl rfl)) pgs_nil))) (pss_cons (ps_asg (pe_callB call_divmod rfl T.n_divmod bo_divmod (pa_cons (pe_call (ok_slot_of T) (hr.mono (by decide)) rfl T.slot_of.g T.slot_of.F.kp (b_slot_of T) .nil pass0 (pa_cons (pv 2) pa_nil)) (pa_cons (pe_glob rfl T.g_LOT (v := .int 32) ⟨_, rfl⟩) pa_nil))) (pg_tup rfl (pgs_cons (pg_name (i := 4) sc_bits_of.nd rfl (Or.inl rfl)) (pgs_cons (pg_name (i := 5) sc_bits_of.nd rfl (Or.inl rfl)) pgs_nil))))
  (pss_one (ps_dput (Nat.lt_of_le_of_lt (Nat.add_le_add_left (show 1 ≤ 64 by decide) _) hr.units) (pv 1) (pv 4) (pe_op op_add (pe_dget2 (Nat.lt_of_le_of_lt (Nat.add_le_add_left (show 1 ≤ 64 by decide) _) hr.units) (pv 1) (pv 4) pe_int ⟨rfl, rfl, rfl, rfl⟩) (pe_op op_shlN (pv 3) (pe_op op_mulW (pe_glob rfl T.g_WIDTH (v := .int 32) ⟨_, rfl⟩) (pv 5)))) rfl)))))
  (pss_one (ps_ret (pe_callB (r := rSumS K) (cr_sumS rfl) rfl T.n_sum bo_sum (pa_cons (pe_lock (pe_lc (own := [("lot", 4), ("bits", 6)]) rfl sc_bits_of.nd (pi_items (pv 1)) (blkOk_by (own := [("lot", 4), ("bits", 6)]) (N := N_bits_of) (sc := defScope s_bits_of) (by decide +kernel)) (fun _ _ _ _ _ => (pg_tupK (K := K) (n := 2) rfl rfl (pgs_cons (pg_name (i := 4) sc_bits_of.nd rfl (Or.inl rfl)) (pgs_cons (pg_name (i := 6) sc_bits_of.nd rfl (Or.inl rfl)) pgs_nil)))) (fun _ _ _ _ _ => pts_nil) (fun _ _ _ _ _ => (pe_op op_shlN (pv 6) (pe_op op_mulW (pe_op op_mulW (pe_glob rfl T.g_WIDTH (v := .int 32) ⟨_, rfl⟩) (pe_glob rfl T.g_LOT (v := .int 32) ⟨_, rfl⟩)) (pv 4)))))) pa_nil)))))), ?_⟩
    walk_at "rd"
    intro dl hdl
    have nl : dl ≠ d := fun z => by rw [z, hd] at hdl; cases hdl
    walk_at "rd"
    refine ⟨d, .dK (kvI D), (upd_ne nl.symm).trans hd, trivial, fun od => ?_⟩
    obtain ⟨G0, eG0⟩ : ∃ G0, G0 = upd H d (.frz od (.dK (kvI D))) := ⟨_, rfl⟩
    obtain ⟨G1, eG1⟩ : ∃ G1, G1 = upd (upd H dl (.dK [])) d (.frz od (.dK (kvI D))) := ⟨_, rfl⟩
    have G0d : G0 d = some (.frz od (.dK (kvI D))) := by rw [eG0]; exact upd_same
    have G0l : G0 dl = none := by rw [eG0]; exact (upd_ne nl).trans hdl
    have G1l : G1 dl = some (.dK []) := by rw [eG1]; exact (upd_ne nl).trans upd_same
    have s01 : Same G0 G1 := fun x o e => by
      rw [eG0] at e
      rw [eG1]
      by_cases h : x = d
      · subst h; rw [upd_same] at e ⊢; exact e
      · rw [upd_ne h] at e ⊢
        exact same_upd hdl _ _ e
    rw [← eG1]
    walk_at "rd"
    refine ⟨d, od, kvI D, rfl, s01 _ _ G0d, ?_⟩
    refine for_it walk_items (fun i σ Hx => Same G0 Hx ∧ Hx dl = some (.dK (kvI ((D.take i).foldl lotStep []))) ∧ ∃ y2 y3 y4 y5 y6, σ = [some (.ref d), some (.ref dl), y2, y3, y4, y5, y6]) ⟨s01, G1l, none, none, none, none, none, rfl⟩ (fun i σ Hx _ z => z.1 _ _ G0d) (fun i x σ Hx Hx' hi z y => ?_) (fun σ Hx z => ?_)
    · obtain ⟨sx, hxl, y2, y3, y4, y5, y6, rfl⟩ := z
      rw [kvI_len] at hi
      obtain ⟨Tt, kx, vx, rfl, q1, rfl, e1, e2⟩ := y
      obtain ⟨rfl, rfl⟩ := kvI_at hi e1 e2
      have s6 := same_upd (o := .tup [V.int D[i].1, V.int D[i].2]) q1
      have hbi := hb _ (List.getElem_mem hi)
      refine ⟨Tt, _, rfl, .inl (.inl upd_same), rfl, ?_⟩
      walk_at "rd"
      refine ⟨by omega, ?_⟩
      walk_at "rd"
      refine ⟨⟨by decide, by decide⟩, fun p np => ?_⟩
      refine ⟨p, _, rfl, .inl (.inl upd_same), rfl, ?_⟩
      have s7 := Same.trans s6 (same_upd (o := .tup [V.int (slotL D[i].1 / 32), V.int (slotL D[i].1 % 32)]) np)
      generalize upd (upd Hx Tt (.tup [V.int D[i].1, V.int D[i].2])) p (.tup [V.int (slotL D[i].1 / 32), V.int (slotL D[i].1 % 32)]) = Hy at *
      have hyl := s7 _ _ hxl
      have hs0 := slotL_nn D[i].1
      have hlb := lots_bound hb hlen i
      have hll : ((D.take i).foldl lotStep []).length ≤ 1000 := by
        have := lots_len (D.take i)
        rw [List.length_take] at this
        omega
      walk_at "rd"
      refine ⟨.inl ⟨_, .inl hyl⟩, ?_⟩
      walk_at "rd"
      refine ⟨_, DGet.k (k := Sum.inl (slotL D[i].1 / 32)) hyl, ?_⟩
      rw [kvI_val]
      have eg : ((getD2 ((D.take i).foldl lotStep []) (slotL D[i].1 / 32)).map V.int).getD (V.int 0) = V.int ((getD2 ((D.take i).foldl lotStep []) (slotL D[i].1 / 32)).getD 0) := by
        cases getD2 ((D.take i).foldl lotStep []) (slotL D[i].1 / 32) <;> rfl
      rw [eg]
      walk_at "rd"
      refine ⟨D[i].2, 32 * (slotL D[i].1 % 32).toNat, rfl, congrArg V.int (by omega), shl_ok hbi.2.2 (by omega), ?_⟩
      walk_at "rd"
      refine ⟨dl, _, rfl, DPut.k (k := Sum.inl (slotL D[i].1 / 32)) hyl (by rw [kvI_len]; omega), same_put G0l (Same.trans sx s7), ?_, _, _, _, _, _, rfl⟩
      have et : (D.take (i + 1)).foldl lotStep [] = lotStep ((D.take i).foldl lotStep []) D[i] := by rw [List.take_add_one, List.getElem?_eq_getElem hi, List.foldl_append]; rfl
      rw [upd_same, kvI_put (lots_nd D i), et]
      unfold lotStep
      rw [Int.natCast_pow]
      rfl
    · obtain ⟨sx, hxl, y2, y3, y4, y5, y6, rfl⟩ := z
      rw [kvI_len, List.take_length] at hxl
      refine ⟨sx _ _ G0d, ?_⟩
      have sU : Same H (upd Hx d (.dK (kvI D))) := unlock_same hd (by rw [← eG0]; exact sx)
      have hUl : (upd Hx d (.dK (kvI D))) dl = some (.dK (kvI (D.foldl lotStep []))) := (upd_ne nl).trans hxl
      generalize upd Hx d (.dK (kvI D)) = U at *
      have hlb : ∀ e ∈ D.foldl lotStep [], 0 ≤ e.1 ∧ e.1 ≤ 100 ∧ e.2.natAbs ≤ D.length * 2 ^ 1056 := by
        have := lots_bound hb hlen D.length
        rwa [List.take_length] at this
      have hll := lots_len D
      have hsum := lots_sum D
      have hnd : NdI (D.foldl lotStep []) := by
        have := lots_nd D D.length
        rwa [List.take_length] at this
      generalize D.foldl lotStep [] = L at *
      walk_at "rd"
      refine ⟨dl, _, hUl, trivial, fun ol => ?_⟩
      have Ud : (upd U dl (.frz ol (.dK (kvI L)))) dl = some (.frz ol (.dK (kvI L))) := upd_same
      walk_at "rd"
      refine ⟨dl, ol, kvI L, rfl, Ud, fun Dn hDn => ?_⟩
      refine lc_itemsI (f := fun e => e.2 * ((2 ^ (1024 * e.1.toNat) : Nat) : Int)) Ud hDn (by omega) (fun e he Ha Tt Bc sa hT hB => ?_) (fun H5 s5 e5 => ?_)
      · have hbe := hlb e he
        refine ⟨Tt, _, rfl, .inl (.inl hT), rfl, ?_⟩
        walk_at "rd"
        have h1 : D.length * 2 ^ 1056 < 2 ^ 1070 := by
          have : D.length * 2 ^ 1056 ≤ 1000 * 2 ^ 1056 := Nat.mul_le_mul_right _ hlen
          exact Nat.lt_of_le_of_lt this (by decide +kernel)
        refine ⟨e.2, 1024 * e.1.toNat, rfl, congrArg V.int (by omega), shl_ok (Nat.lt_of_le_of_lt hbe.2.2 h1) (by omega), ?_⟩
        have := hB Ha (Same.refl _)
        rw [Int.natCast_pow] at this
        exact this
      · refine ⟨s5 _ _ Ud, ?_⟩
        obtain ⟨hn, hne⟩ := lock_none hUl hDn
        have s6 := unlock_same hUl s5
        walk_at "rd"
        refine ⟨Dn, _, rfl, .inl (.inl (.inl ((upd_ne hne).trans e5))), ?_⟩
        walk_at "rd"
        have := k _ (Same.trans sU s6)
        rw [← hsum, wS_sum] at this
        exact this
end

/-! ### tables of bits; cancelling -/
def preK (i : Nat) : List Int := (List.range (32 * i)).map colL
theorem colL_dig {a k m : Nat} (h : k + 32 ≤ m) : ((a : Int) % 2 ^ m) / 2 ^ k % 2 ^ 32 = (((a >>> k) % 2 ^ 32 : Nat) : Int) := by
  rw [Nat.shiftRight_eq_div_pow, ← nat_bits h]
  rw [Int.natCast_emod, Int.natCast_ediv, Int.natCast_emod, Int.natCast_pow, Int.natCast_pow, Int.natCast_pow]
  rfl
theorem nodup_colL {l : List Nat} (h : l.Nodup) : (l.map colL).Nodup := List.Pairwise.map _ (fun a b h z => h (colL_inj z)) h
section
variable {P : Program} {w : World} {K : PySem.W.Frag} {mg : Str → Option Value} {base : Heap}
def sp_row_of_bits : Sp := fun vs H Q _ => ∃ b : Nat, vs = [.int b] ∧ b < 2 ^ 8192 ∧ ∀ d H', H d = none → H' d = some (.dK (kvI (rowGo 8 b 0))) → NdI (rowGo 8 b 0) → Same H H' → Q (.ref d) H'
theorem ok_row_of_bits (T : Txt K mg) : FnOk P w K mg base CX0 1 T.row_of_bits.f T.row_of_bits.fd P_row_of_bits sp_row_of_bits := by
  refine T.row_of_bits.F.ok sc_row_of_bits (fun vs H Q E h => ?_) (fun cdv A outer s H vs Q E hr h => ?_)
  · obtain ⟨b, rfl, _⟩ := h; rfl
  · obtain ⟨b, rfl, hb, k⟩ := h
    have hbig : 100000 < sizeLine := by decide
    refine ⟨_, (pss_cons (ps_set (i := 1) sc_row_of_bits.nd rfl (Or.inl rfl) pe_dnewK)
  (pss_cons (ps_par rfl sc_row_of_bits.nd (i := 2) (j := 3) rfl rfl (by decide) rfl rfl (pa_cons (pv 0) (pa_cons pe_int pa_nil)) rfl)
  (pss_cons (ps_while PassesOwn.never (pt_truth (pv 2) (by intro _; rfl)) (pss_cons (ps_set (i := 4) sc_row_of_bits.nd rfl (Or.inl rfl) (pe_op op_andM (pv 2) (pe_glob rfl T.g_LOT_MASK (v := .int MK1024) ⟨_, rfl⟩)))
  (pss_cons (ps_for PassesOwn.never rfl (pi_range2 rfl T.n_range (pa_cons (pv 3) (pa_cons (pe_op op_add (pv 3) (pe_glob rfl T.g_LOT (v := .int 32) ⟨_, rfl⟩)) pa_nil))) (pg_name (i := 5) sc_row_of_bits.nd rfl (Or.inl rfl)) (pss_one (ps_dput (Nat.lt_of_le_of_lt (Nat.add_le_add_left (show 1 ≤ 64 by decide) _) hr.units) (pv 1) (pe_ifExp (pt_truth (pe_op op_odd (pv 5) pe_int) (by intro _; rfl)) (pe_op op_fdivZ (pe_un un_neg (pe_op op_add (pv 5) pe_int)) pe_int) (pe_op op_fdivZ (pv 5) pe_int)) (pe_op op_andM (pe_op op_shrN (pv 4) (pe_op op_mulW (pe_glob rfl T.g_WIDTH (v := .int 32) ⟨_, rfl⟩) (pe_op op_sub (pv 5) (pv 3)))) (pe_glob rfl T.g_MASK (v := .int MK32) ⟨_, rfl⟩)) rfl)))
  (pss_cons (ps_set (i := 2) sc_row_of_bits.nd rfl (Or.inl rfl) (pe_op op_shrN (pv 2) (pe_op op_mulW (pe_glob rfl T.g_WIDTH (v := .int 32) ⟨_, rfl⟩) (pe_glob rfl T.g_LOT (v := .int 32) ⟨_, rfl⟩))))
  (pss_one (ps_aug (i := 3) sc_row_of_bits.nd rfl (Or.inl rfl) (pe_glob rfl T.g_LOT (v := .int 32) ⟨_, rfl⟩) ip_add))))))
  (pss_one (ps_ret (pv 1)))))), ?_⟩
    walk_at "rd"
    intro d hd
    walk_at "rd"
    delta tSeq
    dsimp only
    refine while_by (fun σ H' => ∃ (i left : Nat) (pre : IT2) (y4 y5 : Option V), i ≤ 8 ∧ left < 2 ^ (1024 * (8 - i)) ∧ rowGo 8 b 0 = pre ++ rowGo (8 - i) left (32 * i) ∧ pre.map (·.1) = preK i ∧ Same H H' ∧ H' d = some (.dK (kvI pre)) ∧ σ = [some (.int b), some (.ref d), some (.int left), some (.int ((32 * i : Nat) : Int)), y4, y5])
      (fun σ _ => match σ with | [_, _, _, some (.int a), _, _] => 1000 - a.toNat | _ => 0) ⟨0, b, [], none, none, by omega, hb, rfl, rfl, same_upd hd, upd_same, rfl⟩ ?_ ?_
    · clear hb
      rintro σ H1 ⟨i, left, pre, y4, y5, hi, hl, hrow, hpk, s1, e1, rfl⟩
      have hplen : pre.length = 32 * i := by
        have := congrArg List.length hpk
        unfold preK at this
        rwa [List.length_map, List.length_map, List.length_range] at this
      have hpnd : NdI pre := by
        unfold NdI
        rw [hpk]
        unfold preK
        exact List.Pairwise.map _ (fun a b h z => h (colL_inj z)) List.nodup_range
      walk_at "rd"
      refine iteN0 (fun h0 => ?_) (fun h0 => ?_)
      · have h0' : left ≠ 0 := by omega
        have hi8 : i < 8 := by
          refine Nat.lt_of_not_le fun c => h0' ?_
          have e8 : i = 8 := by omega
          rw [e8] at hl
          simpa using hl
        walk_at "rd"
        refine ⟨⟨by omega, by omega, by omega, by omega⟩, ?_⟩
        rw [show ((((32 * i : Nat) : Int) + 32) - ((32 * i : Nat) : Int)).toNat = 32 by omega]
        have hLR : ∀ j, ((lotRow left (32 * i)).take j).length ≤ 32 := fun j => by
          rw [List.length_take]
          unfold lotRow
          rw [List.length_map, List.length_range]
          omega
        have hLnd : ∀ j, NdI (pre ++ (lotRow left (32 * i)).take j) := fun j => by
          unfold NdI
          rw [List.map_append, List.map_take, lotRow_keys, hpk]
          have e : preK i ++ ((List.range 32).map fun a => colL (32 * i + a)).take j = (((List.range (32 * i)) ++ ((List.range 32).map fun a => 32 * i + a).take j)).map colL := by
            unfold preK
            rw [List.map_append, List.map_take, List.map_map]
            rfl
          rw [e]
          refine nodup_colL ?_
          have e2 : List.range (32 * i) ++ ((List.range 32).map fun a => 32 * i + a).take j = (List.range (32 * i) ++ (List.range 32).map fun a => 32 * i + a).take (32 * i + j) := by
            conv => rhs; rw [List.take_append, List.length_range, List.take_of_length_le (l := List.range (32 * i)) (by rw [List.length_range]; omega)]
            rw [show 32 * i + j - 32 * i = j by omega]
          rw [e2, ← List.range_add]
          exact List.nodup_range.sublist (List.take_sublist _ _)
        refine for_range (lo := ((32 * i : Nat) : Int)) (n := 32) (fun j σ H' => ∃ y5, Same H H' ∧ H' d = some (.dK (kvI (pre ++ (lotRow left (32 * i)).take j))) ∧ σ = [some (.int b), some (.ref d), some (.int left), some (.int ((32 * i : Nat) : Int)), some (.int ((left : Int) % 2 ^ 1024)), y5])
          ⟨_, s1, by rw [List.take_zero, List.append_nil]; exact e1, rfl⟩ (fun j σ H2 hj q => ?_) (fun σ H2 q => ?_)
        · obtain ⟨y5, s2, e2, rfl⟩ := q
          walk_at "rd"
          refine ⟨_, 32 * j, rfl, congrArg V.int (by omega), ?_⟩
          refine ⟨_, 32, rfl, rfl, ?_⟩
          rw [colL_dig (show 32 * j + 32 ≤ 1024 by omega)]
          walk_at "rd"
          have hcol : ∀ Hz, Same H2 Hz → Hz d = some (.dK (kvI (pre ++ (lotRow left (32 * i)).take j))) := fun Hz s => s _ _ e2
          have hget : (lotRow left (32 * i))[j]? = some (colL (32 * i + j), (((left >>> (32 * j)) % 2 ^ 32 : Nat) : Int)) := by
            unfold lotRow
            rw [List.getElem?_map, List.getElem?_range hj]; rfl
          have htk : (lotRow left (32 * i)).take (j + 1) = (lotRow left (32 * i)).take j ++ [(colL (32 * i + j), (((left >>> (32 * j)) % 2 ^ 32 : Nat) : Int))] := by
            rw [List.take_add_one, hget]; rfl
          have hno : hasD2 (pre ++ (lotRow left (32 * i)).take j) (colL (32 * i + j)) = false := by
            cases c : hasD2 (pre ++ (lotRow left (32 * i)).take j) (colL (32 * i + j)) with
            | false => rfl
            | true =>
              exfalso
              rw [hasD2_iff] at c
              have h1 := hLnd (j + 1)
              unfold NdI at h1
              rw [htk, ← List.append_assoc, List.map_append, List.nodup_append] at h1
              exact h1.2.2 _ c (colL (32 * i + j)) (by simp) rfl
          have fin : ∀ (c : Int), c = colL (32 * i + j) → ∃ a H4, V.ref d = .ref a ∧ DPut H2 a (.int c) (.int (((left >>> (32 * j)) % 2 ^ 32 : Nat) : Int)) H4 ∧ Same H H4 ∧ H4 d = some (.dK (kvI (pre ++ (lotRow left (32 * i)).take (j + 1)))) := fun c hc => by
            subst hc
            refine ⟨d, _, rfl, DPut.k (k := Sum.inl (colL (32 * i + j))) e2 ?_, same_put hd s2, ?_⟩
            · rw [kvI_len, List.length_append]
              have := hLR j
              omega
            · rw [upd_same, kvI_put (hLnd j), putD2_new hno, htk, List.append_assoc]
          refine iteN0 (fun ho => ?_) (fun ho => ?_)
          · walk_at "rd"
            obtain ⟨a, H4, ea, hp, s4, e4⟩ := fin (Int.fdiv (-(((32 * i : Nat) : Int) + (j : Int) + 1)) 2) (by
              unfold colL
              rw [if_pos (show (32 * i + j) % 2 = 1 by omega), Int.fdiv_eq_ediv_of_nonneg _ (by decide)]
              omega)
            exact ⟨a, H4, ea, hp, _, s4, e4, rfl⟩
          · walk_at "rd"
            obtain ⟨a, H4, ea, hp, s4, e4⟩ := fin (Int.fdiv (((32 * i : Nat) : Int) + (j : Int)) 2) (by
              unfold colL
              rw [if_neg (show ¬ (32 * i + j) % 2 = 1 by omega), Int.fdiv_eq_ediv_of_nonneg _ (by decide)]
              omega)
            exact ⟨a, H4, ea, hp, _, s4, e4, rfl⟩
        · obtain ⟨y5, s2, e2, rfl⟩ := q
          have hlen32 : (lotRow left (32 * i)).length = 32 := by
            unfold lotRow
            rw [List.length_map, List.length_range]
          rw [List.take_of_length_le (by omega)] at e2
          walk_at "rd"
          have eL : ((left : Int) / (2 : Int) ^ (32 * 32)) = ((left >>> 1024 : Nat) : Int) := by
            rw [Nat.shiftRight_eq_div_pow, Int.natCast_ediv, Int.natCast_pow]; rfl
          have eS : ((32 * i : Nat) : Int) + 32 = ((32 * (i + 1) : Nat) : Int) := by omega
          dsimp only
          rw [eL, eS]
          refine ⟨⟨i + 1, left >>> 1024, pre ++ lotRow left (32 * i), _, _, by omega, ?_, ?_, ?_, s2, e2, rfl⟩, ?_⟩
          · rw [Nat.shiftRight_eq_div_pow]
            refine Nat.div_lt_of_lt_mul ?_
            rw [← Nat.pow_add, show 1024 + 1024 * (8 - (i + 1)) = 1024 * (8 - i) by omega]
            exact hl
          · rw [hrow, show 8 - i = (8 - (i + 1)) + 1 by omega, rowGo_succ h0', List.append_assoc, show 32 * i + 32 = 32 * (i + 1) by omega]
          · rw [List.map_append, lotRow_keys, hpk]
            unfold preK
            rw [show 32 * (i + 1) = 32 * i + 32 by omega, List.range_add, List.map_append, List.map_map]
            rfl
          · show 1000 - _ < 1000 - _
            omega
      · have h0' : left = 0 := by omega
        subst h0'
        rw [rowGo_zero, List.append_nil] at hrow
        walk_at "rd"
        exact k d _ hd (by rw [hrow]; exact e1) (by rw [hrow]; exact hpnd) s1
    · intro σ H1 Q1 Q2 hq h
      obtain ⟨x, e, y, f, g⟩ := h
      exact ⟨x, e, y, f, hq _ _ g⟩
end

/-! ### max(xs, default=d) of a list of ints -/
section
open PySem.Spec PyProof.Rows
variable {X : Cx}
theorem fold_max_mem : ∀ (ns : List Int) (n : Int), ns.foldl max n ∈ n :: ns
  | [], n => List.mem_cons_self
  | m :: ns, n => by
    have h := fold_max_mem ns (max n m)
    rw [List.foldl_cons]
    rcases List.mem_cons.mp h with h | h
    · rw [h]
      by_cases c : n ≤ m
      · rw [Int.max_eq_right c]; simp
      · rw [Int.max_eq_left (by omega)]; simp
    · exact List.mem_cons_of_mem _ (List.mem_cons_of_mem _ h)
theorem fold_max_ge : ∀ (ns : List Int) (n : Int), ∀ y ∈ n :: ns, y ≤ ns.foldl max n
  | [], n, y, h => by rw [List.mem_singleton] at h; rw [h]; exact Int.le_refl _
  | m :: ns, n, y, h => by
    have g := fold_max_ge ns (max n m)
    rw [List.foldl_cons]
    rcases List.mem_cons.mp h with rfl | h
    · exact Int.le_trans (Int.le_max_left _ _) (g _ List.mem_cons_self)
    · rcases List.mem_cons.mp h with rfl | h
      · exact Int.le_trans (Int.le_max_right _ _) (g _ List.mem_cons_self)
      · exact g _ (List.mem_cons_of_mem _ h)
def tMaxD (K : PySem.W.Frag) (te td : TE) : TE := fun σ H Q => tCons te tNil σ H fun vs H1 => tCons td tNil σ H1 fun zs H2 => ∃ (a : Addr) (ns : List Int) (d : V), vs = [.ref a] ∧ zs = [d] ∧ SqL K H2 a (ns.map V.int) ∧ (ns = [] → Q d H2) ∧ ∀ m, m ∈ ns → (∀ y ∈ ns, y ≤ m) → Q (.int m) H2
theorem depth_ints : ∀ ns : List Int, PyData.depthAll (ns.map PyData.int) ≤ 1
  | [] => by simp [PyData.depthAll]
  | n :: ns => by
    have := depth_ints ns
    rw [List.map_cons]
    simp only [PyData.depthAll, PyData.depth]
    omega
theorem dpAll_ints0 {K : PySem.W.Frag} {H : Hp} : ∀ ns : List Int, DpAll K H (ns.map V.int) (ns.map PyData.int)
  | [] => .nil
  | n :: ns => .cons (.int n) (dpAll_ints0 ns)
theorem pe_maxD {e fe : Expr} {te td : TE} {p pos kpos : Pos} {k : Nat} (hr : Room k X.A) (hg : Gl X "max") (hm : X.mg "max" = none) (hv : bootBuiltins "max" = some (.builtin "max")) (he : PE X e te) (hl : PE X fe td)
    (q0 : starEach [e] X.env = (false, eval e X.env) :: starEach [] X.env := by rfl)
    (q1 : backTo pos (starEach [e] X.env) = (false, eval e X.env) :: backTo pos (starEach [] X.env) := by rfl) (q2 : (backTo pos (starEach [e] X.env)).any (·.1) = false := by rfl)
    (q3 : (backToKw pos (keywordEach [⟨some "default", fe, kpos⟩] X.env)).all (·.1.isSome) = true := by rfl) (q4 : (backToKw pos (keywordEach [⟨some "default", fe, kpos⟩] X.env)).any (·.1.isNone) = false := by rfl)
    (q5 : (backToKw pos (keywordEach [⟨some "default", fe, kpos⟩] X.env)).filterMap (·.1) = [Str.ofString "default"] := by rfl) :
    PE X (.Call (.Name "max" p) [e] [⟨some "default", fe, kpos⟩] pos) (tMaxD X.K te td) := by
  refine ⟨fun pins s σ H Q I h => wpAny_Call_Name_kw (ld_blt I hg hm hv ?_)⟩
  have ha := pa_cons (X := X) he pa_nil q0
  have hk := pk_cons (X := X) (nm := some "default") (kpos := kpos) hl pk_nil
  refine PyProof.Rows.callWith_kw (thn (ha.run pos pins s σ H _ I h) fun us s1 ⟨vs, H1, I1, r1, h1⟩ => thn (hk.run pos pins s1 σ H1 _ I1 h1) fun ws s2 ⟨zs, H2, I2, r2, a, ns, d, ev, ez, hs, q0, q1⟩ => ?_) q1 q2 q3 q4
  rw [q5]
  subst ev ez
  obtain rfl := Vals.ref1 r1
  obtain ⟨w1, rfl, e1⟩ := vals1 r2
  obtain ⟨its, rv, hli, hz⟩ := I2.list hs
  obtain ⟨as, hra⟩ := Dp.readsAll I2 _ _ _ (dpAll_ints0 (K := X.K) (H := H2) ns) rv
  refine PySem.W.max_list_default (xs := ns.map PyData.int) (as := as) hr.hd hli.isList (by rw [List.toList_toArray]; exact hra) ⟨fun x hx y hy => ?_, fun x hx => ?_⟩ ?_ (fun hn h' tk hk2 => ?_) (fun y ys i v h' tk bs hxs hv' hrd hk2 => ?_)
  · obtain ⟨n1, _, rfl⟩ := List.mem_map.mp hx
    obtain ⟨n2, _, rfl⟩ := List.mem_map.mp hy
    rfl
  · obtain ⟨n1, _, rfl⟩ := List.mem_map.mp hx
    exact fun z => nomatch z
  · have := hr.units
    have := depth_ints ns
    omega
  · have en : ns = [] := List.map_eq_nil_iff.mp hn
    exact ⟨d, H2, I2.kept (t' := tk) hk2, e1, q0 en⟩
  · cases ns with
    | nil => cases hxs
    | cons n ns =>
      rw [List.map_cons] at hxs
      cases hxs
      rw [PySem.W.maxD_ints] at hrd
      cases hrd
      refine ⟨.int (ns.foldl max n), H2, I2.kept (t' := tk) hk2, ⟨_, rfl⟩, q1 _ ?_ ?_⟩
      · exact fold_max_mem ns n
      · exact fold_max_ge ns n
end

/-! ### min(xs, default=d) of a list of ints -/
section
open PySem.Spec PyProof.Rows
variable {X : Cx}
theorem fold_min_mem : ∀ (ns : List Int) (n : Int), ns.foldl min n ∈ n :: ns
  | [], n => List.mem_cons_self
  | m :: ns, n => by
    have h := fold_min_mem ns (min n m)
    rw [List.foldl_cons]
    rcases List.mem_cons.mp h with h | h
    · rw [h]
      by_cases c : n ≤ m
      · rw [Int.min_eq_left c]; simp
      · rw [Int.min_eq_right (by omega)]; simp
    · exact List.mem_cons_of_mem _ (List.mem_cons_of_mem _ h)
theorem fold_min_le : ∀ (ns : List Int) (n : Int), ∀ y ∈ n :: ns, ns.foldl min n ≤ y
  | [], n, y, h => by rw [List.mem_singleton] at h; rw [h]; exact Int.le_refl _
  | m :: ns, n, y, h => by
    have g := fold_min_le ns (min n m)
    rw [List.foldl_cons]
    rcases List.mem_cons.mp h with rfl | h
    · exact Int.le_trans (g _ List.mem_cons_self) (Int.min_le_left _ _)
    · rcases List.mem_cons.mp h with rfl | h
      · exact Int.le_trans (g _ List.mem_cons_self) (Int.min_le_right _ _)
      · exact g _ (List.mem_cons_of_mem _ h)
def tMinD (K : PySem.W.Frag) (te td : TE) : TE := fun σ H Q => tCons te tNil σ H fun vs H1 => tCons td tNil σ H1 fun zs H2 => ∃ (a : Addr) (ns : List Int) (d : V), vs = [.ref a] ∧ zs = [d] ∧ SqL K H2 a (ns.map V.int) ∧ (ns = [] → Q d H2) ∧ ∀ m, m ∈ ns → (∀ y ∈ ns, m ≤ y) → Q (.int m) H2
theorem pe_minD {e fe : Expr} {te td : TE} {p pos kpos : Pos} {k : Nat} (hr : Room k X.A) (hg : Gl X "min") (hm : X.mg "min" = none) (hv : bootBuiltins "min" = some (.builtin "min")) (he : PE X e te) (hl : PE X fe td)
    (q0 : starEach [e] X.env = (false, eval e X.env) :: starEach [] X.env := by rfl)
    (q1 : backTo pos (starEach [e] X.env) = (false, eval e X.env) :: backTo pos (starEach [] X.env) := by rfl) (q2 : (backTo pos (starEach [e] X.env)).any (·.1) = false := by rfl)
    (q3 : (backToKw pos (keywordEach [⟨some "default", fe, kpos⟩] X.env)).all (·.1.isSome) = true := by rfl) (q4 : (backToKw pos (keywordEach [⟨some "default", fe, kpos⟩] X.env)).any (·.1.isNone) = false := by rfl)
    (q5 : (backToKw pos (keywordEach [⟨some "default", fe, kpos⟩] X.env)).filterMap (·.1) = [Str.ofString "default"] := by rfl) :
    PE X (.Call (.Name "min" p) [e] [⟨some "default", fe, kpos⟩] pos) (tMinD X.K te td) := by
  refine ⟨fun pins s σ H Q I h => wpAny_Call_Name_kw (ld_blt I hg hm hv ?_)⟩
  have ha := pa_cons (X := X) he pa_nil q0
  have hk := pk_cons (X := X) (nm := some "default") (kpos := kpos) hl pk_nil
  refine PyProof.Rows.callWith_kw (thn (ha.run pos pins s σ H _ I h) fun us s1 ⟨vs, H1, I1, r1, h1⟩ => thn (hk.run pos pins s1 σ H1 _ I1 h1) fun ws s2 ⟨zs, H2, I2, r2, a, ns, d, ev, ez, hs, q0, q1⟩ => ?_) q1 q2 q3 q4
  rw [q5]
  subst ev ez
  obtain rfl := Vals.ref1 r1
  obtain ⟨w1, rfl, e1⟩ := vals1 r2
  obtain ⟨its, rv, hli, hz⟩ := I2.list hs
  obtain ⟨as, hra⟩ := Dp.readsAll I2 _ _ _ (dpAll_ints0 (K := X.K) (H := H2) ns) rv
  refine PySem.W.min_list_default (xs := ns.map PyData.int) (as := as) hr.hd hli.isList (by rw [List.toList_toArray]; exact hra) ⟨fun x hx y hy => ?_, fun x hx => ?_⟩ ?_ (fun hn h' tk hk2 => ?_) (fun y ys i v h' tk bs hxs hv' hrd hk2 => ?_)
  · obtain ⟨n1, _, rfl⟩ := List.mem_map.mp hx
    obtain ⟨n2, _, rfl⟩ := List.mem_map.mp hy
    rfl
  · obtain ⟨n1, _, rfl⟩ := List.mem_map.mp hx
    exact fun z => nomatch z
  · have := hr.units
    have := depth_ints ns
    omega
  · have en : ns = [] := List.map_eq_nil_iff.mp hn
    exact ⟨d, H2, I2.kept (t' := tk) hk2, e1, q0 en⟩
  · cases ns with
    | nil => cases hxs
    | cons n ns =>
      rw [List.map_cons] at hxs
      cases hxs
      rw [PySem.W.minD_ints] at hrd
      cases hrd
      refine ⟨.int (ns.foldl min n), H2, I2.kept (t' := tk) hk2, ⟨_, rfl⟩, q1 _ ?_ ?_⟩
      · exact fold_min_mem ns n
      · exact fold_min_le ns n
end

/-! ### name = {.. for ..}, the name a local -/
section
open PySem.Spec PyProof.Rows
variable {X : Cx}
theorem sw_trueD {kx vx : Expr} {gs : List Comprehension} {scope : Scope} {pos py : Pos} {y : Str} {l : Nat} {env : Env} (fn : env.scope.kind = .function) (lo : env.scope.names.lookup y = some .local) (li : (py.line == pos.line) = true)
    (no : (scope.names.any fun z => z.1 == y && (z.2 == .local || z.2 == .cell)) = false) : swapsWith (.DictComp kx vx gs scope pos) (some (.Name y py)) l env = pure true := by
  have k1 : env.kindOf y = some .local := lo
  have k2 : env.blockKind = .function := (by unfold Env.blockKind; rw [fn]; rfl)
  unfold swapsWith
  simp only [k2, k1, no, Expr.pos, li]
  rfl
theorem ps_setDc {i : Nat} {y : Str} {py : Pos} {kx vx tg iter : Expr} {ifs : List Expr} {scope : Scope} {own : List (Str × Nat)} {pos spos : Pos} {wi : TI} {g : TG} {tt : TT} {tk tv : TE} (calm : X.calm = true) (nd : X.N.Nodup) (at_ : X.N[i]? = some y) (loc : X.env.scope.names.lookup y = some .local)
    (sw : swapsWith (.DictComp kx vx [⟨tg, iter, ifs, 0⟩] scope pos) (some (.Name y py)) spos.line X.env = pure true) (pi : PI X tg iter wi) (blk : BlkOk X.N X.env.scope scope own)
    (pg : ∀ (s : Shared) (H : Hp) (C : Addr) (cl : List (Str × Addr)) (fp : List Addr), PG (X.blk s H scope (compEnvC scope cl C X.env) fp) tg g) (pt : ∀ (s : Shared) (H : Hp) (C : Addr) (cl : List (Str × Addr)) (fp : List Addr), PTs (X.blk s H scope (compEnvC scope cl C X.env) fp) ifs tt)
    (pk : ∀ (s : Shared) (H : Hp) (C : Addr) (cl : List (Str × Addr)) (fp : List Addr), PE (X.blk s H scope (compEnvC scope cl C X.env) fp) kx tk)
    (pv : ∀ (s : Shared) (H : Hp) (C : Addr) (cl : List (Str × Addr)) (fp : List Addr), PE (X.blk s H scope (compEnvC scope cl C X.env) fp) vx tv) (fold : ∀ x, foldedSetIterable iter X.env x = pure x := by intro _; rfl) :
    PS X (.Assign [.Name y py] (.DictComp kx vx [⟨tg, iter, ifs, 0⟩] scope pos) spos) (tAsg (tDc wi g tt tk tv (own.map (·.2))) (gName i)) := by
  refine ⟨fun pins s σ H D I h => ?_⟩
  have h : tDc wi g tt tk tv (own.map (·.2)) σ H (fun x H1 => gName i x σ H1 D.nx) := h
  rw [exec_Assign_Name_used _ _ _ _ sw]; refine wpAny_bind (wpAny_standAt (wpAny_bind ?_)); show wpAny _ X.A (do let _ ← comprehension (.DictComp kx vx [⟨tg, iter, ifs, 0⟩] scope pos) scope X.env (firstIterPos [⟨tg, iter, ifs, 0⟩] pos) newDict false (eval iter X.env) (some (assign (.Name y py) X.env))) _ _ s
  refine wpAny_bind (thn (dc_core (Qf := fun _ s' => SP X pins D .next s') calm nd I pi blk pg pt pk pv fold h fun L C s' m H' J q ns fo => ?_) fun _ s' hq => wpAny_pure (wpAny_pure hq))
  show wpAny _ _ (assign (.Name y py) X.env (.ref L)) _ _ _; refine wpAny_assign_Name (store_ok2 (v := V.ref L) J nd at_ (.inl loc) rfl (fun s2 J2 ⟨a, sb, ha⟩ => ?_) (.inr loc))
  obtain ⟨g0, g1, g2, g3, g4, g5⟩ := fo
  have n : C ≠ a := ha.elim (fun z => z ▸ g1) fun z e => g4 y a z e.symm
  exact ⟨m, ns.sameBut sb n, fun h3 sb3 => ⟨_, H', J2.turned (t' := s2.toks) (fun b o hb e => (sb3.2 b hb).trans e) g0 g1 g3 g4 g5, q⟩⟩
end

/-! ### cancelling -/
theorem okD_iff {D : IT2} : okD D = true ↔ D.length ≤ 1000 ∧ ∀ e ∈ D, 0 ≤ e.1 ∧ e.1 ≤ 1000 ∧ e.2.natAbs < 2 ^ 60 := by
  unfold okD
  rw [Bool.and_eq_true, decide_eq_true_eq, List.all_eq_true]
  refine and_congr Iff.rfl (forall_congr' fun e => forall_congr' fun he => ?_)
  rw [Bool.and_eq_true, Bool.and_eq_true, decide_eq_true_eq, decide_eq_true_eq, decide_eq_true_eq, and_assoc]
theorem gcdF_le {B : Nat} : ∀ (D : IT2) (c : Nat), (∀ e ∈ D, e.2.natAbs ≤ B) → gcdF D c ≤ max c B
  | [], c, _ => Nat.le_max_left _ _
  | e :: r, c, h => by
    have h1 := gcdF_le r (Nat.gcd c e.2.natAbs) fun x hx => h x (List.mem_cons_of_mem _ hx)
    have h2 := h e List.mem_cons_self
    show gcdF r (Nat.gcd c e.2.natAbs) ≤ _
    have h3 : Nat.gcd c e.2.natAbs ≤ max c B := by
      by_cases hc : c = 0
      · rw [hc, Nat.gcd_zero_left]; exact Nat.le_trans h2 (Nat.le_max_right _ _)
      · exact Nat.le_trans (Nat.gcd_le_left _ (by omega)) (Nat.le_max_left _ _)
    have h4 := Nat.le_max_right c B
    omega
theorem canc_nd {n : Int} : ∀ (E t : IT2), NdI t → NdI (E.foldl (cancS n) t)
  | [], _, h => h
  | e :: r, t, h => canc_nd r _ (putD2_nd h)
theorem canc_len {n : Int} : ∀ (E t : IT2), (E.foldl (cancS n) t).length ≤ t.length + E.length
  | [], t => by simp
  | e :: r, t => by
    have h1 := canc_len (n := n) r (cancS n t e)
    have h2 : (cancS n t e).length ≤ t.length + 1 := putD2_len _
    rw [List.foldl_cons, List.length_cons]
    omega
theorem canc_bound {n : Int} {B : Nat} (hn : n.natAbs < 2 ^ 60) : ∀ (E t : IT2), (∀ e ∈ E, e.2.natAbs < 2 ^ 60) → (∀ e ∈ t, e.2.natAbs ≤ B) → ∀ e ∈ E.foldl (cancS n) t, e.2.natAbs ≤ B + E.length * 2 ^ 120
  | [], t, _, h, e, he => by simpa using h e he
  | x :: r, t, hE, h, e, he => by
    have hx := hE x List.mem_cons_self
    have hm : (n * x.2).natAbs ≤ 2 ^ 120 := by
      rw [Int.natAbs_mul]
      have := Nat.mul_le_mul (Nat.le_of_lt hn) (Nat.le_of_lt hx)
      rw [← Nat.pow_add] at this
      exact this
    have h1 : ∀ e ∈ cancS n t x, e.2.natAbs ≤ B + 2 ^ 120 := fun e he => by
      rcases putD2_mem he with he | ⟨_, e2⟩
      · exact Nat.le_trans (h e he) (Nat.le_add_right _ _)
      · rw [e2]
        have hg : ((getD2 t x.1).getD 0).natAbs ≤ B := by
          cases c : getD2 t x.1 with
          | none => simp
          | some v => exact h _ (getD2_mem c)
        have := Int.natAbs_sub_le ((getD2 t x.1).getD 0) (n * x.2)
        omega
    have := canc_bound (B := B + 2 ^ 120) hn r (cancS n t x) (fun e he => hE e (List.mem_cons_of_mem _ he)) h1 e he
    rw [List.length_cons, Nat.add_mul, Nat.one_mul]
    omega
theorem filter_true' {α : Type} (l : List α) : l.filter (fun _ => true) = l := by
  rw [List.filter_eq_self]; intro _ _; rfl
section
variable {P : Program} {w : World} {K : PySem.W.Frag} {mg : Str → Option Value} {base : Heap}
def sp_cancelled : Sp := fun vs H Q _ => ∃ (d1 d2 : Addr) (D E : IT2) (n first : Int), vs = [.ref d1, .int n, .ref d2, .int first] ∧ H d1 = some (.dK (kvI D)) ∧ H d2 = some (.dK (kvI E)) ∧ NdI D ∧ okD D = true ∧ okD E = true ∧ n.natAbs < 2 ^ 60 ∧ first.natAbs < 2 ^ 60 ∧
  ∀ d H', H d = none → H' d = some (.dK (kvI (cancL D n E first))) → NdI (cancL D n E first) → Same H H' → Q (.ref d) H'
theorem ok_cancelled (T : Txt K mg) : FnOk P w K mg base CX0 2 T.cancelled.f T.cancelled.fd P_cancelled sp_cancelled := by
  refine T.cancelled.F.ok sc_cancelled (fun vs H Q E h => ?_) (fun cdv A outer s H vs Q E hr h => ?_)
  · obtain ⟨d1, d2, D, E', n, first, rfl, _⟩ := h; rfl
  · obtain ⟨d1, d2, D, F, n, first, rfl, hd1, hd2, hnd, hoD, hoF, hn, hf, k⟩ := h
    have hbig : 100000 < sizeLine := by decide
    obtain ⟨hDl, hDb⟩ := okD_iff.mp hoD
    obtain ⟨hFl, hFb⟩ := okD_iff.mp hoF
    refine ⟨_, (pss_cons (ps_lock (ps_setDc (i := 4) (own := [("at", 5), ("number", 6)]) rfl sc_cancelled.nd rfl rfl (sw_trueD rfl rfl rfl (by decide +kernel)) (pi_items (pv 0)) (blkOk_by (own := [("at", 5), ("number", 6)]) (N := N_cancelled) (sc := defScope s_cancelled) (by decide +kernel)) (fun _ _ _ _ _ => (pg_tupK (K := K) (n := 2) rfl rfl (pgs_cons (pg_name (i := 5) sc_cancelled.nd rfl (Or.inl rfl)) (pgs_cons (pg_name (i := 6) sc_cancelled.nd rfl (Or.inl rfl)) pgs_nil)))) (fun _ _ _ _ _ => pts_nil) (fun _ _ _ _ _ => (pv 5)) (fun _ _ _ _ _ => (pe_op op_mulW (pv 6) (pv 3)))))
  (pss_cons (ps_lock (ps_for PassesOwn.never rfl (pi_items (pv 2)) (pg_tup rfl (pgs_cons (pg_name (i := 5) sc_cancelled.nd rfl (Or.inl rfl)) (pgs_cons (pg_name (i := 6) sc_cancelled.nd rfl (Or.inl rfl)) pgs_nil))) (pss_one (ps_dput (Nat.lt_of_le_of_lt (Nat.add_le_add_left (show 1 ≤ 64 by decide) _) hr.units) (pv 4) (pv 5) (pe_op op_sub (pe_dget2 (Nat.lt_of_le_of_lt (Nat.add_le_add_left (show 1 ≤ 64 by decide) _) hr.units) (pv 4) (pv 5) pe_int ⟨rfl, rfl, rfl, rfl⟩) (pe_op op_mulW (pv 1) (pv 6))) rfl))))
  (pss_cons (ps_set (i := 7) sc_cancelled.nd rfl (Or.inr rfl) (pe_call (ok_common_divisor T) (hr.mono (by decide)) rfl T.common_divisor.g T.common_divisor.F.kp (b_common_divisor T) .nil pass0 (pa_cons (pv 4) (pa_cons pe_int pa_nil))))
  (pss_one (ps_ret (pe_ifExp (pt_cmpR op_gt (pv 7) pe_int (nomark _)) (pe_lock (pe_dc (own := [("at", 5), ("number", 6)]) rfl sc_cancelled.nd (pi_items (pv 4)) (blkOk_by (own := [("at", 5), ("number", 6)]) (N := N_cancelled) (sc := defScope s_cancelled) (by decide +kernel)) (fun _ _ _ _ _ => (pg_tupK (K := K) (n := 2) rfl rfl (pgs_cons (pg_name (i := 5) sc_cancelled.nd rfl (Or.inl rfl)) (pgs_cons (pg_name (i := 6) sc_cancelled.nd rfl (Or.inl rfl)) pgs_nil)))) (fun _ _ _ _ _ => pts_nil) (fun _ _ _ _ _ => (pv 5)) (fun _ _ _ _ _ => (pe_op op_fdivZ (pv 6) (pv 7))))) (pv 4))))))), ?_⟩
    walk_at "rd"
    refine ⟨d1, _, hd1, trivial, fun od => ?_⟩
    have Gd : (upd H d1 (.frz od (.dK (kvI D)))) d1 = some (.frz od (.dK (kvI D))) := upd_same
    walk_at "rd"
    refine ⟨d1, od, kvI D, rfl, Gd, fun Dn hD => ?_⟩
    refine dc_items (p := fun _ => true) (f := fun e => e.2 * first) Gd hD hnd (by omega) (fun e he Ha Tt A' Bc sa hT hA hB => ?_) (fun H5 s5 e5 => ?_)
    · have hbe := (hDb e he).2.2
      refine ⟨Tt, _, rfl, .inl (.inl hT), rfl, ?_⟩
      walk_at "rd"
      exact hB rfl _ (Same.refl _)
    rw [filter_true'] at e5
    refine ⟨s5 _ _ Gd, ?_⟩
    obtain ⟨hn0, hne⟩ := lock_none hd1 hD
    have s1 := unlock_same hd1 s5
    have e1 := (upd_ne (o := .dK (kvI D)) hne).trans e5
    generalize upd H5 d1 (.dK (kvI D)) = H1 at *
    have hd2' := s1 _ _ hd2
    have nd2 : Dn ≠ d2 := fun z => by rw [z, hd2] at hn0; cases hn0
    have hnd0 : NdI (D.map fun e => (e.1, e.2 * first)) := nd_map hnd fun e => e.2 * first
    have hb0 : ∀ e ∈ (D.map fun e : Int × Int => (e.1, e.2 * first)), e.2.natAbs ≤ 2 ^ 120 := fun e he => by
      obtain ⟨x, hx, rfl⟩ := List.mem_map.mp he
      show (x.2 * first).natAbs ≤ _
      rw [Int.natAbs_mul]
      have := Nat.mul_le_mul (Nat.le_of_lt (hDb x hx).2.2) (Nat.le_of_lt hf)
      rw [← Nat.pow_add] at this
      exact this
    have hl0 : (D.map fun e : Int × Int => (e.1, e.2 * first)).length ≤ 1000 := by rw [List.length_map]; exact hDl
    have hk : ∀ t, t = D.map (fun e : Int × Int => (e.1, e.2 * first)) → cancL D n F first = (let t' := F.foldl (cancS n) t; let c := gcdF t' 0; if 1 < c then t'.map fun e => (e.1, e.2 / (c : Int)) else t') := fun t ht => by subst ht; rfl
    obtain ⟨t0, ht0⟩ : ∃ t0, t0 = D.map fun e : Int × Int => (e.1, e.2 * first) := ⟨_, rfl⟩
    have hk := hk t0 ht0
    rw [← ht0] at e1 hnd0 hb0 hl0
    walk_at "rd"
    refine ⟨d2, .dK (kvI F), hd2', trivial, fun o2 => ?_⟩
    obtain ⟨G0, eG0⟩ : ∃ G0, G0 = upd H d2 (.frz o2 (.dK (kvI F))) := ⟨_, rfl⟩
    obtain ⟨G1, eG1⟩ : ∃ G1, G1 = upd H1 d2 (.frz o2 (.dK (kvI F))) := ⟨_, rfl⟩
    have G0d : G0 d2 = some (.frz o2 (.dK (kvI F))) := by rw [eG0]; exact upd_same
    have G0l : G0 Dn = none := by rw [eG0]; exact (upd_ne nd2).trans hn0
    have G1l : G1 Dn = some (.dK (kvI t0)) := by rw [eG1]; exact (upd_ne nd2).trans e1
    have s01 : Same G0 G1 := fun x o e => by
      rw [eG0] at e
      rw [eG1]
      by_cases h : x = d2
      · subst h; rw [upd_same] at e ⊢; exact e
      · rw [upd_ne h] at e ⊢
        exact s1 _ _ e
    rw [← eG1]
    walk_at "rd"
    refine ⟨d2, o2, kvI F, rfl, s01 _ _ G0d, ?_⟩
    refine for_it walk_items (fun i σ Hx => Same G0 Hx ∧ Hx Dn = some (.dK (kvI ((F.take i).foldl (cancS n) t0))) ∧ ∃ y5 y6, σ = [some (.ref d1), some (.int n), some (.ref d2), some (.int first), some (.ref Dn), y5, y6, none]) ⟨s01, G1l, none, none, rfl⟩ (fun i σ Hx _ z => z.1 _ _ G0d) (fun i x σ Hx Hx' hi z y => ?_) (fun σ Hx z => ?_)
    · obtain ⟨sx, hxl, y5, y6, rfl⟩ := z
      rw [kvI_len] at hi
      obtain ⟨Tt, kx, vx, rfl, q1, rfl, e1', e2'⟩ := y
      obtain ⟨rfl, rfl⟩ := kvI_at hi e1' e2'
      have s6 := same_upd (o := .tup [V.int F[i].1, V.int F[i].2]) q1
      have hbi := hFb _ (List.getElem_mem hi)
      refine ⟨Tt, _, rfl, .inl (.inl upd_same), rfl, ?_⟩
      generalize upd Hx Tt (.tup [V.int F[i].1, V.int F[i].2]) = Hy at *
      have hyl := s6 _ _ hxl
      have hndi := canc_nd (n := n) (F.take i) t0 hnd0
      have hlen := canc_len (n := n) (F.take i) t0
      rw [List.length_take] at hlen
      walk_at "rd"
      refine ⟨.inl ⟨_, .inl hyl⟩, ?_⟩
      walk_at "rd"
      refine ⟨_, DGet.k (k := Sum.inl F[i].1) hyl, ?_⟩
      rw [kvI_val]
      have eg : ((getD2 ((F.take i).foldl (cancS n) t0) F[i].1).map V.int).getD (V.int 0) = V.int ((getD2 ((F.take i).foldl (cancS n) t0) F[i].1).getD 0) := by
        cases getD2 ((F.take i).foldl (cancS n) t0) F[i].1 <;> rfl
      rw [eg]
      walk_at "rd"
      refine ⟨Dn, _, rfl, DPut.k (k := Sum.inl F[i].1) hyl (by rw [kvI_len]; omega), same_put G0l (Same.trans sx s6), ?_, _, _, rfl⟩
      rw [upd_same, kvI_put hndi, List.take_add_one, List.getElem?_eq_getElem hi, List.foldl_append]
      rfl
    · obtain ⟨sx, hxl, y5, y6, rfl⟩ := z
      rw [kvI_len, List.take_length] at hxl
      refine ⟨sx _ _ G0d, ?_⟩
      have sU : Same H (upd Hx d2 (.dK (kvI F))) := unlock_same hd2 (by rw [← eG0]; exact sx)
      have hUl : (upd Hx d2 (.dK (kvI F))) Dn = some (.dK (kvI (F.foldl (cancS n) t0))) := (upd_ne nd2).trans hxl
      generalize upd Hx d2 (.dK (kvI F)) = U at *
      have hndt := canc_nd (n := n) F t0 hnd0
      have hlt := canc_len (n := n) F t0
      have hbt := canc_bound (B := 2 ^ 120) hn F t0 (fun e he => (hFb e he).2.2) hb0
      have hgl := gcdF_le (F.foldl (cancS n) t0) 0 hbt
      have h130 : 2 ^ 120 + F.length * 2 ^ 120 < 2 ^ 131 := by
        have : F.length * 2 ^ 120 ≤ 1000 * 2 ^ 120 := Nat.mul_le_mul_right _ hFl
        exact Nat.lt_of_le_of_lt (Nat.add_le_add_left this _) (by decide +kernel)
      generalize F.foldl (cancS n) t0 = t at *
      walk_at "rd"
      refine ⟨Dn, t, 0, rfl, hUl, fun H6 s6 => ?_⟩
      have hg2 : gcdF t 0 < 2 ^ 131 := by omega
      have e6 := s6 _ _ hUl
      have sH6 := Same.trans sU s6
      dsimp only at hk
      walk_at "rd"
      refine iteD (fun hc => ?_) (fun hc => ?_)
      · rw [hk, if_pos (show 1 < gcdF t 0 by omega)] at k
        walk_at "rd"
        refine ⟨Dn, _, e6, trivial, fun ol => ?_⟩
        have Ud : (upd H6 Dn (.frz ol (.dK (kvI t)))) Dn = some (.frz ol (.dK (kvI t))) := upd_same
        walk_at "rd"
        refine ⟨Dn, ol, kvI t, rfl, Ud, fun Dr hDr => ?_⟩
        refine dc_items (p := fun _ => true) (f := fun e => e.2 / ((gcdF t 0 : Nat) : Int)) Ud hDr hndt (by omega) (fun e he Ha Tt A' Bc sa hT hA hB => ?_) (fun H7 s7 e7 => ?_)
        · refine ⟨Tt, _, rfl, .inl (.inl hT), rfl, ?_⟩
          walk_at "rd"
          refine ⟨cdivZ (b := 131) (by omega) (by rw [Int.natAbs_natCast]; exact hg2) (by decide) (by decide), ?_⟩
          have := hB rfl Ha (Same.refl _)
          show Bc (.int e.1) (.int (Int.fdiv e.2 ((gcdF t 0 : Nat) : Int))) Ha
          rw [Int.fdiv_eq_ediv_of_nonneg _ (Int.natCast_nonneg _)]
          exact this
        · rw [filter_true'] at e7
          refine ⟨s7 _ _ Ud, ?_⟩
          obtain ⟨hr0, hrn⟩ := lock_none e6 hDr
          refine k Dr _ ?_ ((upd_ne hrn).trans e7) (nd_map hndt fun e => e.2 / ((gcdF t 0 : Nat) : Int)) (Same.trans sH6 (unlock_same e6 s7))
          cases c : H Dr with
          | none => rfl
          | some o => rw [sH6 _ _ c] at hr0; cases hr0
      · rw [hk, if_neg (show ¬ 1 < gcdF t 0 by omega)] at k
        walk_at "rd"
        exact k Dn _ hn0 e6 hndt sH6
end

/-! ### echelons -/
def EchM (C : Addr) (H : Hp) (a : Addr) (f : Int) (dr : Addr) : Prop := ∃ dx fs, H a = some (.ins C dx fs) ∧ fs.lookup ("field" : Str) = some (.int f) ∧ fs.lookup ("rows" : Str) = some (.ref dr) ∧ ∀ x : Str, x ≠ "field" → x ≠ "rows" → fs.lookup x = none
theorem EchM.same {C : Addr} {H H' : Hp} {a : Addr} {f : Int} {dr : Addr} (h : EchM C H a f dr) (s : Same H H') : EchM C H' a f dr := by
  obtain ⟨dx, fs, h1, h2, h3⟩ := h
  exact ⟨dx, fs, s _ _ h1, h2, h3⟩
theorem EchM.but {C : Addr} {H : Hp} {a : Addr} {f : Int} {dr d : Addr} {o : HO} (h : EchM C H a f dr) (n : a ≠ d) : EchM C (upd H d o) a f dr := by
  obtain ⟨dx, fs, h1, h2, h3⟩ := h
  exact ⟨dx, fs, (upd_ne n).trans h1, h2, h3⟩
theorem EchM.ne {C : Addr} {H : Hp} {a : Addr} {f : Int} {dr d : Addr} {kvs : List (L2.Key × V)} (h : EchM C H a f dr) (e : H d = some (.dK kvs)) : a ≠ d := by
  obtain ⟨dx, fs, h1, _⟩ := h
  intro z
  rw [z, e] at h1
  cases h1
theorem bitsL_sum (D : IT2) : bitsL D = (D.map fun e : Int × Int => e.2 * ((2 ^ (32 * (slotL e.1).toNat) : Nat) : Int)).sum := by
  unfold bitsL
  rw [foldl_add]; omega
theorem bitsL_bound {B : Nat} : ∀ {D : IT2}, (∀ e ∈ D, 0 ≤ e.2 ∧ e.2 * ((2 ^ (32 * (slotL e.1).toNat) : Nat) : Int) ≤ (B : Int)) → 0 ≤ bitsL D ∧ bitsL D ≤ (D.length : Int) * (B : Int) := by
  intro D h
  rw [bitsL_sum]
  induction D with
  | nil => simp
  | cons e r ih =>
    have h1 := h e List.mem_cons_self
    have h2 := ih fun x hx => h x (List.mem_cons_of_mem _ hx)
    rw [List.map_cons, List.sum_cons, List.length_cons, Int.natCast_add, Int.add_mul]
    have h3 : 0 ≤ e.2 * ((2 ^ (32 * (slotL e.1).toNat) : Nat) : Int) := Int.mul_nonneg h1.1 (Int.natCast_nonneg _)
    omega
def BIGB : Nat := 2 ^ 70000
theorem BIGB_eq : BIGB = 2 ^ 70000 := rfl
theorem bits_small {D : IT2} (hl : D.length ≤ 1000) (h : ∀ e ∈ D, 0 ≤ e.1 ∧ e.1 ≤ 1000 ∧ 0 ≤ e.2 ∧ e.2 < 2 ^ 60) : 0 ≤ bitsL D ∧ (bitsL D).natAbs < BIGB := by
  have hb : ∀ e ∈ D, 0 ≤ e.2 ∧ e.2 * ((2 ^ (32 * (slotL e.1).toNat) : Nat) : Int) ≤ ((2 ^ 64060 : Nat) : Int) := fun e he => by
    obtain ⟨h1, h2, h3, h4⟩ := h e he
    refine ⟨h3, ?_⟩
    obtain ⟨m, hm⟩ := Int.eq_ofNat_of_zero_le h3
    rw [hm, ← Int.natCast_mul]
    refine Int.ofNat_le.mpr ?_
    have hs : (slotL e.1).toNat ≤ 2000 := by
      unfold slotL
      rw [if_pos h1]; omega
    have := Nat.mul_le_mul (show m ≤ 2 ^ 60 by omega) (Nat.pow_le_pow_right (show 0 < 2 by decide) (show 32 * (slotL e.1).toNat ≤ 64000 by omega))
    rw [← Nat.pow_add] at this
    exact this
  obtain ⟨h1, h2⟩ := bitsL_bound hb
  refine ⟨h1, ?_⟩
  obtain ⟨m, hm⟩ := Int.eq_ofNat_of_zero_le h1
  rw [hm] at h2 ⊢
  rw [← Int.natCast_mul] at h2
  have h3 : m ≤ D.length * 2 ^ 64060 := Int.ofNat_le.mp h2
  have h4 : D.length * 2 ^ 64060 ≤ 1024 * 2 ^ 64060 := Nat.mul_le_mul_right _ (by omega)
  have h5 : (1024 : Nat) * 2 ^ 64060 = 2 ^ 64070 := by
    rw [show (1024 : Nat) = 2 ^ 10 by decide, ← Nat.pow_add]
  have h6 : (2 : Nat) ^ 64070 < 2 ^ 70000 := Nat.pow_lt_pow_right (by decide) (by decide)
  show m < BIGB
  rw [BIGB_eq]
  exact Nat.lt_of_le_of_lt h3 (Nat.lt_of_le_of_lt h4 (by rw [h5]; exact h6))
/-- what a modular echelon holds -/
structure RowsP (rows : IT2) : Prop where
  nd : NdI rows
  len : rows.length ≤ 10000
  col : ∀ e ∈ rows, 0 ≤ e.1 ∧ e.1 ≤ 1000
  val : ∀ e ∈ rows, 0 ≤ e.2 ∧ e.2.natAbs < BIGB
theorem restStep_nn {p : Int} (hp : 2 ≤ p) {l : Int} {e : Int × Int} (h : 0 ≤ l) (he : 0 ≤ e.2) : 0 ≤ restStep p l e := by
  unfold restStep
  dsimp only
  split
  · exact h
  · have h1 := Int.emod_lt_of_pos (l / 2 ^ (32 * (slotL e.1).toNat) % 2 ^ 32) (show 0 < p by omega)
    exact Int.add_nonneg h (Int.mul_nonneg (by omega) he)
theorem rest_nn {p : Int} (hp : 2 ≤ p) : ∀ (rows : IT2) (l : Int), 0 ≤ l → (∀ e ∈ rows, 0 ≤ e.2) → 0 ≤ rows.foldl (restStep p) l
  | [], _, h, _ => h
  | e :: r, l, h, hr => rest_nn hp r _ (restStep_nn hp h (hr e List.mem_cons_self)) fun x hx => hr x (List.mem_cons_of_mem _ hx)
theorem setP_mem {p : Int} (hp : 2 ≤ p) {D : IT2} {e : Int × Int} (h : e ∈ setP p D) : (∃ v, (e.1, v) ∈ D) ∧ 0 ≤ e.2 ∧ e.2 < p := by
  unfold setP at h
  obtain ⟨x, hx, rfl⟩ := List.mem_map.mp h
  exact ⟨⟨x.2, (List.mem_filter.mp hx).1⟩, Int.emod_nonneg _ (by omega), Int.emod_lt_of_pos _ (by omega)⟩
theorem setP_len {p : Int} (D : IT2) : (setP p D).length ≤ D.length := by
  unfold setP
  rw [List.length_map]
  exact List.length_filter_le _ _
theorem minL_spec : ∀ {l : List Int} {m : Int}, m ∈ l → (∀ y ∈ l, m ≤ y) → minL l = some m
  | [], _, h, _ => by cases h
  | a :: r, m, h, hl => by
    have key : ∀ (r : List Int) (a : Int), (r.foldl (fun m x => if x < m then x else m) a) ∈ a :: r ∧ ∀ y ∈ a :: r, (r.foldl (fun m x => if x < m then x else m) a) ≤ y := by
      intro r
      induction r with
      | nil => intro a; exact ⟨List.mem_cons_self, fun y hy => by rw [List.mem_singleton] at hy; rw [hy]; exact Int.le_refl _⟩
      | cons x r ih =>
        intro a
        rw [List.foldl_cons]
        have h1 := ih (if x < a then x else a)
        refine ⟨?_, fun y hy => ?_⟩
        · rcases List.mem_cons.mp h1.1 with z | z
          · rw [z]
            by_cases c : x < a
            · rw [if_pos c]; simp
            · rw [if_neg c]; simp
          · exact List.mem_cons_of_mem _ (List.mem_cons_of_mem _ z)
        · have h2 := h1.2 _ List.mem_cons_self
          rcases List.mem_cons.mp hy with rfl | hy
          · refine Int.le_trans h2 ?_
            split <;> omega
          · rcases List.mem_cons.mp hy with rfl | hy
            · refine Int.le_trans h2 ?_
              split <;> omega
            · exact h1.2 y (List.mem_cons_of_mem _ hy)
    obtain ⟨k1, k2⟩ := key r a
    show some _ = some m
    congr 1
    have h1 := k2 m h
    have h2 := hl _ k1
    omega
section
variable {P : Program} {w : World} {K : PySem.W.Frag} {mg : Str → Option Value} {base : Heap}
def sp_Echelon_init (C : Addr) : Sp := fun vs H Q _ => ∃ (a dx : Addr) (f : Int), vs = [.ref a, .int f] ∧ H a = some (.ins C dx []) ∧
  ∀ H' dr, EchM C H' a f dr → H' dr = some (.dK []) → H dr = none → (∀ b o, b ≠ a → H b = some o → H' b = some o) → Q .non H'
theorem ok_Echelon___init__ (T : Txt K mg) : FnOk P w K mg base CX0 2 T.Echelon.fi T.Echelon.fdi P_Echelon___init__ (sp_Echelon_init T.Echelon.C) := by
  refine T.Echelon.Fi.ok sc_Echelon___init__ (fun vs H Q E h => ?_) (fun cdv A outer s H vs Q E hr h => ?_)
  · obtain ⟨a, dx, f, rfl, _⟩ := h; rfl
  · obtain ⟨a, dx, f, rfl, ha, k⟩ := h
    refine ⟨_, (pss_cons (ps_fld (pv 0) (pv 1) rfl)
  (pss_one (ps_fld (pv 0) pe_dnewK rfl))), ?_⟩
    walk_at "rd"
    refine ⟨_, _, _, _, rfl, ha, T.Echelon.cls, T.Echelon.n_field, (by decide), ?_⟩
    walk_at "rd"
    intro dr hdr
    have nr : dr ≠ a := fun z => by rw [z, upd_same] at hdr; cases hdr
    have l1 := length_putF ("field" : Str) (V.int f) []
    simp only [List.length_nil] at l1
    walk_at "rd"
    refine ⟨_, _, _, _, rfl, (upd_ne nr.symm).trans upd_same, T.Echelon.cls, T.Echelon.n_rows, (by omega), ?_⟩
    refine k _ dr ⟨_, _, upd_same, ?_, ?_, fun x h1 h2 => ?_⟩ ((upd_ne nr).trans upd_same) ?_ fun b o nb e => ?_
    · rw [lookup_putF, if_neg (by decide), lookup_putF, if_pos rfl]
    · rw [lookup_putF, if_pos rfl]
    · rw [lookup_putF, if_neg h2, lookup_putF, if_neg h1]; rfl
    · rw [upd_ne nr] at hdr; exact hdr
    · have nb2 : b ≠ dr := fun z => by rw [upd_ne nr, ← z, e] at hdr; cases hdr
      rw [upd_ne nb, upd_ne nb2, upd_ne nb]
      exact e
def sp_rest_modulo (C : Addr) : Sp := fun vs H Q _ => ∃ (a dr d : Addr) (p : Int) (rows row left : IT2), vs = [.ref a, .ref d] ∧ EchM C H a p dr ∧ H dr = some (.dK (kvI rows)) ∧ H d = some (.dK (kvI row)) ∧ 2 ≤ p ∧ p ≤ 31 ∧ RowsP rows ∧ NdI row ∧ okD row = true ∧ restPO p rows row = some left ∧
  ∀ d' H', H d' = none → H' d' = some (.dK (kvI left)) → NdI left → Same H H' → Q (.ref d') H'
theorem ok_Echelon_rest_modulo (T : Txt K mg) : FnOk P w K mg base CX0 3 T.Echelon.fm T.Echelon.fdm P_Echelon_rest_modulo (sp_rest_modulo T.Echelon.C) := by
  refine T.Echelon.Fm.ok sc_Echelon_rest_modulo (fun vs H Q E h => ?_) (fun cdv A outer s H vs Q E hr h => ?_)
  · obtain ⟨a, dr, d, p, rows, row, left, rfl, _⟩ := h; rfl
  · obtain ⟨a, dr, d, p, rows, row, left, rfl, hM, hdr, hd, hp2, hp31, hR, hnd, hok, hrest, k⟩ := h
    have hbig : 100000 < sizeLine := by decide
    obtain ⟨hrl, hrb⟩ := okD_iff.mp hok
    have hpos : p ≠ 0 := by omega
    have hfr : setF p row = setP p row := by unfold setF; rw [if_neg hpos]
    have hsl := setP_len (p := p) row
    have hsb : ∀ e ∈ setP p row, 0 ≤ e.1 ∧ e.1 ≤ 1000 ∧ 0 ≤ e.2 ∧ e.2 < 2 ^ 60 := fun e he => by
      obtain ⟨⟨v, hv⟩, h1, h2⟩ := setP_mem hp2 he
      have := hrb _ hv
      refine ⟨this.1, this.2.1, h1, by omega⟩
    have hb0 := bits_small (D := setP p row) (by omega) hsb
    obtain ⟨dx, fs, m1, m2, m3⟩ := id hM
    refine ⟨_, (pss_cons (ps_set (i := 2) sc_Echelon_rest_modulo.nd rfl (Or.inl rfl) (pe_call (ok_bits_of T) (hr.mono (by decide)) rfl T.bits_of.g T.bits_of.F.kp (b_bits_of T) .nil pass0 (pa_cons (pe_call (ok_settled T) (hr.mono (by decide)) rfl T.settled.g T.settled.F.kp (b_settled T) .nil pass0 (pa_cons (pe_fld (pv 0) rfl) (pa_cons (pv 1) pa_nil))) pa_nil)))
  (pss_cons (ps_lock (ps_for PassesOwn.never rfl (pi_items (pe_fld (pv 0) rfl)) (pg_tup rfl (pgs_cons (pg_name (i := 3) sc_Echelon_rest_modulo.nd rfl (Or.inl rfl)) (pgs_cons (pg_name (i := 4) sc_Echelon_rest_modulo.nd rfl (Or.inl rfl)) pgs_nil))) (pss_cons (ps_set (i := 5) sc_Echelon_rest_modulo.nd rfl (Or.inl rfl) (pe_op op_mod (pe_op op_andM (pe_op op_shrN (pv 2) (pe_op op_mulW (pe_glob rfl T.g_WIDTH (v := .int 32) ⟨_, rfl⟩) (pe_call (ok_slot_of T) (hr.mono (by decide)) rfl T.slot_of.g T.slot_of.F.kp (b_slot_of T) .nil pass0 (pa_cons (pv 3) pa_nil)))) (pe_glob rfl T.g_MASK (v := .int MK32) ⟨_, rfl⟩)) (pe_fld (pv 0) rfl)))
  (pss_one (ps_if (pt_truth (pv 5) (by intro _; rfl)) (pss_one (ps_aug (i := 2) sc_Echelon_rest_modulo.nd rfl (Or.inl rfl) (pe_op op_mulW (pe_op op_sub (pe_fld (pv 0) rfl) (pv 5)) (pv 4)) ip_add)) pss_nil)))))
  (pss_one (ps_ret (pe_call (ok_settled T) (hr.mono (by decide)) rfl T.settled.g T.settled.F.kp (b_settled T) .nil pass0 (pa_cons (pe_fld (pv 0) rfl) (pa_cons (pe_call (ok_row_of_bits T) (hr.mono (by decide)) rfl T.row_of_bits.g T.row_of_bits.F.kp (b_row_of_bits T) .nil pass0 (pa_cons (pv 2) pa_nil)) pa_nil))))))), ?_⟩
    walk_at "rd"
    refine ⟨_, _, _, _, _, rfl, m1, T.Echelon.cls, T.Echelon.n_field, m2, ?_⟩
    walk_at "rd"
    refine ⟨p, d, row, rfl, .inr hp2, hd, hnd, by omega, fun d1 H1 e1 hn1 s1 => ?_⟩
    rw [hfr] at e1
    walk_at "rd"
    refine ⟨d1, setP p row, rfl, e1, fun e he => ?_, by omega, fun H2 s2 => ?_⟩
    · have := hsb e he
      exact ⟨this.1, this.2.1, by omega⟩
    have s02 := Same.trans s1 s2
    have hM2 := hM.same s02
    have hdr2 := s02 _ _ hdr
    walk_at "rd"
    refine ⟨dr, _, hdr2, trivial, fun od => ?_⟩
    have nar := hM2.ne hdr2
    obtain ⟨G0, eG0⟩ : ∃ G0, G0 = upd H2 dr (.frz od (.dK (kvI rows))) := ⟨_, rfl⟩
    have G0d : G0 dr = some (.frz od (.dK (kvI rows))) := by rw [eG0]; exact upd_same
    have M0 : EchM T.Echelon.C G0 a p dr := by rw [eG0]; exact hM2.but nar
    rw [← eG0]
    walk_at "rd"
    obtain ⟨dx0, fs0, n1, n2, n3, _⟩ := id M0
    refine ⟨_, _, _, _, _, rfl, n1, T.Echelon.cls, T.Echelon.n_rows, n3, ?_⟩
    refine ⟨dr, od, kvI rows, rfl, G0d, ?_⟩
    refine for_it walk_items (fun i σ Hx => Same G0 Hx ∧ 0 ≤ (rows.take i).foldl (restStep p) (bitsL (setP p row)) ∧ ∃ y3 y4 y5, σ = [some (.ref a), some (.ref d), some (.int ((rows.take i).foldl (restStep p) (bitsL (setP p row)))), y3, y4, y5]) ⟨Same.refl _, by rw [List.take_zero]; exact hb0.1, none, none, none, rfl⟩ (fun i σ Hx _ z => z.1 _ _ G0d) (fun i x σ Hx Hx' hi z y => ?_) (fun σ Hx z => ?_)
    · obtain ⟨sx, hnn, y3, y4, y5, rfl⟩ := z
      rw [kvI_len] at hi
      obtain ⟨Tt, kx, vx, rfl, q1, rfl, e1', e2'⟩ := y
      obtain ⟨rfl, rfl⟩ := kvI_at hi e1' e2'
      have s6 := same_upd (o := .tup [V.int rows[i].1, V.int rows[i].2]) q1
      have hci := hR.col _ (List.getElem_mem hi)
      have hvi := hR.val _ (List.getElem_mem hi)
      have et : (rows.take (i + 1)).foldl (restStep p) (bitsL (setP p row)) = restStep p ((rows.take i).foldl (restStep p) (bitsL (setP p row))) rows[i] := by
        rw [List.take_add_one, List.getElem?_eq_getElem hi, List.foldl_append]; rfl
      refine ⟨Tt, _, rfl, .inl (.inl upd_same), rfl, ?_⟩
      generalize upd Hx Tt (.tup [V.int rows[i].1, V.int rows[i].2]) = Hy at *
      have sy := Same.trans sx s6
      obtain ⟨dx1, fs1, n1', n2', n3'⟩ := M0.same sy
      have hs0 := slotL_nn rows[i].1
      have hs1 : slotL rows[i].1 ≤ 2000 := by unfold slotL; rw [if_pos hci.1]; omega
      rw [et]
      have hst := restStep_nn hp2 (e := rows[i]) hnn hvi.1
      generalize rows[i] = e at *
      generalize (rows.take i).foldl (restStep p) (bitsL (setP p row)) = l at *
      walk_at "rd"
      refine ⟨by omega, ?_⟩
      walk_at "rd"
      refine ⟨_, 32 * (slotL e.1).toNat, rfl, congrArg V.int (by omega), ?_⟩
      walk_at "rd"
      refine ⟨_, _, _, _, _, rfl, n1', T.Echelon.cls, T.Echelon.n_field, n2', ?_⟩
      have hm0 := Int.emod_nonneg (l / 2 ^ (32 * (slotL e.1).toNat) % 2 ^ 32) (show p ≠ 0 by omega)
      have hm1 := Int.emod_lt_of_pos (l / 2 ^ (32 * (slotL e.1).toNat) % 2 ^ 32) (show 0 < p by omega)
      walk_at "rd"
      unfold restStep at hst ⊢
      dsimp only at hst ⊢
      generalize l / 2 ^ (32 * (slotL e.1).toNat) % 2 ^ 32 % p = n at *
      refine iteN0 (fun h0 => ?_) (fun h0 => ?_)
      · rw [if_neg h0] at hst ⊢
        walk_at "rd"
        refine ⟨_, _, _, _, _, rfl, n1', T.Echelon.cls, T.Echelon.n_field, n2', ?_⟩
        walk_at "rd"
        refine ⟨wide_mul (a := 64) (b := 70000) (by omega) hvi.2 (by decide) (by decide) (by decide), ?_⟩
        walk_at "rd"
        exact ⟨sy, hst, _, _, _, rfl⟩
      · rw [if_pos h0] at hst ⊢
        exact ⟨sy, hst, _, _, _, rfl⟩
    · obtain ⟨sx, hnn, y3, y4, y5, rfl⟩ := z
      rw [kvI_len, List.take_length] at hnn ⊢
      refine ⟨sx _ _ G0d, ?_⟩
      have sU : Same H2 (upd Hx dr (.dK (kvI rows))) := unlock_same hdr2 (by rw [← eG0]; exact sx)
      have hMU := hM2.same sU
      generalize upd Hx dr (.dK (kvI rows)) = U at *
      unfold restPO at hrest
      dsimp only at hrest
      generalize rows.foldl (restStep p) (bitsL (setP p row)) = L at *
      by_cases hL : L.toNat < 2 ^ 8192
      · rw [if_pos hL] at hrest
        have eleft := Option.some.inj hrest
        obtain ⟨dx2, fs2, k1, k2, k3⟩ := id hMU
        walk_at "rd"
        refine ⟨_, _, _, _, _, rfl, k1, T.Echelon.cls, T.Echelon.n_field, k2, ?_⟩
        walk_at "rd"
        refine ⟨L.toNat, congrArg (fun z => [V.int z]) (Int.toNat_of_nonneg hnn).symm, hL, fun d3 H3 hn3 e3 nd3 s3 => ?_⟩
        have hl3 : (rowGo 8 L.toNat 0).length ≤ 256 := by
          have key : ∀ f l a, (rowGo f l a).length ≤ 32 * f := by
            intro f
            induction f with
            | zero => intro l a; exact Nat.le_refl _
            | succ f ih =>
              intro l a
              by_cases hz : l = 0
              · rw [hz, rowGo_zero]; simp
              · rw [rowGo_succ hz, List.length_append]
                have h1 := ih (l >>> 1024) (a + 32)
                have h2 : (lotRow l a).length = 32 := by unfold lotRow; rw [List.length_map, List.length_range]
                omega
          exact key 8 _ _
        walk_at "rd"
        refine ⟨p, d3, rowGo 8 L.toNat 0, rfl, .inr hp2, e3, nd3, by omega, fun d4 H4 e4 hn4 s4 => ?_⟩
        have ef : setF p (rowGo 8 L.toNat 0) = left := by unfold setF; rw [if_neg hpos]; exact eleft
        rw [ef] at e4
        have sT := Same.trans s02 (Same.trans sU s3)
        walk_at "rd"
        refine k d4 H4 ?_ e4 ?_ (Same.trans sT s4)
        · cases c : H d4 with
          | none => rfl
          | some o => rw [sT _ _ c] at hn4; cases hn4
        · rw [← eleft]
          unfold setP
          exact nd_map (nd_filter nd3 _) fun e => e.2 % p
      · rw [if_neg hL] at hrest
        cases hrest
end

/-! ### echelons over the fractions -/
def kvR (ps : List (Int × Addr)) : List (L2.Key × V) := ps.map fun p => (Sum.inl p.1, V.ref p.2)
theorem kvR_len (ps : List (Int × Addr)) : (kvR ps).length = ps.length := List.length_map ..
structure RowsZ (H : Hp) (ps : List (Int × Addr)) (rows : RT2) : Prop where
  keys : ps.map (·.1) = rows.map (·.1)
  at_ : ∀ (i : Nat) p e, ps[i]? = some p → rows[i]? = some e → H p.2 = some (.dK (kvI e.2))
theorem RowsZ.len {H : Hp} {ps : List (Int × Addr)} {rows : RT2} (h : RowsZ H ps rows) : ps.length = rows.length := by
  have := congrArg List.length h.keys
  rwa [List.length_map, List.length_map] at this
theorem RowsZ.key {H : Hp} {ps : List (Int × Addr)} {rows : RT2} (h : RowsZ H ps rows) {i : Nat} {p : Int × Addr} {e : Int × IT2} (hp : ps[i]? = some p) (he : rows[i]? = some e) : p.1 = e.1 := by
  have := congrArg (fun l => l[i]?) h.keys
  rw [List.getElem?_map, List.getElem?_map, hp, he] at this
  exact Option.some.inj this
theorem RowsZ.ne {H : Hp} {ps : List (Int × Addr)} {rows : RT2} {dr : Addr} (h : RowsZ H ps rows) (hd : H dr = some (.dK (kvR ps))) {i : Nat} {p : Int × Addr} {e : Int × IT2} (hp : ps[i]? = some p) (he : rows[i]? = some e) : p.2 ≠ dr := fun z => by
  have h1 := h.at_ i p e hp he
  rw [z, hd] at h1
  have h2 : kvR ps = kvI e.2 := HO.dK.inj (Option.some.inj h1)
  have h3 : (kvR ps)[i]? = some (Sum.inl p.1, V.ref p.2) := by unfold kvR; rw [List.getElem?_map, hp]; rfl
  rw [h2] at h3
  unfold kvI at h3
  rw [List.getElem?_map] at h3
  obtain ⟨y, _, hy⟩ := Option.map_eq_some_iff.mp h3
  cases (congrArg Prod.snd hy)
theorem foldlM_take {α β : Type} {f : β → α → Option β} : ∀ {l : List α} {a r : β}, l.foldlM f a = some r → ∀ i, ∃ m, (l.take i).foldlM f a = some m ∧ (l.drop i).foldlM f m = some r
  | [], a, r, h, i => ⟨a, by rw [List.take_nil]; rfl, by rw [List.drop_nil]; exact h⟩
  | x :: l, a, r, h, 0 => ⟨a, rfl, h⟩
  | x :: l, a, r, h, i + 1 => by
    rw [List.foldlM_cons] at h
    cases c : f a x with
    | none => rw [c] at h; cases h
    | some b =>
      rw [c] at h
      obtain ⟨m, h1, h2⟩ := foldlM_take (l := l) (a := b) h i
      refine ⟨m, ?_, h2⟩
      rw [List.take_succ_cons, List.foldlM_cons, c]
      exact h1
theorem foldlM_at {α β : Type} {f : β → α → Option β} {l : List α} {a r : β} (h : l.foldlM f a = some r) {i : Nat} {x : α} (hx : l[i]? = some x) {m : β} (hm : (l.take i).foldlM f a = some m) : ∃ m', f m x = some m' ∧ (l.take (i + 1)).foldlM f a = some m' := by
  have et : l.take (i + 1) = l.take i ++ [x] := by rw [List.take_add_one, hx]; rfl
  obtain ⟨m', h1, _⟩ := foldlM_take h (i + 1)
  rw [et, List.foldlM_append, hm] at h1
  have h2 : ([x] : List α).foldlM f m = some m' := h1
  rw [List.foldlM_cons] at h2
  cases c : f m x with
  | none => rw [c] at h2; cases h2
  | some b =>
    rw [c] at h2
    have e : b = m' := by simpa using h2
    subst e
    refine ⟨b, rfl, ?_⟩
    rw [et, List.foldlM_append, hm]
    show ([x] : List α).foldlM f m = some b
    rw [List.foldlM_cons, c]
    rfl
theorem okD_filter {D : IT2} {p : Int × Int → Bool} (h : okD D = true) : okD (D.filter p) = true := by
  obtain ⟨h1, h2⟩ := okD_iff.mp h
  exact okD_iff.mpr ⟨Nat.le_trans (List.length_filter_le _ _) h1, fun e he => h2 e (List.mem_filter.mp he).1⟩
theorem restZS_ok {l l' : IT2} {e : Int × IT2} (h : okD l = true) (hs : restZS l e = some l') : okD l' = true := by
  unfold restZS at hs
  split at hs
  · cases hs; exact h
  · split at hs
    · cases hs
    · dsimp only at hs
      split at hs
      · rename_i c
        cases hs; exact c
      · cases hs
theorem restZO_ok {rows : RT2} {row left : IT2} (h : okD row = true) (hr : restZO rows row = some left) : okD left = true := by
  unfold restZO at hr
  obtain ⟨m, hm, rfl⟩ := Option.map_eq_some_iff.mp hr
  refine okD_filter ?_
  have key : ∀ (rows : RT2) (l m : IT2), okD l = true → rows.foldlM restZS l = some m → okD m = true := by
    intro rows
    induction rows with
    | nil => intro l m h hm; cases hm; exact h
    | cons e r ih =>
      intro l m h hm
      rw [List.foldlM_cons] at hm
      cases c : restZS l e with
      | none => rw [c] at hm; cases hm
      | some b => rw [c] at hm; exact ih b m (restZS_ok h c) hm
  exact key rows _ _ (okD_filter h) hm
section
variable {P : Program} {w : World} {K : PySem.W.Frag} {mg : Str → Option Value} {base : Heap}
def sp_rest (C : Addr) : Sp := fun vs H Q _ => ∃ (a dr d : Addr) (ps : List (Int × Addr)) (rows : RT2) (row left : IT2), vs = [.ref a, .ref d] ∧ EchM C H a 0 dr ∧ H dr = some (.dK (kvR ps)) ∧ RowsZ H ps rows ∧ (∀ e ∈ rows, okD e.2 = true) ∧ H d = some (.dK (kvI row)) ∧ NdI row ∧ okD row = true ∧ restZO rows row = some left ∧
  ∀ d' H', H d' = none → H' d' = some (.dK (kvI left)) → NdI left → Same H H' → Q (.ref d') H'
theorem ok_Echelon_rest (T : Txt K mg) : FnOk P w K mg base CX0 3 T.Echelon.fr T.Echelon.fdr P_Echelon_rest (sp_rest T.Echelon.C) := by
  refine T.Echelon.Fr.ok sc_Echelon_rest (fun vs H Q E h => ?_) (fun cdv A outer s H vs Q E hr h => ?_)
  · obtain ⟨a, dr, d, ps, rows, row, left, rfl, _⟩ := h; rfl
  · obtain ⟨a, dr, d, ps, rows, row, left, rfl, hM, hdr, hZ, hokr, hd, hnd, hok, hrest, k⟩ := h
    have hbig : 100000 < sizeLine := by decide
    obtain ⟨hrl, hrb⟩ := okD_iff.mp hok
    unfold restZO at hrest
    obtain ⟨fin, hfin, rfl⟩ := Option.map_eq_some_iff.mp hrest
    refine ⟨_, (pss_cons (ps_set (i := 2) sc_Echelon_rest.nd rfl (Or.inl rfl) (pe_call (ok_settled T) (hr.mono (by decide)) rfl T.settled.g T.settled.F.kp (b_settled T) .nil pass0 (pa_cons pe_int (pa_cons (pv 1) pa_nil))))
  (pss_cons (ps_lock (ps_for PassesOwn.never rfl (pi_items (pe_fld (pv 0) rfl)) (pg_tup rfl (pgs_cons (pg_name (i := 3) sc_Echelon_rest.nd rfl (Or.inl rfl)) (pgs_cons (pg_name (i := 4) sc_Echelon_rest.nd rfl (Or.inl rfl)) pgs_nil))) (pss_one (ps_if (pt_truth (pe_dget2 (Nat.lt_of_le_of_lt (Nat.add_le_add_left (show 1 ≤ 64 by decide) _) hr.units) (pv 2) (pv 3) pe_int ⟨rfl, rfl, rfl, rfl⟩) (by intro _; rfl)) (pss_one (ps_set (i := 2) sc_Echelon_rest.nd rfl (Or.inl rfl) (pe_call (ok_cancelled T) (hr.mono (by decide)) rfl T.cancelled.g T.cancelled.F.kp (b_cancelled T) .nil pass0 (pa_cons (pv 2) (pa_cons (pe_dget (Nat.lt_of_le_of_lt (Nat.add_le_add_left (show 1 ≤ 64 by decide) _) hr.units) (pv 2) (pv 3) (fun _ _ => rfl)) (pa_cons (pv 4) (pa_cons (pe_dget (Nat.lt_of_le_of_lt (Nat.add_le_add_left (show 1 ≤ 64 by decide) _) hr.units) (pv 4) (pv 3) (fun _ _ => rfl)) pa_nil))))))) pss_nil))))
  (pss_one (ps_ret (pe_call (ok_settled T) (hr.mono (by decide)) rfl T.settled.g T.settled.F.kp (b_settled T) .nil pass0 (pa_cons pe_int (pa_cons (pv 2) pa_nil))))))), ?_⟩
    walk_at "rd"
    refine ⟨0, d, row, rfl, .inl rfl, hd, hnd, by omega, fun d1 H1 e1 hn1 s1 => ?_⟩
    have e1 : H1 d1 = some (.dK (kvI (setZ row))) := e1
    have hM1 := hM.same s1
    have hdr1 := s1 _ _ hdr
    walk_at "rd"
    refine ⟨dr, _, hdr1, trivial, fun od => ?_⟩
    have nar : a ≠ dr := hM1.ne hdr1
    obtain ⟨G0, eG0⟩ : ∃ G0, G0 = upd H1 dr (.frz od (.dK (kvR ps))) := ⟨_, rfl⟩
    have G0d : G0 dr = some (.frz od (.dK (kvR ps))) := by rw [eG0]; exact upd_same
    have M0 : EchM T.Echelon.C G0 a 0 dr := by rw [eG0]; exact hM1.but nar
    have n1r : d1 ≠ dr := fun z => by rw [z, hdr] at hn1; cases hn1
    have G01 : G0 d1 = some (.dK (kvI (setZ row))) := by rw [eG0]; exact (upd_ne n1r).trans e1
    have hZ0 : ∀ (i : Nat) p e, ps[i]? = some p → rows[i]? = some e → G0 p.2 = some (.dK (kvI e.2)) := fun i p e hp he => by
      rw [eG0, upd_ne (hZ.ne hdr hp he)]
      exact s1 _ _ (hZ.at_ i p e hp he)
    have hlen := hZ.len
    rw [← eG0]
    walk_at "rd"
    obtain ⟨dx0, fs0, n1, n2, n3, _⟩ := id M0
    refine ⟨_, _, _, _, _, rfl, n1, T.Echelon.cls, T.Echelon.n_rows, n3, ?_⟩
    refine ⟨dr, od, kvR ps, rfl, G0d, ?_⟩
    refine for_it walk_items (fun i σ Hx => ∃ (l : IT2) (dl : Addr) (y3 y4 : Option V), Same G0 Hx ∧ (rows.take i).foldlM restZS (setZ row) = some l ∧ NdI l ∧ okD l = true ∧ Hx dl = some (.dK (kvI l)) ∧ H dl = none ∧ dl ≠ dr ∧ σ = [some (.ref a), some (.ref d), some (.ref dl), y3, y4])
      ⟨setZ row, d1, none, none, Same.refl _, rfl, nd_filter hnd _, okD_filter hok, G01, hn1, n1r, rfl⟩ (fun i σ Hx _ z => ?_) (fun i x σ Hx Hx' hi z y => ?_) (fun σ Hx z => ?_)
    · obtain ⟨_, _, _, _, z, _⟩ := z
      exact z _ _ G0d
    · obtain ⟨l, dl, y3, y4, sx, hfl, hndl, hokl, hdl, hnl, nlr, rfl⟩ := z
      rw [kvR_len] at hi
      obtain ⟨Tt, kx, vx, rfl, q1, rfl, e1', e2'⟩ := y
      have hpi : ps[i]? = some ps[i] := List.getElem?_eq_getElem hi
      have hri : rows[i]? = some (rows[i]'(by omega)) := List.getElem?_eq_getElem (by omega)
      have ek : (kvR ps)[i]? = some (Sum.inl ps[i].1, V.ref ps[i].2) := by unfold kvR; rw [List.getElem?_map, hpi]; rfl
      have e1' : ((kvR ps)[i]?).map (fun kv => kV kv.1) = some kx := e1'
      have e2' : ((kvR ps)[i]?).map Prod.snd = some vx := e2'
      rw [ek] at e1' e2'
      obtain rfl : kx = V.int ps[i].1 := (Option.some.inj e1').symm
      obtain rfl : vx = V.ref ps[i].2 := (Option.some.inj e2').symm
      have hkey := hZ.key hpi hri
      have hz0 := hZ0 i _ _ hpi hri
      have hoke := hokr _ (List.mem_of_getElem? hri)
      obtain ⟨l', hst, hfl'⟩ := foldlM_at hfin hri hfl
      generalize rows[i]'(by omega) = e at *
      generalize ps[i] = p at *
      obtain ⟨c, pa⟩ := p
      have hkey : c = e.1 := hkey
      subst hkey
      have s6 := same_upd (o := .tup [V.int e.1, V.ref pa]) q1
      refine ⟨Tt, _, rfl, .inl (.inl upd_same), rfl, ?_⟩
      generalize upd Hx Tt (.tup [V.int e.1, V.ref pa]) = Hy at *
      have sy := Same.trans sx s6
      have hyl := s6 _ _ hdl
      have hyp := sy _ _ hz0
      have eg : ((getD2 l e.1).map V.int).getD (V.int 0) = V.int ((getD2 l e.1).getD 0) := by cases getD2 l e.1 <;> rfl
      walk_at "rd"
      refine ⟨.inl ⟨_, .inl hyl⟩, ?_⟩
      walk_at "rd"
      refine ⟨_, DGet.k (k := Sum.inl e.1) hyl, ?_⟩
      rw [kvI_val, eg]
      walk_at "rd"
      unfold restZS at hst
      refine iteN0 (fun h0 => ?_) (fun h0 => ?_)
      · rw [if_neg h0] at hst
        cases cl : getD2 l e.1 with
        | none => exact absurd (by rw [cl]; rfl) h0
        | some n =>
          rw [cl] at hst
          cases ck : getD2 e.2 e.1 with
          | none => rw [ck] at hst; cases hst
          | some v =>
            rw [ck] at hst
            dsimp only at hst
            by_cases hr2 : okD (cancL l ((some n).getD 0) e.2 v) = true
            · rw [if_pos hr2] at hst
              have hl' := Option.some.inj hst
              walk_at "rd"
              refine ⟨dl, .int n, rfl, ?_, ?_⟩
              · have := DGet.k (k := Sum.inl e.1) hyl
                rw [kvI_val, cl] at this
                exact this
              walk_at "rd"
              refine ⟨pa, .int v, rfl, ?_, ?_⟩
              · have := DGet.k (k := Sum.inl e.1) hyp
                rw [kvI_val, ck] at this
                exact this
              walk_at "rd"
              refine ⟨dl, pa, l, e.2, n, v, rfl, hyl, hyp, hndl, hokl, hoke, ((okD_iff.mp hokl).2 _ (getD2_mem cl)).2.2, ((okD_iff.mp hoke).2 _ (getD2_mem ck)).2.2, fun d2 H2 hn2 e2 nd2 s2 => ?_⟩
              have eL : cancL l n e.2 v = l' := hl'
              rw [eL] at e2 nd2
              walk_at "rd"
              have sy2 := Same.trans sy s2
              refine ⟨l', d2, _, _, sy2, hfl', nd2, by rw [← eL]; exact hr2, e2, ?_, ?_, rfl⟩
              · cases c : H d2 with
                | none => rfl
                | some o =>
                  exfalso
                  by_cases c2 : d2 = dr
                  · rw [c2, sy _ _ G0d] at hn2; cases hn2
                  · have := sy d2 o (by rw [eG0, upd_ne c2]; exact s1 _ _ c)
                    rw [hn2] at this; cases this
              · intro z
                rw [z, sy _ _ G0d] at hn2
                cases hn2
            · rw [if_neg hr2] at hst
              cases hst
      · rw [if_pos h0] at hst
        have hl' := Option.some.inj hst
        subst hl'
        exact ⟨l, dl, _, _, sy, hfl', hndl, hokl, hyl, hnl, nlr, rfl⟩
    · obtain ⟨l, dl, y3, y4, sx, hfl, hndl, hokl, hdl, hnl, nlr, rfl⟩ := z
      rw [kvR_len, hlen, List.take_length, hfin] at hfl
      have el := Option.some.inj hfl
      subst el
      refine ⟨sx _ _ G0d, ?_⟩
      have sU : Same H1 (upd Hx dr (.dK (kvR ps))) := unlock_same hdr1 (by rw [← eG0]; exact sx)
      have eU := (upd_ne (o := .dK (kvR ps)) nlr).trans hdl
      generalize upd Hx dr (.dK (kvR ps)) = U at *
      walk_at "rd"
      refine ⟨0, dl, fin, rfl, .inl rfl, eU, hndl, by have := (okD_iff.mp hokl).1; omega, fun d4 H4 e4 hn4 s4 => ?_⟩
      have sT := Same.trans s1 sU
      walk_at "rd"
      refine k d4 H4 ?_ e4 (nd_filter hndl _) (Same.trans sT s4)
      cases c : H d4 with
      | none => rfl
      | some o => rw [sT _ _ c] at hn4; cases hn4
end

/-! ### put, rank -/
theorem pe_fldK {X : Cx} {K : PySem.W.Frag} {e : Expr} {f : Str} {pos : Pos} {ta : TE} (hK : X.K = K) (he : PE X e ta) (hb : attributeBase e f X.env (eval e X.env) = eval e X.env) : PE X (.Attribute e f pos) (tFld K ta f) := by
  subst hK
  exact pe_fld he hb
theorem invL_bound {n p : Int} (hp : 2 ≤ p) : 0 ≤ invL n p ∧ invL n p < p := by
  unfold invL
  have key : ∀ i : Nat, 0 ≤ (List.range i).foldl (fun a _ => a * n % p) 1 ∧ (List.range i).foldl (fun a _ => a * n % p) 1 < p := by
    intro i
    induction i with
    | zero => constructor <;> simp <;> omega
    | succ i ih =>
      rw [List.range_succ, List.foldl_append]
      exact ⟨Int.emod_nonneg _ (by omega), Int.emod_lt_of_pos _ (by omega)⟩
  exact key _
theorem minL_nil : minL [] = none := rfl
theorem minL_mem : ∀ {l : List Int} {m : Int}, minL l = some m → m ∈ l
  | a :: r, m, h => by
    have key : ∀ (r : List Int) (a : Int), (r.foldl (fun m x => if x < m then x else m) a) ∈ a :: r := by
      intro r
      induction r with
      | nil => intro a; exact List.mem_cons_self
      | cons x r ih =>
        intro a
        rw [List.foldl_cons]
        rcases List.mem_cons.mp (ih (if x < a then x else a)) with z | z
        · rw [z]
          by_cases c : x < a
          · rw [if_pos c]; simp
          · rw [if_neg c]; simp
        · exact List.mem_cons_of_mem _ (List.mem_cons_of_mem _ z)
    have e : r.foldl (fun m x => if x < m then x else m) a = m := Option.some.inj h
    rw [← e]
    exact key r a
/-- the columns of a row -/
def colsOf (D : IT2) : List Int := (D.map (·.1)).filter fun c => decide (0 ≤ c)
section
variable {K : PySem.W.Frag}
/-- [k for k in d if k >= 0] -/
theorem lc_cols {tt : TT} {vs : List Nat} {i : Nat} {σ : L2.St} {G : Hp} {d Dn : Addr} {o : Obj} {D : IT2} {Qd : Hp → Prop}
    (hd : G d = some (.frz o (.dK (kvI D)))) (hD : G Dn = none) (hl : D.length ≤ 100000)
    (hi : ∀ v, ((wipe σ vs).set i (some v))[i]? = some (some v)) (hvs : ∀ v, wipe ((wipe σ vs).set i (some v)) vs = wipe σ vs)
    (htt : ∀ (c : Int) (H3 : Hp) (Qb : Bool → Hp → Prop), Qb (decide (0 ≤ c)) H3 → tt ((wipe σ vs).set i (some (.int c))) H3 Qb)
    (hend : ∀ H', Same G H' → H' Dn = some (.lst ((colsOf D).map V.int)) → Qd H') :
    ∃ W : Nat → Nat → Hp → Prop, (∃ m, W 0 m (upd G Dn (.lst []))) ∧ ∀ j m H, W j m H →
      ((Itk d o (kvI D)).stop j H ∧ Qd H) ∨ ((Itk d o (kvI D)).go j H ∧ ∃ Nx : Hp → Prop, (∀ H', Nx H' → ∃ m', m' < m ∧ W (j + 1) m' H') ∧ ∀ x H', (Itk d o (kvI D)).yld j H x H' → gName i x (wipe σ vs) H' fun σ2 H2 => wipe σ2 vs = wipe σ vs ∧ tt σ2 H2 fun b H3 =>
        if b = true then tVar i σ2 H3 fun y H4 => ∃ acc, H4 Dn = some (.lst acc) ∧ acc.length < sizeLine ∧ Nx (upd H4 Dn (.lst (acc ++ [y]))) else Nx H3) := by
  have hbig : 100000 < sizeLine := by decide
  refine lc_it walk_keys (fun j H5 => Same G H5 ∧ H5 Dn = some (.lst ((colsOf (D.take j)).map V.int))) ⟨same_upd hD, upd_same⟩ (fun j H5 _ q => q.1 _ _ hd) (fun j x H5 H6 hj q y => ?_) (fun H5 q => ?_)
  · obtain ⟨s5, hD5⟩ := q
    rw [kvI_len] at hj
    obtain ⟨rfl, k, v, ek, rfl⟩ := y
    have e2 : (kvI D)[j]? = some (Sum.inl D[j].1, V.int D[j].2) := by unfold kvI; rw [List.getElem?_map, List.getElem?_eq_getElem hj]; rfl
    rw [e2] at ek
    obtain ⟨rfl, rfl⟩ := Prod.mk.inj (Option.some.inj ek)
    have et : D.take (j + 1) = D.take j ++ [D[j]] := by rw [List.take_add_one, List.getElem?_eq_getElem hj]; rfl
    have ec : colsOf (D.take (j + 1)) = colsOf (D.take j) ++ [D[j].1].filter fun c => decide (0 ≤ c) := by
      unfold colsOf
      rw [et, List.map_append, List.filter_append]; rfl
    refine ⟨hvs _, htt D[j].1 _ _ ?_⟩
    by_cases h0 : 0 ≤ D[j].1
    · rw [decide_eq_true h0]
      refine iteT ⟨_, hi _, _, hD5, ?_, same_put hD s5, ?_⟩
      · rw [List.length_map]
        unfold colsOf
        have := List.length_filter_le (fun c : Int => decide (0 ≤ c)) ((D.take j).map (·.1))
        rw [List.length_map, List.length_take] at this
        omega
      · rw [upd_same, ec, List.filter_cons, if_pos (decide_eq_true h0), List.filter_nil, List.map_append]; rfl
    · rw [decide_eq_false h0]
      refine iteF ⟨s5, ?_⟩
      rw [ec, List.filter_cons, if_neg (by rw [decide_eq_false h0]; exact Bool.false_ne_true), List.filter_nil, List.append_nil]
      exact hD5
  · obtain ⟨s5, hD5⟩ := q
    rw [kvI_len, List.take_length] at hD5
    exact hend _ s5 hD5
end
section
variable {P : Program} {w : World} {K : PySem.W.Frag} {mg : Str → Option Value} {base : Heap}
def PutP (C : Addr) (a dr d : Addr) (p : Int) (rows row rows' : IT2) (H : Hp) (Q : VK) : Prop := EchM C H a p dr ∧ H dr = some (.dK (kvI rows)) ∧ H d = some (.dK (kvI row)) ∧ 2 ≤ p ∧ p ≤ 31 ∧ RowsP rows ∧ NdI row ∧ okD row = true ∧ putPO p rows row = some rows' ∧
  ∀ v H', H' dr = some (.dK (kvI rows')) → (∀ b o, b ≠ dr → H b = some o → H' b = some o) → Q v H'
def PutZ (C : Addr) (a dr d : Addr) (ps : List (Int × Addr)) (rows : RT2) (row : IT2) (rows' : RT2) (H : Hp) (Q : VK) : Prop := EchM C H a 0 dr ∧ H dr = some (.dK (kvR ps)) ∧ RowsZ H ps rows ∧ rows.length ≤ 10000 ∧ (∀ e ∈ rows, okD e.2 = true) ∧ H d = some (.dK (kvI row)) ∧ NdI row ∧ okD row = true ∧ putZO rows row = some rows' ∧
  ∀ v H' ps', H' dr = some (.dK (kvR ps')) → RowsZ H' ps' rows' → (∀ b o, b ≠ dr → H b = some o → H' b = some o) → Q v H'
def sp_put (C : Addr) : Sp := fun vs H Q _ => ∃ (a d : Addr), vs = [.ref a, .ref d] ∧ ((∃ dr p rows row rows', PutP C a dr d p rows row rows' H Q) ∨ ∃ dr ps rows row rows', PutZ C a dr d ps rows row rows' H Q)
theorem ok_Echelon_put (T : Txt K mg) : FnOk P w K mg base CX0 4 T.Echelon.fp T.Echelon.fdp P_Echelon_put (sp_put T.Echelon.C) := by
  refine T.Echelon.Fp.ok sc_Echelon_put (fun vs H Q E h => ?_) (fun cdv A outer s H vs Q E hr h => ?_)
  · obtain ⟨a, d, rfl, _⟩ := h; rfl
  · obtain ⟨a, d, rfl, h⟩ := h
    have hbig : 100000 < sizeLine := by decide
    refine ⟨_, (pss_cons (ps_set (i := 2) sc_Echelon_put.nd rfl (Or.inl rfl) (pe_ifExp (pt_truth (pe_fld (pv 0) rfl) (by intro _; rfl)) (pe_meth (pv 0) T.Echelon.cls T.Echelon.m_rest_modulo (ok_Echelon_rest_modulo T) (hr.mono (by decide)) (b_Echelon_rest_modulo T) .nil pass0 (pa_cons (pv 1) pa_nil)) (pe_meth (pv 0) T.Echelon.cls T.Echelon.m_rest (ok_Echelon_rest T) (hr.mono (by decide)) (b_Echelon_rest T) .nil pass0 (pa_cons (pv 1) pa_nil))))
  (pss_cons (ps_set (i := 3) sc_Echelon_put.nd rfl (Or.inl rfl) (pe_minD hr rfl T.n_min bo_min (pe_lock (pe_lc (own := [("column", 3)]) rfl sc_Echelon_put.nd (pi_keys (pv 2)) (blkOk_by (own := [("column", 3)]) (N := N_Echelon_put) (sc := defScope s_Echelon_put) (by decide +kernel)) (fun _ _ _ _ _ => (pg_name (i := 3) sc_Echelon_put.nd rfl (Or.inl rfl))) (fun _ _ _ _ _ => pts_one (pt_cmpR op_ge (pv 3) pe_int (nomark _))) (fun _ _ _ _ _ => (pv 3)))) pe_non))
  (pss_cons (ps_if (pt_cmpR op_isN (pv 3) pe_non (nomark _)) (pss_one (ps_ret (pv 2))) pss_nil)
  (pss_cons (ps_if (pt_truth (pe_fld (pv 0) rfl) (by intro _; rfl)) (pss_cons (ps_set (i := 4) sc_Echelon_put.nd rfl (Or.inr rfl) (pe_call (ok_inverse_modulo T) (hr.mono (by decide)) rfl T.inverse_modulo.g T.inverse_modulo.F.kp (b_inverse_modulo T) .nil pass0 (pa_cons (pe_dget (Nat.lt_of_le_of_lt (Nat.add_le_add_left (show 1 ≤ 64 by decide) _) hr.units) (pv 2) (pv 3) (fun _ _ => rfl)) (pa_cons (pe_fld (pv 0) rfl) pa_nil))))
  (pss_one (ps_dput (Nat.lt_of_le_of_lt (Nat.add_le_add_left (show 1 ≤ 64 by decide) _) hr.units) (pe_fld (pv 0) rfl) (pv 3) (pe_call (ok_bits_of T) (hr.mono (by decide)) rfl T.bits_of.g T.bits_of.F.kp (b_bits_of T) .nil pass0 (pa_cons (pe_lock (pe_dc (own := [("at", 5), ("n", 6)]) rfl sc_Echelon_put.nd (pi_items (pv 2)) (blkOk_by (own := [("at", 5), ("n", 6)]) (N := N_Echelon_put) (sc := defScope s_Echelon_put) (by decide +kernel)) (fun _ _ _ _ _ => (pg_tupK (K := K) (n := 2) rfl rfl (pgs_cons (pg_name (i := 5) sc_Echelon_put.nd rfl (Or.inl rfl)) (pgs_cons (pg_name (i := 6) sc_Echelon_put.nd rfl (Or.inl rfl)) pgs_nil)))) (fun _ _ _ _ _ => pts_nil) (fun _ _ _ _ _ => (pv 5)) (fun _ _ _ _ _ => (pe_op op_mod (pe_op op_mulW (pv 6) (pv 4)) (pe_fldK (K := K) rfl (pv 0) rfl))))) pa_nil)) rfl))) (pss_one (ps_dput (Nat.lt_of_le_of_lt (Nat.add_le_add_left (show 1 ≤ 64 by decide) _) hr.units) (pe_fld (pv 0) rfl) (pv 3) (pv 2) rfl)))
  (pss_one (ps_ret pe_non)))))), ?_⟩
    rcases h with ⟨dr, p, rows, row, rows', hM, hdr, hd, hp2, hp31, hR, hnd, hok, hput, k⟩ | ⟨dr, ps, rows, row, rows', hM, hdr, hZ, hrl, hokr, hd, hnd, hok, hput, k⟩
    · unfold putPO at hput
      cases hrest : restPO p rows row with
      | none => rw [hrest] at hput; cases hput
      | some left =>
        rw [hrest] at hput
        dsimp only at hput
        by_cases hol : okD left = false
        · rw [if_pos hol] at hput; cases hput
        · rw [if_neg hol] at hput
          have hol : okD left = true := by simpa using hol
          obtain ⟨hll, hlb⟩ := okD_iff.mp hol
          obtain ⟨dx, fs, m1, m2, m3, m4⟩ := id hM
          have nar := hM.ne hdr
          walk_at "rd"
          refine ⟨_, _, _, _, _, rfl, m1, T.Echelon.cls, T.Echelon.n_field, m2, ?_⟩
          walk_at "rd"
          refine iteN0 (fun hp0 => ?_) (fun hp0 => absurd hp0 (by omega))
          walk_at "rd"
          refine ⟨_, _, _, rfl, m1, m4 _ (by decide) (by decide), ?_⟩
          walk_at "rd"
          refine ⟨a, dr, d, p, rows, row, left, rfl, hM, hdr, hd, hp2, hp31, hR, hnd, hok, hrest, fun d1 H1 hn1 e1 nd1 s1 => ?_⟩
          have n1r : d1 ≠ dr := fun z => by rw [z, hdr] at hn1; cases hn1
          have hM1 := hM.same s1
          have hdr1 := s1 _ _ hdr
          walk_at "rd"
          refine ⟨d1, _, e1, trivial, fun ol => ?_⟩
          have Gd : (upd H1 d1 (.frz ol (.dK (kvI left)))) d1 = some (.frz ol (.dK (kvI left))) := upd_same
          walk_at "rd"
          refine ⟨d1, ol, rfl, .inl ⟨_, Gd, fun Dn hDn => ?_⟩⟩
          refine lc_cols (i := 3) Gd hDn (by omega) (fun v => rfl) (fun v => rfl) (fun c H3 Qb hq => ?_) (fun H2 s2 e2 => ?_)
          · walk_at "rd"
            exact hq
          refine ⟨s2 _ _ Gd, ?_⟩
          obtain ⟨hn2, hne2⟩ := lock_none e1 hDn
          have s3 := unlock_same e1 s2
          have e3 : (upd H2 d1 (.dK (kvI left))) Dn = some (.lst ((colsOf left).map V.int)) := (upd_ne hne2).trans e2
          have e3d : (upd H2 d1 (.dK (kvI left))) d1 = some (.dK (kvI left)) := upd_same
          generalize upd H2 d1 (.dK (kvI left)) = H3 at *
          have hM3 := hM1.same s3
          have hdr3 := s3 _ _ hdr1
          have s03 := Same.trans s1 s3
          have em : minL ((left.map (·.1)).filter fun c => decide (0 ≤ c)) = minL (colsOf left) := rfl
          rw [em] at hput
          walk_at "rd"
          refine ⟨Dn, colsOf left, .non, rfl, rfl, .inl (.inl e3), fun hnil => ?_, fun c hc hmin => ?_⟩
          · rw [hnil, minL_nil] at hput
            have er := Option.some.inj hput
            walk_at "rd"
            exact k _ H3 (by rw [← er]; exact hdr3) fun b o nb e => s03 _ _ e
          · rw [minL_spec hc hmin] at hput
            dsimp only at hput
            obtain ⟨hc1, hc2⟩ := List.mem_filter.mp hc
            obtain ⟨ec, hec, eec⟩ := List.mem_map.mp hc1
            have hcb := hlb _ hec
            rw [eec] at hcb
            cases cg : getD2 left c with
            | none => rw [cg] at hput; cases hput
            | some v =>
              rw [cg] at hput
              dsimp only at hput
              have hvb := (hlb _ (getD2_mem cg)).2.2
              by_cases hh : hasD2 rows c = true
              · rw [if_pos hh] at hput; cases hput
              · rw [if_neg hh] at hput
                have hh' : hasD2 rows c = false := by simpa using hh
                have er := Option.some.inj hput
                obtain ⟨dx3, fs3, q1, q2, q3, q4⟩ := id hM3
                have hib := invL_bound (n := v) hp2
                walk_at "rd"
                refine ⟨_, _, _, _, _, rfl, q1, T.Echelon.cls, T.Echelon.n_field, q2, ?_⟩
                walk_at "rd"
                refine iteN0 (fun hp0 => ?_) (fun hp0 => absurd hp0 (by omega))
                walk_at "rd"
                refine ⟨d1, .int v, rfl, ?_, ?_⟩
                · have := DGet.k (k := Sum.inl c) e3d
                  rw [kvI_val, cg] at this
                  exact this
                walk_at "rd"
                refine ⟨_, _, _, _, _, rfl, q1, T.Echelon.cls, T.Echelon.n_field, q2, ?_⟩
                walk_at "rd"
                refine ⟨hp2, hp31, by omega, ?_⟩
                generalize invL v p = fc at *
                walk_at "rd"
                refine ⟨d1, _, e3d, trivial, fun o2 => ?_⟩
                have nad : a ≠ d1 := hM3.ne e3d
                have Gd2 : (upd H3 d1 (.frz o2 (.dK (kvI left)))) d1 = some (.frz o2 (.dK (kvI left))) := upd_same
                have GM2 : EchM T.Echelon.C (upd H3 d1 (.frz o2 (.dK (kvI left)))) a p dr := hM3.but nad
                walk_at "rd"
                refine ⟨d1, o2, kvI left, rfl, Gd2, fun D2 hD2 => ?_⟩
                refine dc_items (p := fun _ => true) (f := fun e => e.2 * fc % p) Gd2 hD2 nd1 (by omega) (fun e he Ha Tt A' Bc sa hT hA hB => ?_) (fun H4 s4 e4 => ?_)
                · have hbe := (hlb e he).2.2
                  obtain ⟨dx5, fs5, r1, r2, r3, r4⟩ := GM2.same sa
                  refine ⟨Tt, _, rfl, .inl (.inl hT), rfl, ?_⟩
                  walk_at "rd"
                  refine ⟨_, _, _, _, _, rfl, r1, T.Echelon.cls, T.Echelon.n_field, r2, ?_⟩
                  walk_at "rd"
                  exact hB rfl _ (Same.refl _)
                rw [filter_true'] at e4
                refine ⟨s4 _ _ Gd2, ?_⟩
                obtain ⟨hn4, hne4⟩ := lock_none e3d hD2
                have s5 := unlock_same e3d s4
                have e5 := (upd_ne (o := .dK (kvI left)) hne4).trans e4
                generalize upd H4 d1 (.dK (kvI left)) = H5 at *
                walk_at "rd"
                refine ⟨D2, _, rfl, e5, fun e he => ?_, by rw [List.length_map]; exact hll, fun H6 s6 => ?_⟩
                · obtain ⟨x, hx, rfl⟩ := List.mem_map.mp he
                  have hbx := hlb x hx
                  have m1 := Int.emod_nonneg (x.2 * fc) (show p ≠ 0 by omega)
                  have m2 := Int.emod_lt_of_pos (x.2 * fc) (show 0 < p by omega)
                  refine ⟨hbx.1, hbx.2.1, ?_⟩
                  show (x.2 * fc % p).natAbs < _
                  omega
                have s36 := Same.trans s5 s6
                obtain ⟨dx6, fs6, r1, r2, r3, r4⟩ := hM3.same s36
                have hdr6 := s36 _ _ hdr3
                have sT := Same.trans s03 s36
                walk_at "rd"
                refine ⟨_, _, _, _, _, rfl, r1, T.Echelon.cls, T.Echelon.n_rows, r3, ?_⟩
                walk_at "rd"
                refine ⟨dr, _, rfl, DPut.k (k := Sum.inl c) hdr6 (by rw [kvI_len]; have := hR.len; omega), ?_⟩
                walk_at "rd"
                refine k .non _ ?_ fun b o nb e => (upd_ne nb).trans (sT _ _ e)
                rw [upd_same, kvI_put hR.nd, putD2_new hh', ← er]
    · unfold putZO at hput
      cases hrest : restZO rows row with
      | none => rw [hrest] at hput; cases hput
      | some left =>
        rw [hrest] at hput
        dsimp only at hput
        have hol : okD left = true := restZO_ok hok hrest
        obtain ⟨hll, hlb⟩ := okD_iff.mp hol
        obtain ⟨dx, fs, m1, m2, m3, m4⟩ := id hM
        have nar := hM.ne hdr
        walk_at "rd"
        refine ⟨_, _, _, _, _, rfl, m1, T.Echelon.cls, T.Echelon.n_field, m2, ?_⟩
        walk_at "rd"
        refine ⟨_, _, _, rfl, m1, m4 _ (by decide) (by decide), ?_⟩
        walk_at "rd"
        refine ⟨a, dr, d, ps, rows, row, left, rfl, hM, hdr, hZ, hokr, hd, hnd, hok, hrest, fun d1 H1 hn1 e1 nd1 s1 => ?_⟩
        have hM1 := hM.same s1
        have hdr1 := s1 _ _ hdr
        walk_at "rd"
        refine ⟨d1, _, e1, trivial, fun ol => ?_⟩
        have Gd : (upd H1 d1 (.frz ol (.dK (kvI left)))) d1 = some (.frz ol (.dK (kvI left))) := upd_same
        walk_at "rd"
        refine ⟨d1, ol, rfl, .inl ⟨_, Gd, fun Dn hDn => ?_⟩⟩
        refine lc_cols (i := 3) Gd hDn (by omega) (fun v => rfl) (fun v => rfl) (fun c H3 Qb hq => ?_) (fun H2 s2 e2 => ?_)
        · walk_at "rd"
          exact hq
        refine ⟨s2 _ _ Gd, ?_⟩
        obtain ⟨hn2, hne2⟩ := lock_none e1 hDn
        have s3 := unlock_same e1 s2
        have e3 : (upd H2 d1 (.dK (kvI left))) Dn = some (.lst ((colsOf left).map V.int)) := (upd_ne hne2).trans e2
        have e3d : (upd H2 d1 (.dK (kvI left))) d1 = some (.dK (kvI left)) := upd_same
        generalize upd H2 d1 (.dK (kvI left)) = H3 at *
        have hM3 := hM1.same s3
        have hdr3 := s3 _ _ hdr1
        have s03 := Same.trans s1 s3
        have em : minL ((left.map (·.1)).filter fun c => decide (0 ≤ c)) = minL (colsOf left) := rfl
        rw [em] at hput
        have n1r : d1 ≠ dr := fun z => by rw [z, hdr] at hn1; cases hn1
        walk_at "rd"
        refine ⟨Dn, colsOf left, .non, rfl, rfl, .inl (.inl e3), fun hnil => ?_, fun c hc hmin => ?_⟩
        · rw [hnil, minL_nil] at hput
          have er := Option.some.inj hput
          walk_at "rd"
          exact k _ H3 ps hdr3 (by rw [← er]; exact ⟨hZ.keys, fun i p e hp he => s03 _ _ (hZ.at_ i p e hp he)⟩) fun b o nb e => s03 _ _ e
        · rw [minL_spec hc hmin] at hput
          dsimp only at hput
          by_cases hh : hasR rows c = true
          · rw [if_pos hh] at hput; cases hput
          · rw [if_neg hh] at hput
            have hh' : hasR rows c = false := by simpa using hh
            have er := Option.some.inj hput
            obtain ⟨dx3, fs3, q1, q2, q3, q4⟩ := id hM3
            walk_at "rd"
            refine ⟨_, _, _, _, _, rfl, q1, T.Echelon.cls, T.Echelon.n_field, q2, ?_⟩
            walk_at "rd"
            refine ⟨_, _, _, _, _, rfl, q1, T.Echelon.cls, T.Echelon.n_rows, q3, ?_⟩
            walk_at "rd"
            refine ⟨dr, _, rfl, DPut.k (k := Sum.inl c) hdr3 (by rw [kvR_len]; have := hZ.len; omega), ?_⟩
            walk_at "rd"
            have hnew : valV (kvR ps) (Sum.inl c : L2.Key) = none := by
              have key : ∀ (ps : List (Int × Addr)) (rows : RT2), ps.map (·.1) = rows.map (·.1) → hasR rows c = false → valV (kvR ps) (Sum.inl c : L2.Key) = none := by
                intro ps
                induction ps with
                | nil => intro rows _ _; rfl
                | cons p r ih =>
                  intro rows he hr
                  match rows, he, hr with
                  | [], he, _ => cases he
                  | e :: rs, he, hr =>
                    rw [List.map_cons, List.map_cons] at he
                    obtain ⟨h1, h2⟩ := List.cons.inj he
                    rw [hasR] at hr
                    by_cases ce : e.1 = c
                    · rw [if_pos ce] at hr; cases hr
                    · rw [if_neg ce] at hr
                      show valV ((Sum.inl p.1, V.ref p.2) :: kvR r) _ = _
                      rw [valV_neg (fun z => ce (by rw [← h1]; exact Sum.inl.inj z))]
                      exact ih rs h2 hr
              exact key ps rows hZ.keys hh'
            refine k .non _ (ps ++ [(c, d1)]) ?_ ?_ fun b o nb e => (upd_ne nb).trans (s03 _ _ e)
            · rw [upd_same, putK_new _ hnew]
              unfold kvR
              rw [List.map_append]; rfl
            · rw [← er]
              refine ⟨by rw [List.map_append, List.map_append, hZ.keys]; rfl, fun i p e hp he => ?_⟩
              have hlen := hZ.len
              by_cases hi : i < ps.length
              · rw [List.getElem?_append_left hi] at hp
                rw [List.getElem?_append_left (by omega)] at he
                rw [upd_ne (hZ.ne hdr hp he)]
                exact s03 _ _ (hZ.at_ i p e hp he)
              · rw [List.getElem?_append_right (by omega)] at hp he
                have hi0 : i - ps.length = 0 := by
                  have := (List.getElem?_eq_some_iff.mp hp).1
                  simp at this
                  omega
                rw [hi0] at hp
                rw [show i - rows.length = 0 by omega] at he
                simp at hp he
                subst hp he
                rw [upd_ne n1r]
                exact e3d
end
theorem putPO_ok {p : Int} (hp : 2 ≤ p) (hp31 : p ≤ 31) {rows row rows' : IT2} (h : RowsP rows) (hl : rows.length < 10000) (hput : putPO p rows row = some rows') : RowsP rows' ∧ rows'.length ≤ rows.length + 1 := by
  unfold putPO at hput
  cases hrest : restPO p rows row with
  | none => rw [hrest] at hput; cases hput
  | some left =>
    rw [hrest] at hput
    dsimp only at hput
    by_cases hol : okD left = false
    · rw [if_pos hol] at hput; cases hput
    · rw [if_neg hol] at hput
      have hol : okD left = true := by simpa using hol
      obtain ⟨hll, hlb⟩ := okD_iff.mp hol
      cases cm : minL ((left.map (·.1)).filter fun c => decide (0 ≤ c)) with
      | none => rw [cm] at hput; cases hput; exact ⟨h, by omega⟩
      | some c =>
        rw [cm] at hput
        dsimp only at hput
        cases cg : getD2 left c with
        | none => rw [cg] at hput; cases hput
        | some v =>
          rw [cg] at hput
          dsimp only at hput
          by_cases hh : hasD2 rows c = true
          · rw [if_pos hh] at hput; cases hput
          · rw [if_neg hh] at hput
            have er := Option.some.inj hput
            subst er
            have hcb := hlb _ (getD2_mem cg)
            have hb := bits_small (D := left.map fun e => (e.1, e.2 * invL v p % p)) (by rw [List.length_map]; exact hll) fun e he => by
              obtain ⟨x, hx, rfl⟩ := List.mem_map.mp he
              have hbx := hlb x hx
              have m1 := Int.emod_nonneg (x.2 * invL v p) (show p ≠ 0 by omega)
              have m2 := Int.emod_lt_of_pos (x.2 * invL v p) (show 0 < p by omega)
              refine ⟨hbx.1, hbx.2.1, m1, ?_⟩
              show x.2 * invL v p % p < _
              omega
            refine ⟨⟨?_, by rw [List.length_append, List.length_singleton]; omega, fun e he => ?_, fun e he => ?_⟩, by rw [List.length_append, List.length_singleton]; omega⟩
            · have := putD2_nd (k := c) (v := bitsL (left.map fun e => (e.1, e.2 * invL v p % p))) h.nd
              rw [putD2_new (by simpa using hh)] at this
              exact this
            · rcases List.mem_append.mp he with he | he
              · exact h.col e he
              · rw [List.mem_singleton.mp he]
                exact ⟨hcb.1, hcb.2.1⟩
            · rcases List.mem_append.mp he with he | he
              · exact h.val e he
              · rw [List.mem_singleton.mp he]
                exact hb

/-! ### rank -/
theorem sql_sm {K : PySem.W.Frag} {H H' : Hp} {a : Addr} {xs : List V} (h : SqL K H a xs) (s : Same H H') : SqL K H' a xs := by
  rcases h with (h | ⟨u, h⟩) | h
  · exact .inl (.inl (s _ _ h))
  · exact .inl (.inr ⟨u, s _ _ h⟩)
  · exact .inr h
/-- the dicts that a list holds -/
def DictsAt (H : Hp) (xs : List V) (Rs : List IT2) : Prop := xs.length = Rs.length ∧ ∀ (i : Nat) (x : V) (R : IT2), xs[i]? = some x → Rs[i]? = some R → ∃ d, x = .ref d ∧ H d = some (.dK (kvI R))
theorem DictsAt.same {H H' : Hp} {xs : List V} {Rs : List IT2} (h : DictsAt H xs Rs) (s : Same H H') : DictsAt H' xs Rs := ⟨h.1, fun i x R hx hR => by
  obtain ⟨d, e, hd⟩ := h.2 i x R hx hR
  exact ⟨d, e, s _ _ hd⟩⟩
theorem putZO_ok {rows rows' : RT2} {row : IT2} (h : okD row = true) (hr : ∀ e ∈ rows, okD e.2 = true) (hput : putZO rows row = some rows') : (∀ e ∈ rows', okD e.2 = true) ∧ rows'.length ≤ rows.length + 1 := by
  unfold putZO at hput
  cases hrest : restZO rows row with
  | none => rw [hrest] at hput; cases hput
  | some left =>
    rw [hrest] at hput
    dsimp only at hput
    cases cm : minL ((left.map (·.1)).filter fun c => decide (0 ≤ c)) with
    | none => rw [cm] at hput; cases hput; exact ⟨hr, by omega⟩
    | some c =>
      rw [cm] at hput
      dsimp only at hput
      by_cases hh : hasR rows c = true
      · rw [if_pos hh] at hput; cases hput
      · rw [if_neg hh] at hput
        have er := Option.some.inj hput
        subst er
        refine ⟨fun e he => ?_, by rw [List.length_append, List.length_singleton]; omega⟩
        rcases List.mem_append.mp he with he | he
        · exact hr e he
        · rw [List.mem_singleton.mp he]
          exact restZO_ok h hrest
theorem FldOk.cases {f : Int} (h : FldOk f) : f = 0 ∨ (f ≠ 0 ∧ 2 ≤ f ∧ f ≤ 31) := by
  rcases h with h | h | h | h | h <;> subst h <;> first | exact .inl rfl | exact .inr (by decide)
/-- the echelon after some rows -/
def EchF (H : Hp) (f : Int) (dr : Addr) (Rs : List IT2) (n : Nat) : Prop :=
  (f ≠ 0 ∧ ∃ rows, Rs.foldlM (putPO f) [] = some rows ∧ H dr = some (.dK (kvI rows)) ∧ RowsP rows ∧ rows.length ≤ n) ∨
  (f = 0 ∧ ∃ ps rows, Rs.foldlM putZO [] = some rows ∧ H dr = some (.dK (kvR ps)) ∧ RowsZ H ps rows ∧ rows.length ≤ n ∧ ∀ e ∈ rows, okD e.2 = true)
theorem ech_start {f : Int} {H : Hp} {dr : Addr} (h : H dr = some (.dK [])) : EchF H f dr [] 0 := by
  by_cases h0 : f = 0
  · exact .inr ⟨h0, [], [], rfl, h, ⟨rfl, fun i p e hp _ => by simp at hp⟩, Nat.le_refl _, fun e he => nomatch he⟩
  · exact .inl ⟨h0, [], rfl, h, ⟨List.nodup_nil, by decide, fun e he => (nomatch he), fun e he => (nomatch he)⟩, Nat.le_refl _⟩
theorem ech_end {f : Int} {H : Hp} {dr : Addr} {Rs : List IT2} {n k : Nat} (h : EchF H f dr Rs n) (hk : rankO f Rs = some k) : ∃ kvs, H dr = some (.dK kvs) ∧ kvs.length = k := by
  unfold rankO at hk
  rcases h with ⟨h0, rows, h1, h2, h3, h4⟩ | ⟨h0, ps, rows, h1, h2, h3, h4, h5⟩
  · rw [if_neg h0] at hk
    unfold rankPO at hk
    rw [h1] at hk
    exact ⟨_, h2, by rw [kvI_len]; exact Option.some.inj hk⟩
  · rw [if_pos h0] at hk
    unfold rankZO at hk
    rw [h1] at hk
    exact ⟨_, h2, by rw [kvR_len, h3.len]; exact Option.some.inj hk⟩
section
variable {P : Program} {w : World} {K : PySem.W.Frag} {mg : Str → Option Value} {base : Heap}
def sp_rank (K : PySem.W.Frag) : Sp := fun vs H Q _ => ∃ (f : Int) (l : Addr) (xs : List V) (Rs : List IT2) (k : Nat), vs = [.int f, .ref l] ∧ FldOk f ∧ SqL K H l xs ∧ DictsAt H xs Rs ∧ (∀ R ∈ Rs, NdI R ∧ okD R = true) ∧ Rs.length ≤ 1000 ∧ rankO f Rs = some k ∧ ∀ H', Same H H' → Q (.int k) H'
theorem ok_rank (T : Txt K mg) : FnOk P w K mg base CX0 6 T.rank.f T.rank.fd P_rank (sp_rank K) := by
  refine T.rank.F.ok sc_rank (fun vs H Q E h => ?_) (fun cdv A outer s H vs Q E hr h => ?_)
  · obtain ⟨f, l, xs, Rs, k, rfl, _⟩ := h; rfl
  · obtain ⟨f, l, xs, Rs, n, rfl, hf, hl, hD, hR, hlen, hrk, k⟩ := h
    refine ⟨_, (pss_cons (ps_set (i := 2) sc_rank.nd rfl (Or.inl rfl) (pe_make T.Echelon.mkr (ok_Echelon___init__ T) (hr.mono (by decide)) rfl T.Echelon.g (b_Echelon___init__ T) .nil pass0 (pa_cons (pv 0) pa_nil)))
  (pss_cons (ps_for PassesOwn.never rfl (pi_list (pv 1)) (pg_name (i := 3) sc_rank.nd rfl (Or.inl rfl)) (pss_one (ps_expr (pe_meth (pv 2) T.Echelon.cls T.Echelon.m_put (ok_Echelon_put T) (hr.mono (by decide)) (b_Echelon_put T) .nil pass0 (pa_cons (pv 3) pa_nil)))))
  (pss_one (ps_ret (pe_callB call_lenD rfl T.n_len bo_len (pa_cons (pe_fld (pv 2) rfl) pa_nil)))))), ?_⟩
    walk_at "rd"
    intro a dx ha hdx hne
    have s1 : Same H (upd (upd H dx (HO.own a)) a (HO.ins T.Echelon.C dx [])) := Same.trans (same_upd hdx) (same_upd (by rw [upd_ne hne.symm]; exact ha))
    have hfa : (upd (upd H dx (HO.own a)) a (HO.ins T.Echelon.C dx [])) a = some (HO.ins T.Echelon.C dx []) := upd_same
    generalize upd (upd H dx (HO.own a)) a (HO.ins T.Echelon.C dx []) = H1 at *
    refine ⟨a, dx, f, rfl, hfa, fun H2 dr hM hdr hn1 k1 => ⟨rfl, ?_⟩⟩
    have s2 : Same H H2 := fun b o e => k1 b o (fun z => by rw [z, ha] at e; cases e) (s1 _ _ e)
    have hnr : H dr = none := by
      cases c : H dr with
      | none => rfl
      | some o => rw [s1 _ _ c] at hn1; cases hn1
    walk_at "rd"
    refine ⟨⟨_, sql_sm hl s2⟩, ?_⟩
    refine for_list (K := K) (a := l) (xs := xs) (fun j σ H' => ∃ y3, σ = [some (.int f), some (.ref l), some (.ref a), y3] ∧ Same H H' ∧ EchM T.Echelon.C H' a f dr ∧ EchF H' f dr (Rs.take j) j) ⟨_, rfl, s2, hM, ech_start hdr⟩ (fun j σ H' _ q => ?_) (fun j x σ H' hj q => ?_) (fun σ H' q => ?_)
    · obtain ⟨y3, rfl, s', _⟩ := q
      exact sql_sm hl s'
    · obtain ⟨y3, rfl, s', hM', hE⟩ := q
      have hjR : j < Rs.length := by rw [← hD.1]; exact (List.getElem?_eq_some_iff.mp hj).1
      have hRj : Rs[j]? = some Rs[j] := List.getElem?_eq_getElem hjR
      obtain ⟨d, rfl, hd⟩ := (hD.same s').2 j x _ hj hRj
      obtain ⟨hnd, hok⟩ := hR _ (List.getElem_mem hjR)
      have fin : ∀ H3 : Hp, (∀ b o, b ≠ dr → H' b = some o → H3 b = some o) → Same H H3 ∧ ∀ (kvs : List (L2.Key × V)), H' dr = some (.dK kvs) → EchM T.Echelon.C H3 a f dr := fun H3 k3 =>
        ⟨fun b o e => k3 _ _ (fun z => by rw [z, hnr] at e; cases e) (s' _ _ e), fun kvs e => by
          obtain ⟨dx', fs', m1, m2, m3, m4⟩ := id hM'
          exact ⟨dx', fs', k3 _ _ (hM'.ne e) m1, m2, m3, m4⟩⟩
      walk_at "rd"
      rcases hE with ⟨h0, rows, h1, h2, h3, h4⟩ | ⟨h0, ps, rows, h1, h2, h3, h4, h5⟩
      · rcases hf.cases with z | ⟨_, hp2, hp31⟩
        · exact absurd z h0
        have hrk' : Rs.foldlM (putPO f) [] ≠ none := by
          intro z
          unfold rankO at hrk
          rw [if_neg h0] at hrk
          unfold rankPO at hrk
          rw [z] at hrk; cases hrk
        obtain ⟨rows', hp, ht⟩ := foldlM_at (Option.eq_some_of_isSome (Option.isSome_iff_ne_none.mpr hrk')) hRj h1
        obtain ⟨q1, q2⟩ := putPO_ok hp2 hp31 h3 (by omega) hp
        refine ⟨_, _, _, rfl, hM'.choose_spec.choose_spec.1, hM'.choose_spec.choose_spec.2.2.2 _ (by decide) (by decide), ?_⟩
        walk_at "rd"
        refine .inl ⟨dr, f, rows, Rs[j], rows', hM', h2, hd, hp2, hp31, h3, hnd, hok, hp, fun v H3 e3 k3 => ?_⟩
        obtain ⟨f1, f2⟩ := fin H3 k3
        exact ⟨_, rfl, f1, f2 _ h2, .inl ⟨h0, rows', ht, e3, q1, by omega⟩⟩
      · have hrk' : Rs.foldlM putZO [] ≠ none := by
          intro z
          unfold rankO at hrk
          rw [if_pos h0] at hrk
          unfold rankZO at hrk
          rw [z] at hrk; cases hrk
        obtain ⟨rows', hp, ht⟩ := foldlM_at (Option.eq_some_of_isSome (Option.isSome_iff_ne_none.mpr hrk')) hRj h1
        obtain ⟨q1, q2⟩ := putZO_ok hok h5 hp
        refine ⟨_, _, _, rfl, hM'.choose_spec.choose_spec.1, hM'.choose_spec.choose_spec.2.2.2 _ (by decide) (by decide), ?_⟩
        walk_at "rd"
        refine .inr ⟨dr, ps, rows, Rs[j], rows', (by rw [h0] at hM'; exact hM'), h2, h3, by omega, h5, hd, hnd, hok, hp, fun v H3 ps' e3 z3 k3 => ?_⟩
        obtain ⟨f1, f2⟩ := fin H3 k3
        exact ⟨_, rfl, f1, f2 _ h2, .inr ⟨h0, ps', rows', ht, e3, z3, by omega, q1⟩⟩
    · obtain ⟨y3, rfl, s', hM', hE⟩ := q
      rw [show Rs.take xs.length = Rs by rw [hD.1, List.take_length]] at hE
      obtain ⟨kvs, e1, e2⟩ := ech_end hE hrk
      obtain ⟨dx', fs', m1, m2, m3, m4⟩ := id hM'
      walk_at "rd"
      refine ⟨_, _, _, _, _, rfl, m1, T.Echelon.cls, T.Echelon.n_rows, m3, ?_⟩
      walk_at "rd"
      refine ⟨dr, kvs, rfl, e1, ?_⟩
      rw [e2]
      exact k _ s'
end

/-! ### masks -/
/-- the values of a list fit its model -/
def Fits {β : Type} (R : β → V → Prop) (bs : List β) (zs : List V) : Prop := zs.length = bs.length ∧ ∀ (i : Nat) b v, bs[i]? = some b → zs[i]? = some v → R b v
theorem Fits.nil {β : Type} {R : β → V → Prop} : Fits R [] [] := ⟨rfl, fun i b v h _ => by simp at h⟩
theorem Fits.snoc {β : Type} {R : β → V → Prop} {bs : List β} {zs : List V} {b : β} {v : V} (h : Fits R bs zs) (r : R b v) : Fits R (bs ++ [b]) (zs ++ [v]) := by
  obtain ⟨h1, h2⟩ := h
  refine ⟨by simp [h1], fun i b' v' hb hv => ?_⟩
  by_cases hi : i < zs.length
  · rw [List.getElem?_append_left (by omega)] at hb
    rw [List.getElem?_append_left hi] at hv
    exact h2 i b' v' hb hv
  · rw [List.getElem?_append_right (by omega)] at hb hv
    have hi0 : i - zs.length = 0 := by
      have := (List.getElem?_eq_some_iff.mp hv).1
      simp at this
      omega
    rw [hi0] at hv
    rw [show i - bs.length = 0 by omega] at hb
    simp at hb hv
    subst hb hv
    exact r
theorem Fits.mono {β : Type} {R S : β → V → Prop} {bs : List β} {zs : List V} (h : Fits R bs zs) (r : ∀ b v, R b v → S b v) : Fits S bs zs := ⟨h.1, fun i b v hb hv => r b v (h.2 i b v hb hv)⟩
theorem Fits.map {β : Type} {g : β → V} {bs : List β} {zs : List V} (h : Fits (fun b v => v = g b) bs zs) : zs = bs.map g := by
  refine List.ext_getElem? fun i => ?_
  rw [List.getElem?_map]
  by_cases hi : i < zs.length
  · have hib : i < bs.length := by rw [← h.1]; exact hi
    rw [List.getElem?_eq_getElem hi, List.getElem?_eq_getElem hib, h.2 i _ _ (List.getElem?_eq_getElem hib) (List.getElem?_eq_getElem hi)]
    rfl
  · rw [List.getElem?_eq_none (by omega), List.getElem?_eq_none (by have := h.1; omega)]
    rfl
/-- a row's own tuple -/
def Plain (H : Hp) (r : List Int) (v : V) : Prop := ∃ b, v = .ref b ∧ H b = some (.tup (r.map V.int))
theorem Plain.same {H H' : Hp} {r : List Int} {v : V} (s : Same H H') (h : Plain H r v) : Plain H' r v := by
  obtain ⟨b, e, hb⟩ := h
  exact ⟨b, e, s _ _ hb⟩
theorem Plain.lst {H : Hp} {D : Addr} {xs ys : List V} {r : List Int} {v : V} (hD : H D = some (.lst xs)) (h : Plain H r v) : Plain (upd H D (.lst ys)) r v := by
  obtain ⟨b, e, hb⟩ := h
  exact ⟨b, e, by rw [upd_ne fun z => by rw [z, hD] at hb; cases hb]; exact hb⟩
theorem Fits.pairs {β : Type} {R : β → V → Prop} {bs : List β} {zs : List V} (h : Fits R bs zs) : ∀ e ∈ zs.zip bs, R e.2 e.1 := fun e he => by
  obtain ⟨i, hi, rfl⟩ := List.getElem_of_mem he
  rw [List.length_zip] at hi
  rw [List.getElem_zip]
  exact h.2 i _ _ (List.getElem?_eq_getElem (by omega)) (List.getElem?_eq_getElem (by omega))
theorem Fits.ofPairs {β : Type} {R : β → V → Prop} {l : List (V × β)} (h : ∀ e ∈ l, R e.2 e.1) : Fits R (l.map (·.2)) (l.map (·.1)) := ⟨by simp, fun i b v hb hv => by
  rw [List.getElem?_map] at hb hv
  obtain ⟨e, he, rfl⟩ := Option.map_eq_some_iff.mp hb
  rw [he] at hv
  cases hv
  exact h e (List.mem_of_getElem? he)⟩
/-- all but a list's own items stay -/
def Keep (D : Addr) (H H' : Hp) : Prop := (∀ b o, b ≠ D → H b = some o → H' b = some o) ∧ ∃ xs ys, H D = some (.lst xs) ∧ H' D = some (.lst ys)
theorem Keep.tp {D : Addr} {H H' : Hp} (k : Keep D H H') : Tp H H' := fun b xs h => by
  obtain ⟨k1, x, y, hx, hy⟩ := k
  have nb : b ≠ D := fun z => by
    subst z
    rcases h with h | ⟨u, h⟩ <;> rw [hx] at h <;> cases h
  rcases h with h | ⟨u, h⟩
  · exact .inl (k1 _ _ nb h)
  · exact .inr ⟨u, k1 _ _ nb h⟩
section
variable {P : Program} {w : World} {K : PySem.W.Frag} {mg : Str → Option Value} {base : Heap}
/-- a comprehension of one loop: items of a model, those that a test keeps, and what is made of them -/
theorem lc_gen {α β : Type} {J : It} {n : Nat} {G : Hp → Prop} {Y : Nat → Hp → V → Hp → Prop} {g : TG} {tt : TT} {te : TE} {vs : List Nat} {σ : L2.St} {H1 : Hp} {D : Addr} {Qd : Hp → Prop}
    (w : Walk J n G Y) (as : List α) (p : α → Bool) (f : α → β) (R : β → V → Hp → Prop) (hn : as.length = n) (hG : ∀ H', Same H1 H' → G H') (hD : H1 D = none) (hl : n ≤ 100000)
    (hR : ∀ b v H H', Keep D H H' → R b v H → R b v H')
    (hs : ∀ i a x Ha Hb (Qn : Hp → Prop) (Qy : V → Hp → Prop), as[i]? = some a → Same H1 Ha → Y i Ha x Hb → (p a = false → ∀ H4, Same Ha H4 → Qn H4) → (p a = true → ∀ y H4, Same Ha H4 → R (f a) y H4 → Qy y H4) →
      g x (wipe σ vs) Hb fun σ2 H2 => wipe σ2 vs = wipe σ vs ∧ tt σ2 H2 fun b H3 => if b = true then te σ2 H3 Qy else Qn H3)
    (hend : ∀ H' zs, Same H1 H' → H' D = some (.lst zs) → Fits (fun b v => R b v H') ((as.filter p).map f) zs → Qd H') :
    ∃ W : Nat → Nat → Hp → Prop, (∃ m, W 0 m (upd H1 D (.lst []))) ∧ ∀ i m H, W i m H →
      (J.stop i H ∧ Qd H) ∨ (J.go i H ∧ ∃ Nx : Hp → Prop, (∀ H', Nx H' → ∃ m', m' < m ∧ W (i + 1) m' H') ∧ ∀ x H', J.yld i H x H' → g x (wipe σ vs) H' fun σ2 H2 => wipe σ2 vs = wipe σ vs ∧ tt σ2 H2 fun b H3 =>
        if b = true then te σ2 H3 fun y H4 => ∃ acc, H4 D = some (.lst acc) ∧ acc.length < sizeLine ∧ Nx (upd H4 D (.lst (acc ++ [y]))) else Nx H3) := by
  have hbig : 100000 < sizeLine := by decide
  refine lc_it w (tt := tt) (fun i H' => ∃ zs : List V, Same H1 H' ∧ H' D = some (.lst zs) ∧ zs.length ≤ i ∧ Fits (fun b v => R b v H') (((as.take i).filter p).map f) zs) ⟨[], same_upd hD, upd_same, Nat.le_refl _, .nil⟩ (fun i H' _ q => hG _ q.choose_spec.1) (fun i x Ha Hb hi q y => ?_) (fun H' q => ?_)
  · obtain ⟨zs, q1, q2, q3, q4⟩ := q
    have ha : as[i]? = some as[i] := List.getElem?_eq_getElem (by omega)
    have et : as.take (i + 1) = as.take i ++ [as[i]] := by rw [List.take_add_one, ha]; rfl
    refine hs i _ x Ha Hb _ _ ha q1 y (fun pf H4 s4 => ?_) (fun pt y H4 s4 r4 => ?_)
    · refine ⟨zs, Same.trans q1 s4, s4 _ _ q2, by omega, ?_⟩
      rw [et, List.filter_append, List.filter_cons, if_neg (by rw [pf]; exact Bool.false_ne_true), List.filter_nil, List.append_nil]
      exact q4.mono fun b v r => hR b v _ _ ⟨fun x o _ e => s4 _ _ e, zs, zs, q2, s4 _ _ q2⟩ r
    · have z4 := s4 _ _ q2
      have k4 : Keep D H4 (upd H4 D (.lst (zs ++ [y]))) := ⟨fun x o nx e => (upd_ne nx).trans e, _, _, z4, upd_same⟩
      refine ⟨zs, z4, by omega, zs ++ [y], fun b' v e => ?_, upd_same, by simp; omega, ?_⟩
      · rw [upd_ne (ne_of_none e hD)]
        exact s4 _ _ (q1 _ _ e)
      · rw [et, List.filter_append, List.filter_cons, if_pos pt, List.filter_nil, List.map_append]
        refine Fits.snoc (q4.mono fun b v r => hR b v _ _ k4 (hR b v _ _ ⟨fun x o _ e => s4 _ _ e, zs, zs, q2, z4⟩ r)) (hR _ _ _ _ k4 r4)
  · obtain ⟨zs, q1, q2, q3, q4⟩ := q
    rw [← hn, List.take_length] at q4
    exact hend H' zs q1 q2 q4
theorem Plain.dp {H : Hp} {r : List Int} {v : V} (h : Plain H r v) : Dp K H v (rD r) := by
  obtain ⟨b, rfl, hb⟩ := h
  exact dp_ints (.inl (.inl hb))
theorem fits_rows {H : Hp} {rs : List (List Int)} {zs : List V} (h : Fits (fun r v => Dp K H v (rD r)) rs zs) : DpAll K H zs (rs.map rD) := by
  refine dpAll_get (by rw [List.length_map]; exact h.1) fun j y d h1 h2 => ?_
  rw [List.getElem?_map] at h2
  obtain ⟨r, hr, rfl⟩ := Option.map_eq_some_iff.mp h2
  exact h.2 j r y hr h1
theorem filterT {α : Type} (l : List α) : l.filter (fun _ => true) = l := filter_true' l
theorem pow_shl {p : Int} (h0 : 0 ≤ p) : (1 : Int) * 2 ^ p.toNat = ((2 ^ p.toNat : Nat) : Int) := by rw [Int.one_mul, Int.natCast_pow]; rfl
theorem maskOf_sum (r : List Int) : ((maskOf r : Nat) : Int) = (r.map fun p => ((2 ^ p.toNat : Nat) : Int)).sum := by
  have key : ∀ (r : List Int) (a : Nat), ((r.foldl (fun a p => a + 2 ^ p.toNat) a : Nat) : Int) = (a : Int) + (r.map fun p => ((2 ^ p.toNat : Nat) : Int)).sum := by
    intro r
    induction r with
    | nil => intro a; simp
    | cons p r ih => intro a; rw [List.foldl_cons, ih, List.map_cons, List.sum_cons]; omega
  have := key r 0
  unfold maskOf
  omega
theorem row_small {n : Nat} {r : List Int} (h : RowOk n r) : r.length ≤ n := by
  have key : ∀ (r : List Int) (lo : Nat), r.Pairwise (· < ·) → (∀ p ∈ r, (lo : Int) ≤ p ∧ p < n) → r.length + min lo n ≤ n := by
    intro r
    induction r with
    | nil => intro lo _ _; simp; omega
    | cons a r ih =>
      intro lo hp hb
      have hp' := List.pairwise_cons.mp hp
      have ha := hb a List.mem_cons_self
      have := ih (a.toNat + 1) hp'.2 fun p hp => ⟨by have := hp'.1 p hp; omega, (hb p (List.mem_cons_of_mem _ hp)).2⟩
      rw [List.length_cons]
      omega
  have := key r 0 h.1 fun p hp => ⟨(h.2 p hp).1, (h.2 p hp).2⟩
  omega
def sp_mask_of (K : PySem.W.Frag) : Sp := fun vs H Q _ => ∃ (a : Addr) (r : List Int), vs = [.ref a] ∧ SqT K H a (r.map V.int) ∧ RowOk 8 r ∧ ∀ H', Same H H' → Q (.int (maskOf r)) H'
theorem ok_mask_of (T : Txt K mg) : FnOk P w K mg base CX0 1 T.mask_of.f T.mask_of.fd P_mask_of (sp_mask_of K) := by
  refine T.mask_of.F.ok sc_mask_of (fun vs H Q E h => ?_) (fun cdv A outer s H vs Q E hr h => ?_)
  · obtain ⟨a, r, rfl, _⟩ := h; rfl
  · obtain ⟨a, r, rfl, ha, hr8, k⟩ := h
    refine ⟨_, (pss_one (ps_ret (pe_callB (r := rSumS K) (cr_sumS rfl) rfl T.n_sum bo_sum (pa_cons (pe_lc (own := [("place", 1)]) rfl sc_mask_of.nd (pi_tup (pv 0)) (blkOk_by (own := [("place", 1)]) (N := N_mask_of) (sc := defScope s_mask_of) (by decide +kernel)) (fun _ _ _ _ _ => (pg_name (i := 1) sc_mask_of.nd rfl (Or.inl rfl))) (fun _ _ _ _ _ => pts_nil) (fun _ _ _ _ _ => (pe_op op_shlW pe_int (pv 1)))) pa_nil)))), ?_⟩
    walk_at "rd"
    refine ⟨⟨_, ha⟩, fun D hD => ?_⟩
    refine lc_gen (walk_tup (K := K) (a := a) (xs := r.map V.int)) r (fun _ => true) (fun p => ((2 ^ p.toNat : Nat) : Int)) (fun b v _ => v = .int b) (by rw [List.length_map]) (fun H' s => Toy.Same.tup s ha) hD (by rw [List.length_map]; have := row_small hr8; omega) (fun _ _ _ _ _ h => h) (fun i p x Ha Hb Qn Qy hp sa y _ ht => ?_) (fun H' zs s' e' fz => ?_)
    · obtain ⟨rfl, ey⟩ := y
      rw [List.getElem?_map, hp] at ey
      cases ey
      have hb := hr8.2 p (List.mem_of_getElem? hp)
      walk_at "rd"
      refine ⟨show CShl 1 p from (show p = ((p.toNat : Nat) : Int) by omega) ▸ shl_ok (n := 2) (by decide) (by omega), ht rfl _ _ (Same.refl _) ?_⟩
      exact congrArg V.int (pow_shl hb.1)
    · have ez := fz.map (g := V.int)
      rw [filterT] at ez
      walk_at "rd"
      refine ⟨D, _, rfl, .inl (.inl (.inl (by rw [e', ez]))), ?_⟩
      have := k H' s'
      rw [maskOf_sum] at this
      exact this
def sp_holds : Sp := fun vs H Q _ => ∃ m o : Nat, vs = [.int m, .int o] ∧ Q (.bl (holdsM m o)) H
theorem ok_holds (T : Txt K mg) : FnOk P w K mg base CX0 1 T.holds.f T.holds.fd P_holds sp_holds := by
  refine T.holds.F.ok sc_holds (fun vs H Q E h => ?_) (fun cdv A outer s H vs Q E hr h => ?_)
  · obtain ⟨m, o, rfl, _⟩ := h; rfl
  · obtain ⟨m, o, rfl, k⟩ := h
    refine ⟨_, (pss_one (ps_ret (pe_cmpR op_eq (pe_op op_and (pv 0) (pv 1)) (pv 1) (nomark _)))), ?_⟩
    walk_at "rd"
    rw [show holdsM m o = decide (V.int (Builtin.bitAnd (m : Int) (o : Int)) = V.int o) by
      rw [vdec, PySem.W.os_band]
      unfold holdsM
      by_cases h : m &&& o = o
      · rw [decide_eq_true (by rw [h])]; simpa using h
      · rw [decide_eq_false (by omega)]; simpa using h] at k
    exact k
def sp_set_of : Sp := fun vs H Q _ => ∃ m : Nat, vs = [.int m] ∧ m < 256 ∧ ∀ a H', H' a = some (.tup ((setOf m).map V.int)) → Same H H' → Q (.ref a) H'
theorem ok_set_of (T : Txt K mg) : FnOk P w K mg base CX0 1 T.set_of.f T.set_of.fd P_set_of sp_set_of := by
  refine T.set_of.F.ok sc_set_of (fun vs H Q E h => ?_) (fun cdv A outer s H vs Q E hr h => ?_)
  · obtain ⟨m, rfl, _⟩ := h; rfl
  · obtain ⟨m, rfl, hm, k⟩ := h
    refine ⟨_, (pss_one (ps_ret (pe_callTy (r := rTupOf K) call_tuple_of rfl T.n_tuple bo_tuple (pa_cons (pe_lc (own := [("place", 1)]) rfl sc_set_of.nd (pi_range1 rfl T.n_range (pa_cons (pe_bits (pv 0)) pa_nil)) (blkOk_by (own := [("place", 1)]) (N := N_set_of) (sc := defScope s_set_of) (by decide +kernel)) (fun _ _ _ _ _ => (pg_name (i := 1) sc_set_of.nd rfl (Or.inl rfl))) (fun _ _ _ _ _ => pts_one (pt_truthK (K := K) rfl (pe_op op_odd (pe_op op_shrN (pv 0) (pv 1)) pe_int) (by intro _; rfl))) (fun _ _ _ _ _ => (pv 1))) pa_nil)))), ?_⟩
    walk_at "rd"
    have hbits : Builtin.Int.intBits (m : Int) ≤ 8 := PySem.intBits_le_iff.mpr (by rw [Int.natAbs_natCast]; exact hm)
    refine ⟨by omega, by omega, fun D hD => ?_⟩
    refine lc_gen walk_range (List.range (Builtin.Int.intBits (m : Int))) (fun i => decide ((m >>> i) % 2 = 1)) (fun i : Nat => (i : Int)) (fun b v _ => v = .int b) (by rw [List.length_range]; omega) (fun H' s => trivial) hD (by omega) (fun _ _ _ _ _ h => h) (fun i p x Ha Hb Qn Qy hp sa y hf ht => ?_) (fun H' zs s' e' fz => ?_)
    · obtain ⟨rfl, rfl⟩ := y
      obtain ⟨hi, rfl⟩ : i < Builtin.Int.intBits (m : Int) ∧ p = i := by
        have := List.getElem?_eq_some_iff.mp hp
        obtain ⟨h1, h2⟩ := this
        rw [List.getElem_range] at h2
        rw [List.length_range] at h1
        exact ⟨h1, h2.symm⟩
      walk_at "rd"
      have e1 : (((m / 2 ^ (0 + p) % 2 : Nat) : Int) != 0) = decide ((m >>> p) % 2 = 1) := by
        rw [Nat.shiftRight_eq_div_pow, Nat.zero_add]
        by_cases h : m / 2 ^ p % 2 = 1
        · rw [decide_eq_true h, h]; rfl
        · rw [decide_eq_false h, show m / 2 ^ p % 2 = 0 by omega]; rfl
      rw [e1]
      refine iteB (fun hb => ?_) (fun hb => hf hb _ (Same.refl _))
      walk_at "rd"
      exact ht hb _ _ (Same.refl _) (congrArg V.int (by omega))
    · have ez := fz.map (g := fun i : Int => V.int i)
      have hb : Builtin.Int.intBits (m : Int) = if m = 0 then 0 else Nat.log2 m + 1 := by
        unfold Builtin.Int.intBits
        by_cases h : m = 0
        · subst h; rfl
        · rw [if_neg h, if_neg (by simpa using h), Int.natAbs_natCast]
      have es : (List.filter (fun i => decide ((m >>> i) % 2 = 1)) (List.range (Builtin.Int.intBits (m : Int)))).map (fun i : Nat => (i : Int)) = setOf m := by rw [hb]; rfl
      rw [es] at ez
      walk_at "rd"
      refine ⟨D, zs, rfl, .inl ⟨.inl (.inl e'), fun l hl => ?_⟩⟩
      exact k l _ (by rw [upd_same, ez]) (Same.trans s' (same_upd hl))
end

/-! ### rows in order: sorted of rows, the first of which may be empty -/
def leR (a b : List Int) : Bool := PySem.W.dataLe false rD a b
section
open PySem.W
theorem lt_decide : ∀ a b : List Int, ltR a b = decide (a < b)
  | [], [] => by simp [ltR]
  | [], b :: m => by simp [ltR]
  | a :: l, [] => by simp [ltR]
  | a :: l, b :: m => by
    have ih := lt_decide l m
    unfold ltR
    by_cases h1 : a < b
    · rw [if_pos h1, decide_eq_true]
      exact List.cons_lt_cons_iff.mpr (.inl h1)
    · rw [if_neg h1]
      by_cases h2 : b < a
      · rw [if_pos h2, decide_eq_false]
        intro z
        rcases List.cons_lt_cons_iff.mp z with z | ⟨z, _⟩ <;> omega
      · rw [if_neg h2, ih]
        have e : a = b := by omega
        subst e
        by_cases h3 : l < m
        · rw [decide_eq_true h3, decide_eq_true (List.cons_lt_cons_iff.mpr (.inr ⟨rfl, h3⟩))]
        · rw [decide_eq_false h3, decide_eq_false]
          intro z
          rcases List.cons_lt_cons_iff.mp z with z | ⟨_, z⟩
          · omega
          · exact h3 z
theorem lt_data (a b : List Int) : dataLt (rD a) (rD b) = ltR a b := by
  have e : dataLt (rD a) (rD b) = rowLt (a.map .int) (b.map .int) := dataLt_tuple _ _
  rw [e, dataLt_ints, lt_decide]
theorem lt_lex : ∀ a b : List Int, HT.lexLt a b = ltR a b
  | [], [] => rfl
  | [], b :: m => rfl
  | a :: l, [] => rfl
  | a :: l, b :: m => by
    have ih := lt_lex l m
    rw [HT.lexLt_cons, ih]
    show _ = if a < b then true else if b < a then false else ltR l m
    by_cases h1 : a = b
    · rw [if_pos h1, if_neg (by omega), if_neg (by omega)]
    · rw [if_neg h1]
      by_cases h2 : a < b
      · rw [if_pos h2, decide_eq_true h2]
      · rw [if_neg h2, if_pos (by omega), decide_eq_false h2]
theorem leR_lt (a b : List Int) : leR a b = !ltR b a := by
  rw [← lt_data]; rfl
theorem leR_total : TotalLe leR := by
  have h : TotalLe (dataLe false rD) := by unfold dataLe; exact sortLe_total _ _ _
  exact h
theorem ins_filter (c x : List Int) : ∀ l : List (List Int), (insR x l).filter (sameRank leR c) = (x :: l).filter (sameRank leR c)
  | [] => rfl
  | y :: l => by
    unfold insR
    by_cases h : ltR y x = true
    · rw [if_pos h, List.filter_cons, ins_filter c x l]
      have no : ¬ (sameRank leR c y = true ∧ sameRank leR c x = true) := fun ⟨hy, hx⟩ => by
        unfold sameRank at hx hy
        simp only [Bool.and_eq_true] at hx hy
        have := leR_total.trans x c y hx.2 hy.1
        rw [leR_lt, h] at this
        cases this
      by_cases hy : sameRank leR c y = true
      · have hx : ¬ sameRank leR c x = true := fun z => no ⟨hy, z⟩
        rw [if_pos hy, List.filter_cons_of_neg hx, List.filter_cons_of_neg hx, List.filter_cons_of_pos hy]
      · rw [if_neg hy]
        by_cases hx : sameRank leR c x = true
        · rw [List.filter_cons_of_pos hx, List.filter_cons_of_pos hx, List.filter_cons_of_neg hy]
        · rw [List.filter_cons_of_neg hx, List.filter_cons_of_neg hx, List.filter_cons_of_neg hy]
    · rw [if_neg h]
theorem ins_mem {x z : List Int} : ∀ {l : List (List Int)}, z ∈ insR x l ↔ z = x ∨ z ∈ l
  | [] => by simp [insR]
  | y :: l => by
    unfold insR
    by_cases h : ltR y x = true
    · rw [if_pos h, List.mem_cons, ins_mem, List.mem_cons]
      constructor
      · rintro (z | z | z)
        · exact .inr (.inl z)
        · exact .inl z
        · exact .inr (.inr z)
      · rintro (z | z | z)
        · exact .inr (.inl z)
        · exact .inl z
        · exact .inr (.inr z)
    · rw [if_neg h, List.mem_cons]
theorem ins_sorted (x : List Int) : ∀ {l : List (List Int)}, l.Pairwise (fun a b => leR a b = true) → (insR x l).Pairwise fun a b => leR a b = true
  | [], _ => List.pairwise_singleton _ _
  | y :: l, h => by
    obtain ⟨h1, h2⟩ := List.pairwise_cons.mp h
    unfold insR
    by_cases c : ltR y x = true
    · rw [if_pos c]
      refine List.pairwise_cons.mpr ⟨fun z hz => ?_, ins_sorted x h2⟩
      rcases ins_mem.mp hz with e | e
      · rw [e]
        rcases leR_total.total y x with q | q
        · exact q
        · rw [leR_lt, c] at q; cases q
      · exact h1 z e
    · rw [if_neg c]
      have hxy : leR x y = true := by rw [leR_lt]; simpa using c
      refine List.pairwise_cons.mpr ⟨fun z hz => ?_, h⟩
      rcases List.mem_cons.mp hz with e | e
      · rw [e]; exact hxy
      · exact leR_total.trans _ _ _ hxy (h1 z e)
theorem isort_merge (l : List (List Int)) : l.mergeSort leR = isort l := by
  refine (sort_unique leR_total ?_ fun c => ?_).symm
  · induction l with
    | nil => exact List.Pairwise.nil
    | cons a l ih => exact ins_sorted a ih
  · induction l with
    | nil => rfl
    | cons a l ih =>
      show (insR a (isort l)).filter _ = _
      rw [ins_filter, List.filter_cons, ih, List.filter_cons]
end
section
open PySem.Spec PyProof.Rows PySem.Calls PySem.W
variable {P : Program} {w : World} {A : Around} {E : Value → Shared → Prop} {s : Shared}
theorem row_open {h : Heap} {v : Value} {r : List Int} {bs : List Addr} (q : Reads h v (rD r) bs) : ∃ (t : Addr) (o : Obj) (its : Array Value) (k : Nat), v = .ref t ∧ h.get? t = some o ∧ o.cls = .type "tuple" ∧ o.data = .seq its k ∧ IntsAre its.toList r := by
  have isOf : ∀ (r : List Int) (vs : List Value) (bs : List Addr), ReadsAll h vs (r.map .int) bs → IntsAre vs r := by
    intro r
    induction r with
    | nil => intro vs bs q; cases q; exact .nil
    | cons n r ih =>
      intro vs bs q
      have q' : ReadsAll h vs (.int n :: r.map .int) bs := q
      cases q' with
      | cons x t => cases x; exact .cons _ _ (ih _ _ t)
  cases q with
  | @tuple t o its k _ _ g1 g2 g3 g4 => exact ⟨t, o, its, k, rfl, g1, g2, g3, isOf _ _ _ g4⟩
/-- what the first item of a row is: none if it's empty -/
theorem first_row {v : Value} {r : List Int} {bs : List Addr} {Q : Option Value → Shared → Prop} (q : Reads s.heap v (rD r) bs) (h : ∀ o : Option Value, (r = [] → o = none) → Q o s) : wpAny (model P w) A (firstOfTuple' v) Q E s := by
  obtain ⟨t, o, its, k, rfl, g1, g2, g3, g4⟩ := row_open q
  rw [kas_first_eq]
  refine wpAny_bind (Looks.here (show Looks (model P w) s.heap (typeOf (.ref t)) o.cls from (Looks.ld g1).andThen .now) ?_)
  rw [g2, if_neg (by decide)]
  refine wpAny_bind (listItems_at g1 g3 (wpAny_pure ?_))
  refine h _ fun e => ?_
  subst e
  have e0 : its.toList = [] := by cases q1 : its.toList with
    | nil => rfl
    | cons a l => rw [q1] at g4; cases g4
  have e1 : its = #[] := Array.toList_inj.mp e0
  subst e1
  rfl
theorem firsts_rows : ∀ {vs : List Value} {rs : List (List Int)} {Q : List (Option Value) → Shared → Prop}, EachIs (fun v r => ∃ bs, Reads s.heap v (rD r) bs) vs rs →
    (∀ fs : List (Option Value), (∀ t, rs = [] :: t → ∃ f, fs = none :: f) → Q fs s) → wpAny (model P w) A (vs.mapM firstOfTuple') Q E s
  | _, _, Q, .nil, h => by
    rw [List.mapM_nil]
    exact wpAny_pure (h [] fun t z => nomatch z)
  | _, _, Q, .cons (b := r) ⟨bs, x⟩ t, h => by
    rw [List.mapM_cons]
    refine wpAny_bind (first_row x fun o ho => wpAny_bind (firsts_rows t fun fs _ => wpAny_pure (h _ fun l z => ?_)))
    obtain ⟨z1, _⟩ := List.cons.inj z
    exact ⟨fs, by rw [ho z1]⟩
theorem kind_first0 {vs : List Value} {rs : List (List Int)} {Q : SortKind → Shared → Prop} (e : EachIs (fun v r => ∃ bs, Reads s.heap v (rD r) bs) vs ([] :: rs)) (h : Q oneType' s) : wpAny (model P w) A (keyKind' vs.toArray) Q E s := by
  have all : ∀ v ∈ vs, Looks (model P w) s.heap (typeOf v) (Value.type "tuple") := fun v hv => by
    obtain ⟨r, _, bs, q⟩ := e.left v hv
    exact looks_reads q
  obtain ⟨v0, rest, rfl⟩ : ∃ v0 rest, vs = v0 :: rest := by
    cases e with
    | cons a t => exact ⟨_, _, rfl⟩
  rw [keyKind'_eq, List.mapM_toArray, map_eq_pure_bind]
  refine wpAny_bind (wpAny_bind (firsts_rows e fun fs hf => wpAny_pure ?_))
  obtain ⟨f, rfl⟩ := hf rs rfl
  have n1 : ((none :: f).toArray.all fun x : Option Value => x.isSome) = false := by simp
  have n2 : (((none :: f).toArray)[0]?.bind id).isSome = false := by simp
  rw [n1, if_neg Bool.false_ne_true, n2, if_neg Bool.false_ne_true]
  rw [oneTypeOnly'_eq, List.mapM_toArray, map_eq_pure_bind]
  refine wpAny_bind (wpAny_bind (wpAny_bind (kas_mapM (r := Value.type "tuple") _ (fun v hv Q' hq => (all v hv).here hq) (wpAny_pure ?_))))
  have ha : ((List.map (fun _ => Value.type "tuple") (v0 :: rest)).toArray.all fun x => x == Value.type "tuple") = true := by
    rw [List.all_toArray, List.all_map]
    exact List.all_eq_true.mpr fun _ _ => rfl
  have h0 : (List.map (fun _ => Value.type "tuple") (v0 :: rest)).toArray[0]? = some (Value.type "tuple") := rfl
  rw [h0]
  dsimp only
  rw [if_pos ha]
  exact wpAny_pure (wpAny_pure h)
theorem sortsAt_first0 {vs : List Value} {rs : List (List Int)} (e : EachIs (fun v r => ∃ bs, Reads s.heap v (rD r) bs) vs ([] :: rs)) (hu : A.units + 8 < cLine) : SortsAt P w A s (dataKind s.heap (([] :: rs).map rD)) vs := by
  have al : AllAlike (([] :: rs).map rD) := AllAlike.of fun b b' => by
    unfold alike
    exact PySem.W.alike_ints _ _
  refine ⟨fun v hv => ?_, oneType', fun E x y ka kb Q ha hb hq => ?_, fun _ E Q hq => kind_first0 e hq⟩
  · obtain ⟨r, hr, bs, q⟩ := e.left v hv
    exact ⟨_, dataKind_some al (List.mem_map.mpr ⟨r, hr, rfl⟩) q⟩
  · obtain ⟨d, bs, hd, ra, rfl⟩ := dataKind_inv ha
    obtain ⟨d', bs', hd', rb, rfl⟩ := dataKind_inv hb
    obtain ⟨r1, _, rfl⟩ := List.mem_map.mp hd
    obtain ⟨r2, _, rfl⟩ := List.mem_map.mp hd'
    have hq' : Q (dataLt (rD r1) (rD r2)) s := hq
    rw [lt_data, ← lt_lex] at hq'
    obtain ⟨t, ⟨c1, d1, dt1, sl1⟩, i1, k1, rfl, g1, g2, g3, g4⟩ := row_open ra
    obtain ⟨u, ⟨c2, d2, dt2, sl2⟩, i2, k2, rfl, m1, m2, m3, m4⟩ := row_open rb
    simp only at g2 g3 m2 m3
    subst g2 g3 m2 m3
    rw [keyLt'_oneType, oneLt'_eq, if_pos rfl]
    refine wpAny_bind (wpAny_cRoomFor (by omega) ?_)
    refine wpAny_bind (wpAny_callSpecialIfBound?_slot (T := "tuple") ⟨_, g1, rfl⟩ F.slot_tuple_lt ?_)
    exact call_meets F.slot_tuple_lt ⟨_, g1, rfl⟩ F.entry_tuple_lt (F.args_tuple_lt_2 _ _) (HT.tuple_lt_ints t u i1 i2 k1 k2 d1 d2 sl1 sl2 r1 r2 g4 m4) ⟨g1, m1, wpAny_truthy_bool hq'⟩
end
section
open PySem.Spec PyProof.Rows PySem.W
variable {X : Cx}
/-- sorted(xs) of rows, the first of them empty -/
def rSorted0 (K : PySem.W.Frag) : List V → Hp → VK → Prop := fun vs H Q => ∃ (a : Addr) (bs : List (V × List Int)) (rs : List (List Int)), vs = [.ref a] ∧ SqL K H a (bs.map (·.1)) ∧ (∀ b ∈ bs, Dp K H b.1 (rD b.2)) ∧ bs.map (·.2) = [] :: rs ∧
  ∀ p, H p = none → Q (.ref p) (upd H p (.lst ((bs.mergeSort (dataLe false fun b => rD b.2)).map (·.1))))
theorem cr_sorted0 (hu : X.A.units + 64 < cLine) : CallR X (.builtin "sorted") (rSorted0 X.K) := by
  intro pins s σ H vs us Q I r ⟨a, bs, rs, ev, hs, hd, ers, q⟩
  subst ev
  obtain ⟨its, rv, hl, hz⟩ := I.list hs
  rw [Vals.ref1 r]
  have e := each_of (g := fun b : V × List Int => b.1) rv
  have hzb : bs.length ≤ sizeLine := by rw [List.length_map] at hz; exact hz
  have er : EachIs (fun v (b : V × List Int) => ∃ as, Reads s.heap v (rD b.2) as) its bs := each_and e fun v b hb rr => Dp.reads I (rD b.2) b.1 v (hd b hb) rr
  have er' : EachIs (fun v (b : V × List Int) => ∃ as, Reads (sortingHeap (copyHeap s.heap its) (s.heap.objs.size + 1) its) v (rD b.2) as) its bs := er.mono fun _ _ ⟨as, z⟩ => ⟨as, PyProof.Rows.Reads.keeps (fun _ _ => sorting_copy_old) z⟩
  have e2 : EachIs (fun v r => ∃ as, Reads (sortingHeap (copyHeap s.heap its) (s.heap.objs.size + 1) its) v (rD r) as) its ([] :: rs) := by
    rw [← ers]
    have key : ∀ {is : List Value} {cs : List (V × List Int)}, EachIs (fun v (b : V × List Int) => ∃ as, Reads (sortingHeap (copyHeap s.heap its) (s.heap.objs.size + 1) its) v (rD b.2) as) is cs → EachIs (fun v r => ∃ as, Reads (sortingHeap (copyHeap s.heap its) (s.heap.objs.size + 1) its) v (rD r) as) is (cs.map (·.2)) := by
      intro is cs h
      induction h with
      | nil => exact .nil
      | cons x _ ih => exact .cons x ih
    exact key er'
  have S := sortsAt_first0 (P := X.prog) (w := X.w) (A := X.A.in1.in1) (s := { s with heap := sortingHeap (copyHeap s.heap its) (s.heap.objs.size + 1) its }) e2 (by show X.A.units + 1 + 1 + 8 < cLine; omega)
  have ed : ([] :: rs).map rD = bs.map fun b => rD b.2 := by rw [← ers, List.map_map]; rfl
  rw [ed] at S
  refine sorted_vals (by simpa using hl.isList) S (by rw [e.length]; exact hzb) ?_
  have out := sortVals_data (R := fun v (b : V × List Int) => RelV b.1 v) false e er' (by rw [← ed]; exact AllAlike.of fun b b' => by unfold alike; exact PySem.W.alike_ints _ _)
  generalize sortVals (dataKind (sortingHeap (copyHeap s.heap its) (s.heap.objs.size + 1) its) (bs.map fun b => rD b.2)) false its its = vs' at *
  obtain ⟨ep, hat⟩ := PyProof.Rows.sortedAll_at s.heap its (List.toArray vs')
  have hlen : ((bs.mergeSort (dataLe false fun b => rD b.2)).map (·.1)).length ≤ sizeLine := by rw [List.length_map, (List.mergeSort_perm _ _).length_eq]; exact hzb
  exact ⟨.ref _, _, I.laid (t' := s.toks) (o := .lst ((bs.mergeSort (dataLe false fun b => rD b.2)).map (·.1))) (fun _ _ => PyProof.Rows.sortedAll_old) (Nat.le_succ _) ⟨hlen, vs', ep, vals_of_each out, hat⟩, rfl, q _ (I.hok.fresh (Nat.le_succ _))⟩
/-- sorted(xs) of data as the library reads it, or of rows, the first of them empty -/
def rSortedE (K : PySem.W.Frag) : List V → Hp → VK → Prop := fun vs H Q => rSortedD K vs H Q ∨ rSorted0 K vs H Q
theorem cr_sortedE (hu : X.A.units + 64 < cLine) : CallR X (.builtin "sorted") (rSortedE X.K) := CallR.or (cr_sortedD hu) (cr_sorted0 hu)
end
section
variable {K : PySem.W.Frag}
theorem zipF {α β : Type} {xs : List α} {ys : List β} (h : xs.length = ys.length) : (xs.zip ys).map (·.1) = xs := List.map_fst_zip (Nat.le_of_eq h)
theorem zipS {α β : Type} {xs : List α} {ys : List β} (h : xs.length = ys.length) : (xs.zip ys).map (·.2) = ys := List.map_snd_zip (Nat.le_of_eq h.symm)
theorem sorted_isort {R : Hp → List Int → V → Prop} (hR : ∀ H H' r v, Same H H' → R H r v → R H' r v) (hdp : ∀ H r v, R H r v → Dp K H v (rD r)) {H : Hp} {a : Addr} {ys : List V} {cs : List (List Int)} {Q : VK} (ha : SqL K H a ys) (hd : Fits (R H) cs ys) (hne : (∀ c ∈ cs, c ≠ []) ∨ ∃ rs, cs = [] :: rs)
    (h : ∀ p zs, H p = none → Fits (R (upd H p (.lst zs))) (isort cs) zs → Q (.ref p) (upd H p (.lst zs))) : rSortedE K [.ref a] H Q := by
  have hl : ys.length = cs.length := hd.1
  have hz := hd.pairs
  have em2 : ((ys.zip cs).mergeSort fun x y => leR x.2 y.2).map (·.2) = isort cs := ((List.map_mergeSort (r := fun x y : V × List Int => leR x.2 y.2) (s := leR) (f := fun b : V × List Int => b.2) (hl := fun x _ y _ => rfl)).trans (by rw [zipS hl])).trans (isort_merge cs)
  have fin : ∀ p, H p = none → Q (.ref p) (upd H p (.lst (((ys.zip cs).mergeSort fun x y => leR x.2 y.2).map (·.1)))) := fun p hp => by
    refine h p _ hp ?_
    rw [← em2]
    exact Fits.ofPairs fun b hb => hR _ _ _ _ (same_upd hp) (hz b ((List.mergeSort_perm _ _).mem_iff.mp hb))
  rcases hne with hne | ⟨rs, hrs⟩
  · refine .inl ⟨a, (ys.zip cs).map fun b => (b.1, rD b.2), rfl, ?_, fun b hb => ?_, ?_, .inl fun d hd' => ?_, fun b hb => ?_, fun p hp => ?_⟩
    · rw [List.map_map]
      show SqL K H a ((ys.zip cs).map fun b => b.1)
      rw [zipF hl]
      exact ha
    · obtain ⟨q, hq, rfl⟩ := List.mem_map.mp hb
      exact hdp _ _ _ (hz q hq)
    · rw [List.map_map]
      refine PySem.W.AllAlike.of (enc := fun b : V × List Int => rD b.2) fun b b' => ?_
      unfold PySem.W.alike
      exact PySem.W.alike_ints _ _
    · rw [List.map_map] at hd'
      obtain ⟨q, hq, rfl⟩ := List.mem_map.mp hd'
      have hm := hne _ (List.of_mem_zip hq).2
      cases e : q.2 with
      | nil => exact absurd e hm
      | cons x r => exact ⟨.int x, r.map .int, by simp [e]⟩
    · obtain ⟨q, hq, rfl⟩ := List.mem_map.mp hb
      show (rD q.2).depth ≤ 32
      simp only [PyData.depth, PySem.W.depth_ints]
      omega
    · have em : ((ys.zip cs).map fun b => (b.1, rD b.2)).mergeSort (PySem.W.dataLe false (·.2)) = ((ys.zip cs).mergeSort fun x y => leR x.2 y.2).map fun b => (b.1, rD b.2) :=
        (List.map_mergeSort (r := fun x y : V × List Int => leR x.2 y.2) (s := PySem.W.dataLe false (·.2)) (f := fun b : V × List Int => (b.1, rD b.2)) (hl := fun x _ y _ => rfl)).symm
      rw [em, List.map_map]
      exact fin p hp
  · refine .inr ⟨a, ys.zip cs, rs, rfl, by rw [zipF hl]; exact ha, fun b hb => hdp _ _ _ (hz b hb), by rw [zipS hl, hrs], fun p hp => fin p hp⟩
end

/-! ### lists of masks -/
section
variable {P : Program} {w : World} {K : PySem.W.Frag} {mg : Str → Option Value} {base : Heap}
abbrev nV (m : Nat) : V := .int (m : Int)
def leastM (ms : List Nat) : List Nat := ms.filter fun m => !ms.any fun o => (m != o) && holdsM m o
def greatM (ms : List Nat) : List Nat := ms.filter fun m => !ms.any fun o => (m != o) && holdsM o m
def sp_sets_of (K : PySem.W.Frag) : Sp := fun vs H Q _ => ∃ (a : Addr) (ms : List Nat), vs = [.ref a] ∧ SqL K H a (ms.map nV) ∧ (∀ m ∈ ms, m < 256 ∧ m ≠ 0) ∧ ms.length ≤ 1000 ∧ ∀ p H', Dp K H' (.ref p) (rsD (isort (ms.map setOf))) → Same H H' → Q (.ref p) H'
theorem ok_sets_of (T : Txt K mg) : FnOk P w K mg base CX0 2 T.sets_of.f T.sets_of.fd P_sets_of (sp_sets_of K) := by
  refine T.sets_of.F.ok sc_sets_of (fun vs H Q E h => ?_) (fun cdv A outer s H vs Q E hr h => ?_)
  · obtain ⟨a, ms, rfl, _⟩ := h; rfl
  · obtain ⟨a, ms, rfl, ha, hb, hl, k⟩ := h
    refine ⟨_, (pss_one (ps_ret (pe_callTy (r := rTupOf K) call_tuple_of rfl T.n_tuple bo_tuple (pa_cons (pe_callB (r := rSortedE K) (cr_sortedE hr.units) rfl T.n_sorted bo_sorted (pa_cons (pe_lc (own := [("mask", 1)]) rfl sc_sets_of.nd (pi_list (pv 0)) (blkOk_by (own := [("mask", 1)]) (N := N_sets_of) (sc := defScope s_sets_of) (by decide +kernel)) (fun _ _ _ _ _ => (pg_name (i := 1) sc_sets_of.nd rfl (Or.inl rfl))) (fun _ _ _ _ _ => pts_nil) (fun _ _ _ _ _ => (pe_call (ok_set_of T) (hr.mono (by decide)) rfl T.set_of.g T.set_of.F.kp (b_set_of T) .nil pass0 (pa_cons (pv 1) pa_nil)))) pa_nil)) pa_nil)))), ?_⟩
    walk_at "rd"
    refine ⟨⟨_, ha⟩, fun D hD => ?_⟩
    refine lc_gen (walk_list (K := K) (a := a) (xs := ms.map nV)) ms (fun _ => true) setOf (fun r v H' => Dp K H' v (rD r)) (by rw [List.length_map]) (fun H' s => sql_sm ha s) hD (by rw [List.length_map]; omega) (fun r v _ _ k h => Dp.tp k.tp _ _ (tOnly_rD r) h) (fun i m x Ha Hb Qn Qy hm sa y _ ht => ?_) (fun H' zs s' e' fz => ?_)
    · obtain ⟨rfl, ey⟩ := y
      rw [List.getElem?_map, hm] at ey
      cases ey
      have hmb := hb m (List.mem_of_getElem? hm)
      walk_at "rd"
      refine ⟨hmb.1, fun p H4 hp s4 => ht rfl _ _ s4 (dp_ints (.inl (.inl hp)))⟩
    · rw [filterT] at fz
      walk_at "rd"
      refine sorted_isort (R := fun H r v => Dp K H v (rD r)) (fun _ _ _ _ s h => Dp.same s _ _ h) (fun _ _ _ h => h) (.inl (.inl e')) fz (.inl fun c hc z => ?_) fun p zs hp hz => ?_
      · obtain ⟨m, hm, rfl⟩ := List.mem_map.mp hc
        have hmb := hb m hm
        have key : ((List.range 256).all fun m => m == 0 || !(setOf m).isEmpty) = true := by decide +kernel
        have := List.all_eq_true.mp key m (List.mem_range.mpr hmb.1)
        rw [z] at this
        simp at this
        exact hmb.2 this
      refine ⟨p, zs, rfl, .inl ⟨.inl (.inl upd_same), fun l hl => ?_⟩⟩
      have s2 := same_upd (o := .tup zs) hl
      exact k l _ (.tup (.inl (.inl upd_same)) (DpAll.same s2 _ _ (fits_rows hz))) (Same.trans s' (Same.trans (same_upd hp) s2))
theorem same_none {H H' : Hp} {d : Addr} (s : Same H H') (h : H' d = none) : H d = none := by
  cases c : H d with
  | none => rfl
  | some o => rw [s _ _ c] at h; cases h
def sp_least (K : PySem.W.Frag) : Sp := fun vs H Q _ => ∃ (a : Addr) (ms : List Nat), vs = [.ref a] ∧ SqL K H a (ms.map nV) ∧ ms.length ≤ 1000 ∧ ∀ p H', H p = none → H' p = some (.lst ((leastM ms).map nV)) → Same H H' → Q (.ref p) H'
theorem ok_least (T : Txt K mg) : FnOk P w K mg base CX0 2 T.least.f T.least.fd P_least (sp_least K) := by
  refine T.least.F.ok sc_least (fun vs H Q E h => ?_) (fun cdv A outer s H vs Q E hr h => ?_)
  · obtain ⟨a, ms, rfl, _⟩ := h; rfl
  · obtain ⟨a, ms, rfl, ha, hl, k⟩ := h
    refine ⟨_, (pss_one (ps_ret (pe_lc (own := [("mask", 1)]) rfl sc_least.nd (pi_list (pv 0)) (blkOk_by (own := [("mask", 1)]) (N := N_least) (sc := defScope s_least) (by decide +kernel)) (fun _ _ _ _ _ => (pg_name (i := 1) sc_least.nd rfl (Or.inr rfl))) (fun _ _ _ _ _ => pts_one (pt_not (pt_val (pe_callB (r := rAny K) (cr_any rfl) rfl T.n_any bo_any (pa_cons (pe_lc (own := [("other", 2)]) rfl sc_least.nd (pi_listK (K := K) rfl (pv 0)) (blkOk_in (own := [("other", 2)]) (N := N_least) (sc := scOf (rvOf ((defBody s_least).getD 0 (.Pass ⟨0, 0, 0, 0⟩)))) (by decide +kernel)) (fun _ _ _ _ _ => (pg_name (i := 2) sc_least.nd rfl (Or.inl rfl))) (fun _ _ _ _ _ => pts_nil) (fun _ _ _ _ _ => (pe_and (pe_cmpR op_ne (pv 1) (pv 2) (nomark _)) (pe_one (pe_call (ok_holds T) (hr.mono (by decide)) rfl T.holds.g T.holds.F.kp (b_holds T) .nil pass0 (pa_cons (pv 1) (pa_cons (pv 2) pa_nil))))))) pa_nil))))) (fun _ _ _ _ _ => (pv 1))))), ?_⟩
    walk_at "rd"
    refine ⟨⟨_, ha⟩, fun D hD => ?_⟩
    refine lc_gen (walk_list (K := K) (a := a) (xs := ms.map nV)) ms (fun m => !ms.any fun o => (m != o) && holdsM m o) id (fun m v _ => v = nV m) (by rw [List.length_map]) (fun H' s => sql_sm ha s) hD (by rw [List.length_map]; omega) (fun _ _ _ _ _ h => h) (fun i m x Ha Hb Qn Qy hm sa y hf ht => ?_) (fun H' zs s' e' fz => ?_)
    · obtain ⟨rfl, ey⟩ := y
      rw [List.getElem?_map, hm] at ey
      cases ey
      walk_at "rd"
      refine ⟨⟨_, sql_sm ha sa⟩, fun D2 hD2 => ?_⟩
      refine lc_gen (walk_list (K := K) (a := a) (xs := ms.map nV)) ms (fun _ => true) (fun o => (m != o) && holdsM m o) (fun b v _ => v = V.bl b) (by rw [List.length_map]) (fun H' s => sql_sm ha (Same.trans sa s)) hD2 (by rw [List.length_map]; omega) (fun _ _ _ _ _ h => h) (fun j o x2 Hc Hd Qn2 Qy2 ho sc y2 _ ht2 => ?_) (fun H2 zs2 s2 e2 fz2 => ?_)
      · obtain ⟨rfl, ey2⟩ := y2
        rw [List.getElem?_map, ho] at ey2
        cases ey2
        walk_at "rd"
        rw [vdec]
        refine iteDn (fun hne => ?_) (fun he => ?_)
        · walk_at "rd"
          refine ht2 rfl _ _ (Same.refl _) (congrArg V.bl ?_)
          rw [show (m != o) = true by simp; omega, Bool.true_and]
        · refine ht2 rfl _ _ (Same.refl _) (congrArg V.bl ?_)
          rw [show (m != o) = false by simp; omega, Bool.false_and]
      · have ez := fz2.map (g := V.bl)
        rw [filterT] at ez
        refine ⟨D2, _, rfl, .inl (.inl (by rw [e2, ez])), ?_⟩
        refine ⟨_, rfl, ?_⟩
        rw [List.any_map]
        refine iteB (fun hb => ?_) (fun hb => hf hb _ s2)
        walk_at "rd"
        exact ht hb _ _ s2 rfl
    · have ez := fz.map (g := nV)
      exact k D H' hD (by rw [e', ez, List.map_id]; rfl) s'
def sp_greatest (K : PySem.W.Frag) : Sp := fun vs H Q _ => ∃ (a : Addr) (ms : List Nat), vs = [.ref a] ∧ SqL K H a (ms.map nV) ∧ ms.length ≤ 1000 ∧ ∀ p H', H p = none → H' p = some (.lst ((greatM ms).map nV)) → Same H H' → Q (.ref p) H'
theorem ok_greatest (T : Txt K mg) : FnOk P w K mg base CX0 2 T.greatest.f T.greatest.fd P_greatest (sp_greatest K) := by
  refine T.greatest.F.ok sc_greatest (fun vs H Q E h => ?_) (fun cdv A outer s H vs Q E hr h => ?_)
  · obtain ⟨a, ms, rfl, _⟩ := h; rfl
  · obtain ⟨a, ms, rfl, ha, hl, k⟩ := h
    refine ⟨_, (pss_one (ps_ret (pe_lc (own := [("mask", 1)]) rfl sc_greatest.nd (pi_list (pv 0)) (blkOk_by (own := [("mask", 1)]) (N := N_greatest) (sc := defScope s_greatest) (by decide +kernel)) (fun _ _ _ _ _ => (pg_name (i := 1) sc_greatest.nd rfl (Or.inr rfl))) (fun _ _ _ _ _ => pts_one (pt_not (pt_val (pe_callB (r := rAny K) (cr_any rfl) rfl T.n_any bo_any (pa_cons (pe_lc (own := [("other", 2)]) rfl sc_greatest.nd (pi_listK (K := K) rfl (pv 0)) (blkOk_in (own := [("other", 2)]) (N := N_greatest) (sc := scOf (rvOf ((defBody s_greatest).getD 0 (.Pass ⟨0, 0, 0, 0⟩)))) (by decide +kernel)) (fun _ _ _ _ _ => (pg_name (i := 2) sc_greatest.nd rfl (Or.inl rfl))) (fun _ _ _ _ _ => pts_nil) (fun _ _ _ _ _ => (pe_and (pe_cmpR op_ne (pv 1) (pv 2) (nomark _)) (pe_one (pe_call (ok_holds T) (hr.mono (by decide)) rfl T.holds.g T.holds.F.kp (b_holds T) .nil pass0 (pa_cons (pv 2) (pa_cons (pv 1) pa_nil))))))) pa_nil))))) (fun _ _ _ _ _ => (pv 1))))), ?_⟩
    walk_at "rd"
    refine ⟨⟨_, ha⟩, fun D hD => ?_⟩
    refine lc_gen (walk_list (K := K) (a := a) (xs := ms.map nV)) ms (fun m => !ms.any fun o => (m != o) && holdsM o m) id (fun m v _ => v = nV m) (by rw [List.length_map]) (fun H' s => sql_sm ha s) hD (by rw [List.length_map]; omega) (fun _ _ _ _ _ h => h) (fun i m x Ha Hb Qn Qy hm sa y hf ht => ?_) (fun H' zs s' e' fz => ?_)
    · obtain ⟨rfl, ey⟩ := y
      rw [List.getElem?_map, hm] at ey
      cases ey
      walk_at "rd"
      refine ⟨⟨_, sql_sm ha sa⟩, fun D2 hD2 => ?_⟩
      refine lc_gen (walk_list (K := K) (a := a) (xs := ms.map nV)) ms (fun _ => true) (fun o => (m != o) && holdsM o m) (fun b v _ => v = V.bl b) (by rw [List.length_map]) (fun H' s => sql_sm ha (Same.trans sa s)) hD2 (by rw [List.length_map]; omega) (fun _ _ _ _ _ h => h) (fun j o x2 Hc Hd Qn2 Qy2 ho sc y2 _ ht2 => ?_) (fun H2 zs2 s2 e2 fz2 => ?_)
      · obtain ⟨rfl, ey2⟩ := y2
        rw [List.getElem?_map, ho] at ey2
        cases ey2
        walk_at "rd"
        rw [vdec]
        refine iteDn (fun hne => ?_) (fun he => ?_)
        · walk_at "rd"
          refine ht2 rfl _ _ (Same.refl _) (congrArg V.bl ?_)
          rw [show (m != o) = true by simp; omega, Bool.true_and]
        · refine ht2 rfl _ _ (Same.refl _) (congrArg V.bl ?_)
          rw [show (m != o) = false by simp; omega, Bool.false_and]
      · have ez := fz2.map (g := V.bl)
        rw [filterT] at ez
        refine ⟨D2, _, rfl, .inl (.inl (by rw [e2, ez])), ?_⟩
        refine ⟨_, rfl, ?_⟩
        rw [List.any_map]
        refine iteB (fun hb => ?_) (fun hb => hf hb _ s2)
        walk_at "rd"
        exact ht hb _ _ s2 rfl
    · have ez := fz.map (g := nV)
      exact k D H' hD (by rw [e', ez, List.map_id]; rfl) s'
theorem rows_list {H : Hp} {xs : List V} {rs : List (List Int)} (h : DpAll K H xs (rs.map rD)) : xs.length = rs.length := by
  have := Toy.DpAll.len h
  rwa [List.length_map] at this
/-- [mask_of(places) for places in rows] ended by a promise -/
def sp_free_masks (K : PySem.W.Frag) : Sp := fun vs H Q _ => ∃ (n : Nat) (a : Addr) (rs : List (List Int)), vs = [.int n, .ref a] ∧ n ≤ 8 ∧ Dp K H (.ref a) (rsD rs) ∧ (∀ r ∈ rs, RowOk 8 r) ∧ rs.length ≤ 1000 ∧ ∀ p H', H p = none → H' p = some (.lst ((freeMasks n rs).map nV)) → Same H H' → Q (.ref p) H'
theorem ok_free_masks (T : Txt K mg) : FnOk P w K mg base CX0 2 T.free_masks.f T.free_masks.fd P_free_masks (sp_free_masks K) := by
  refine T.free_masks.F.ok sc_free_masks (fun vs H Q E h => ?_) (fun cdv A outer s H vs Q E hr h => ?_)
  · obtain ⟨n, a, rs, rfl, _⟩ := h; rfl
  · obtain ⟨n, a, rs, rfl, hn, ha, hb, hl, k⟩ := h
    obtain ⟨a', xs, e0, hx, hd⟩ := rows_tup ha
    cases e0
    have hxl := rows_list hd
    refine ⟨_, (pss_cons (ps_set (i := 2) sc_free_masks.nd rfl (Or.inr rfl) (pe_lc (own := [("places", 3)]) rfl sc_free_masks.nd (pi_tup (pv 1)) (blkOk_by (own := [("places", 3)]) (N := N_free_masks) (sc := defScope s_free_masks) (by decide +kernel)) (fun _ _ _ _ _ => (pg_name (i := 3) sc_free_masks.nd rfl (Or.inl rfl))) (fun _ _ _ _ _ => pts_nil) (fun _ _ _ _ _ => (pe_call (ok_mask_of T) (hr.mono (by decide)) rfl T.mask_of.g T.mask_of.F.kp (b_mask_of T) .nil pass0 (pa_cons (pv 3) pa_nil)))))
  (pss_one (ps_ret (pe_lc (own := [("mask", 4)]) rfl sc_free_masks.nd (pi_range1 rfl T.n_range (pa_cons (pe_op op_shlW pe_int (pv 0)) pa_nil)) (blkOk_by (own := [("mask", 4)]) (N := N_free_masks) (sc := defScope s_free_masks) (by decide +kernel)) (fun _ _ _ _ _ => (pg_name (i := 4) sc_free_masks.nd rfl (Or.inr rfl))) (fun _ _ _ _ _ => pts_one (pt_not (pt_val (pe_callB (r := rAny K) (cr_any rfl) rfl T.n_any bo_any (pa_cons (pe_lc (own := [("other", 5)]) rfl sc_free_masks.nd (pi_listK (K := K) rfl (pv 2)) (blkOk_in (own := [("other", 5)]) (N := N_free_masks) (sc := scOf (rvOf ((defBody s_free_masks).getD 1 (.Pass ⟨0, 0, 0, 0⟩)))) (by decide +kernel)) (fun _ _ _ _ _ => (pg_name (i := 5) sc_free_masks.nd rfl (Or.inl rfl))) (fun _ _ _ _ _ => pts_nil) (fun _ _ _ _ _ => (pe_call (ok_holds T) (hr.mono (by decide)) rfl T.holds.g T.holds.F.kp (b_holds T) .nil pass0 (pa_cons (pv 4) (pa_cons (pv 5) pa_nil))))) pa_nil))))) (fun _ _ _ _ _ => (pv 4)))))), ?_⟩
    walk_at "rd"
    refine ⟨⟨_, hx⟩, fun D hD => ?_⟩
    refine lc_gen (walk_tup (K := K) (a := a) (xs := xs)) rs (fun _ => true) maskOf (fun m v _ => v = nV m) hxl.symm (fun H' s => Toy.Same.tup s hx) hD (by omega) (fun _ _ _ _ _ h => h) (fun i r x Ha Hb Qn Qy hr' sa y _ ht => ?_) (fun H' zs s' e' fz => ?_)
    · obtain ⟨rfl, ey⟩ := y
      obtain ⟨p, r', hr2, rfl, hp⟩ := row_at hd ey
      rw [hr'] at hr2
      cases hr2
      walk_at "rd"
      exact ⟨p, r, rfl, Toy.Same.tup sa hp, hb r (List.mem_of_getElem? hr'), fun H4 s4 => ht rfl _ _ s4 rfl⟩
    · have ez := fz.map (g := nV)
      rw [filterT] at ez
      rw [ez] at e'
      walk_at "rd"
      refine ⟨shl_ok (n := 2) (by decide) (by omega), ?_⟩
      have epow : (1 : Int) * 2 ^ (n : Int).toNat = ((2 ^ n : Nat) : Int) := pow_shl (by omega)
      have hpow : 2 ^ n ≤ 256 := Nat.pow_le_pow_right (by decide) hn
      walk_at "rd"
      rw [epow]
      generalize hN : 2 ^ n = N at *
      refine ⟨by omega, by omega, fun D2 hD2 => ?_⟩
      rw [Int.toNat_natCast]
      refine lc_gen walk_range (List.range N) (fun m => !(rs.map maskOf).any fun o => holdsM m o) id (fun m v _ => v = nV m) List.length_range (fun H' s => trivial) hD2 (by omega) (fun _ _ _ _ _ h => h) (fun i m x Ha Hb Qn Qy hm sa y hf ht => ?_) (fun H5 zs5 s5 e5 fz5 => ?_)
      · obtain ⟨rfl, rfl⟩ := y
        obtain ⟨hi, rfl⟩ : i < N ∧ m = i := by
          obtain ⟨h1, h2⟩ := List.getElem?_eq_some_iff.mp hm
          rw [List.getElem_range] at h2
          rw [List.length_range] at h1
          exact ⟨h1, h2.symm⟩
        have hl5 : SqL K Hb D ((rs.map maskOf).map nV) := .inl (.inl (sa _ _ e'))
        walk_at "rd"
        refine ⟨⟨_, hl5⟩, fun D3 hD3 => ?_⟩
        refine lc_gen (walk_list (K := K) (a := D) (xs := (rs.map maskOf).map nV)) (rs.map maskOf) (fun _ => true) (fun o => holdsM m o) (fun b v _ => v = V.bl b) (by rw [List.length_map, List.length_map, List.length_map]) (fun H' s => sql_sm hl5 s) hD3 (by rw [List.length_map, List.length_map]; omega) (fun _ _ _ _ _ h => h) (fun j o x2 Hc Hd Qn2 Qy2 ho sc y2 _ ht2 => ?_) (fun H6 zs6 s6 e6 fz6 => ?_)
        · obtain ⟨rfl, ey2⟩ := y2
          rw [List.getElem?_map, ho] at ey2
          cases ey2
          walk_at "rd"
          rw [Nat.zero_add]
          exact ht2 rfl _ _ (Same.refl _) rfl
        · have ez := fz6.map (g := V.bl)
          rw [filterT] at ez
          refine ⟨D3, _, rfl, .inl (.inl (by rw [e6, ez])), ?_⟩
          refine ⟨_, rfl, ?_⟩
          rw [List.any_map]
          refine iteB (fun hb => ?_) (fun hb => hf hb _ s6)
          walk_at "rd"
          exact ht hb _ _ s6 (congrArg V.int (by show (0 : Int) + _ = _; rw [Int.zero_add]; rfl))
      · have ez := fz5.map (g := nV)
        rw [List.map_id] at ez
        walk_at "rd"
        exact k D2 H5 (same_none s' hD2) (by rw [e5, ez, ← hN]; rfl) (Same.trans s' s5)
def nonfC (n : Nat) (rs : List (List Int)) : List Nat := (List.range (2 ^ n)).filter fun m => !(rs.map maskOf).any fun o => holdsM o m
def nonfM (n : Nat) (rs : List (List Int)) : List Nat := leastM (nonfC n rs)
def sp_nonface_masks (K : PySem.W.Frag) : Sp := fun vs H Q _ => ∃ (n : Nat) (a : Addr) (rs : List (List Int)), vs = [.int n, .ref a] ∧ n ≤ 8 ∧ Dp K H (.ref a) (rsD rs) ∧ (∀ r ∈ rs, RowOk 8 r) ∧ rs.length ≤ 1000 ∧ ∀ p H', H p = none → H' p = some (.lst ((nonfM n rs).map nV)) → Same H H' → Q (.ref p) H'
theorem ok_nonface_masks (T : Txt K mg) : FnOk P w K mg base CX0 3 T.nonface_masks.f T.nonface_masks.fd P_nonface_masks (sp_nonface_masks K) := by
  refine T.nonface_masks.F.ok sc_nonface_masks (fun vs H Q E h => ?_) (fun cdv A outer s H vs Q E hr h => ?_)
  · obtain ⟨n, a, rs, rfl, _⟩ := h; rfl
  · obtain ⟨n, a, rs, rfl, hn, ha, hb, hl, k⟩ := h
    obtain ⟨a', xs, e0, hx, hd⟩ := rows_tup ha
    cases e0
    have hxl := rows_list hd
    refine ⟨_, (pss_cons (ps_set (i := 2) sc_nonface_masks.nd rfl (Or.inr rfl) (pe_lc (own := [("places", 3)]) rfl sc_nonface_masks.nd (pi_tup (pv 1)) (blkOk_by (own := [("places", 3)]) (N := N_nonface_masks) (sc := defScope s_nonface_masks) (by decide +kernel)) (fun _ _ _ _ _ => (pg_name (i := 3) sc_nonface_masks.nd rfl (Or.inl rfl))) (fun _ _ _ _ _ => pts_nil) (fun _ _ _ _ _ => (pe_call (ok_mask_of T) (hr.mono (by decide)) rfl T.mask_of.g T.mask_of.F.kp (b_mask_of T) .nil pass0 (pa_cons (pv 3) pa_nil)))))
  (pss_one (ps_ret (pe_call (ok_least T) (hr.mono (by decide)) rfl T.least.g T.least.F.kp (b_least T) .nil pass0 (pa_cons (pe_lc (own := [("mask", 4)]) rfl sc_nonface_masks.nd (pi_range1 rfl T.n_range (pa_cons (pe_op op_shlW pe_int (pv 0)) pa_nil)) (blkOk_by (own := [("mask", 4)]) (N := N_nonface_masks) (sc := defScope s_nonface_masks) (by decide +kernel)) (fun _ _ _ _ _ => (pg_name (i := 4) sc_nonface_masks.nd rfl (Or.inr rfl))) (fun _ _ _ _ _ => pts_one (pt_not (pt_val (pe_callB (r := rAny K) (cr_any rfl) rfl T.n_any bo_any (pa_cons (pe_lc (own := [("other", 5)]) rfl sc_nonface_masks.nd (pi_listK (K := K) rfl (pv 2)) (blkOk_in (own := [("other", 5)]) (N := N_nonface_masks) (sc := _) (by decide +kernel)) (fun _ _ _ _ _ => (pg_name (i := 5) sc_nonface_masks.nd rfl (Or.inl rfl))) (fun _ _ _ _ _ => pts_nil) (fun _ _ _ _ _ => (pe_call (ok_holds T) (hr.mono (by decide)) rfl T.holds.g T.holds.F.kp (b_holds T) .nil pass0 (pa_cons (pv 5) (pa_cons (pv 4) pa_nil))))) pa_nil))))) (fun _ _ _ _ _ => (pv 4))) pa_nil))))), ?_⟩
    walk_at "rd"
    refine ⟨⟨_, hx⟩, fun D hD => ?_⟩
    refine lc_gen (walk_tup (K := K) (a := a) (xs := xs)) rs (fun _ => true) maskOf (fun m v _ => v = nV m) hxl.symm (fun H' s => Toy.Same.tup s hx) hD (by omega) (fun _ _ _ _ _ h => h) (fun i r x Ha Hb Qn Qy hr' sa y _ ht => ?_) (fun H' zs s' e' fz => ?_)
    · obtain ⟨rfl, ey⟩ := y
      obtain ⟨p, r', hr2, rfl, hp⟩ := row_at hd ey
      rw [hr'] at hr2
      cases hr2
      walk_at "rd"
      exact ⟨p, r, rfl, Toy.Same.tup sa hp, hb r (List.mem_of_getElem? hr'), fun H4 s4 => ht rfl _ _ s4 rfl⟩
    · have ez := fz.map (g := nV)
      rw [filterT] at ez
      rw [ez] at e'
      walk_at "rd"
      refine ⟨shl_ok (n := 2) (by decide) (by omega), ?_⟩
      have epow : (1 : Int) * 2 ^ (n : Int).toNat = ((2 ^ n : Nat) : Int) := pow_shl (by omega)
      have hpow : 2 ^ n ≤ 256 := Nat.pow_le_pow_right (by decide) hn
      walk_at "rd"
      rw [epow]
      generalize hN : 2 ^ n = N at *
      refine ⟨by omega, by omega, fun D2 hD2 => ?_⟩
      rw [Int.toNat_natCast]
      refine lc_gen walk_range (List.range N) (fun m => !(rs.map maskOf).any fun o => holdsM o m) id (fun m v _ => v = nV m) List.length_range (fun H' s => trivial) hD2 (by omega) (fun _ _ _ _ _ h => h) (fun i m x Ha Hb Qn Qy hm sa y hf ht => ?_) (fun H5 zs5 s5 e5 fz5 => ?_)
      · obtain ⟨rfl, rfl⟩ := y
        obtain ⟨hi, rfl⟩ : i < N ∧ m = i := by
          obtain ⟨h1, h2⟩ := List.getElem?_eq_some_iff.mp hm
          rw [List.getElem_range] at h2
          rw [List.length_range] at h1
          exact ⟨h1, h2.symm⟩
        have hl5 : SqL K Hb D ((rs.map maskOf).map nV) := .inl (.inl (sa _ _ e'))
        walk_at "rd"
        refine ⟨⟨_, hl5⟩, fun D3 hD3 => ?_⟩
        refine lc_gen (walk_list (K := K) (a := D) (xs := (rs.map maskOf).map nV)) (rs.map maskOf) (fun _ => true) (fun o => holdsM o m) (fun b v _ => v = V.bl b) (by rw [List.length_map, List.length_map, List.length_map]) (fun H' s => sql_sm hl5 s) hD3 (by rw [List.length_map, List.length_map]; omega) (fun _ _ _ _ _ h => h) (fun j o x2 Hc Hd Qn2 Qy2 ho sc y2 _ ht2 => ?_) (fun H6 zs6 s6 e6 fz6 => ?_)
        · obtain ⟨rfl, ey2⟩ := y2
          rw [List.getElem?_map, ho] at ey2
          cases ey2
          walk_at "rd"
          rw [Nat.zero_add]
          exact ht2 rfl _ _ (Same.refl _) rfl
        · have ez := fz6.map (g := V.bl)
          rw [filterT] at ez
          refine ⟨D3, _, rfl, .inl (.inl (by rw [e6, ez])), ?_⟩
          refine ⟨_, rfl, ?_⟩
          rw [List.any_map]
          refine iteB (fun hb => ?_) (fun hb => hf hb _ s6)
          walk_at "rd"
          exact ht hb _ _ s6 (congrArg V.int (by show (0 : Int) + _ = _; rw [Int.zero_add]; rfl))
      · have ez := fz5.map (g := nV)
        rw [List.map_id] at ez
        walk_at "rd"
        refine ⟨D2, nonfC n rs, rfl, .inl (.inl (by rw [e5, ez, ← hN]; rfl)), ?_, fun p H6 hp e6 s6 => k p H6 (same_none s' (same_none s5 hp)) e6 (Same.trans s' (Same.trans s5 s6))⟩
        have := List.length_filter_le (fun m => !(rs.map maskOf).any fun o => holdsM o m) (List.range (2 ^ n))
        rw [List.length_range] at this
        unfold nonfC
        omega
end

/-! ### levels -/
def LevAt (H : Hp) (a : Addr) (L : List (List (List Int))) : Prop := ∃ as : List Addr, H a = some (.lst (as.map V.ref)) ∧ as.length = L.length ∧ as.Nodup ∧ a ∉ as ∧ ∀ (i : Nat) b l, as[i]? = some b → L[i]? = some l → ∃ ys, H b = some (.lst ys) ∧ Fits (Plain H) l ys
/-- the levels, their lists new since G -/
def LevN (G H : Hp) (a : Addr) (L : List (List (List Int))) : Prop := ∃ as : List Addr, H a = some (.lst (as.map V.ref)) ∧ as.length = L.length ∧ as.Nodup ∧ (∀ b ∈ as, G b = none) ∧ ∀ (i : Nat) b l, as[i]? = some b → L[i]? = some l → ∃ ys, H b = some (.lst ys) ∧ Fits (Plain H) l ys
/-- all but one list stays -/
def But (G H : Hp) (a : Addr) : Prop := ∀ b o, b ≠ a → G b = some o → H b = some o
section
variable {P : Program} {w : World} {K : PySem.W.Frag} {mg : Str → Option Value} {base : Heap}
theorem Plain.keep {D : Addr} {H H' : Hp} {r : List Int} {v : V} (k : Keep D H H') (h : Plain H r v) : Plain H' r v := by
  obtain ⟨b, e, hb⟩ := h
  obtain ⟨k1, x, y, hx, hy⟩ := k
  exact ⟨b, e, k1 _ _ (fun z => by rw [z, hx] at hb; cases hb) hb⟩
theorem dpAll_snoc {H : Hp} {xs : List V} {ds : List PyData} {x : V} {d : PyData} (h : DpAll K H xs ds) (hx : Dp K H x d) : DpAll K H (xs ++ [x]) (ds ++ [d]) := dpAll_app h (.cons hx .nil)
theorem LevN.at {G H : Hp} {a : Addr} {L : List (List (List Int))} {o : HO} (h : LevN G H a L) (hg : G a = some o) : LevAt H a L := by
  obtain ⟨as, h1, h2, h3, h4, h5⟩ := h
  refine ⟨as, h1, h2, h3, fun z => ?_, h5⟩
  have := h4 a z
  rw [hg] at this
  cases this
theorem LevN.len {G H : Hp} {a : Addr} {L : List (List (List Int))} (h : LevN G H a L) : ∃ xs, H a = some (.lst xs) ∧ xs.length = L.length := by
  obtain ⟨as, h1, h2, _⟩ := h
  exact ⟨_, h1, by rw [List.length_map, h2]⟩
theorem nodup_snoc {α : Type} {l : List α} {x : α} (h : l.Nodup) (n : x ∉ l) : (l ++ [x]).Nodup := by
  refine List.nodup_append.mpr ⟨h, by simp, fun a ha b hb => ?_⟩
  rw [List.mem_singleton.mp hb]
  exact fun e => n (e ▸ ha)
/-- a new empty level -/
theorem LevN.push {G H : Hp} {a D : Addr} {L : List (List (List Int))} {o : HO} {xs : List V} (h : LevN G H a L) (hg : G a = some o) (hb : But G H a) (hD : H D = none) (hx : H a = some (.lst xs)) :
    LevN G (upd (upd H D (.lst [])) a (.lst (xs ++ [.ref D]))) a (L ++ [[]]) ∧ But G (upd (upd H D (.lst [])) a (.lst (xs ++ [.ref D]))) a := by
  obtain ⟨as, h1, h2, h3, h4, h5⟩ := h
  rw [hx] at h1
  have e1 : xs = as.map V.ref := HO.lst.inj (Option.some.inj h1)
  subst e1
  have nD : D ≠ a := fun z => by rw [z, hx] at hD; cases hD
  have gD : G D = none := by
    cases c : G D with
    | none => rfl
    | some o' => rw [hb D o' nD c] at hD; cases hD
  have nas : D ∉ as := fun z => by
    obtain ⟨i, hi, e⟩ := List.getElem_of_mem z
    obtain ⟨ys, q, _⟩ := h5 i D _ (by rw [List.getElem?_eq_getElem hi, e]) (List.getElem?_eq_getElem (by omega))
    rw [hD] at q; cases q
  have tp : ∀ r v, Plain H r v → Plain (upd (upd H D (.lst [])) a (.lst (as.map V.ref ++ [.ref D]))) r v := fun r v h => Plain.lst (by rw [upd_ne nD.symm]; exact hx) (h.same (same_upd hD))
  refine ⟨⟨as ++ [D], by rw [upd_same, List.map_append]; rfl, by simp [h2], nodup_snoc h3 nas, fun b hb' => ?_, fun i b l hi hl => ?_⟩, fun b o' nb e => ?_⟩
  · rcases List.mem_append.mp hb' with z | z
    · exact h4 b z
    · rw [List.mem_singleton.mp z]; exact gD
  · by_cases c : i < as.length
    · rw [List.getElem?_append_left c] at hi
      rw [List.getElem?_append_left (by omega)] at hl
      obtain ⟨ys, q, dp⟩ := h5 i b l hi hl
      have nb : b ≠ a := fun z => by have := h4 b (List.mem_of_getElem? hi); rw [z, hg] at this; cases this
      have nb2 : b ≠ D := fun z => by rw [z, hD] at q; cases q
      exact ⟨ys, by rw [upd_ne nb, upd_ne nb2]; exact q, dp.mono tp⟩
    · have hi0 : i - as.length = 0 := by
        have := (List.getElem?_eq_some_iff.mp hi).1
        simp at this
        omega
      rw [List.getElem?_append_right (by omega), hi0] at hi
      rw [List.getElem?_append_right (by omega), show i - L.length = 0 by omega] at hl
      simp at hi hl
      subst hi hl
      exact ⟨[], by rw [upd_ne nD, upd_same], Fits.nil⟩
  · have nb2 : b ≠ D := fun z => by rw [z, gD] at e; cases e
    rw [upd_ne nb, upd_ne nb2]
    exact hb b o' nb e
/-- one more row in a level -/
theorem LevN.add {G H : Hp} {a b : Addr} {L : List (List (List Int))} {o : HO} {ys : List V} {as : List Addr} {i : Nat} {r : List Int} {x : V} (h : LevN G H a L) (hg : G a = some o) (hb : But G H a) (hx : H a = some (.lst (as.map V.ref))) (hi : as[i]? = some b) (hy : H b = some (.lst ys)) (hr : Plain H r x) :
    LevN G (upd H b (.lst (ys ++ [x]))) a (L.modify i (· ++ [r])) ∧ But G (upd H b (.lst (ys ++ [x]))) a := by
  obtain ⟨as', h1, h2, h3, h4, h5⟩ := h
  rw [hx] at h1
  have inj : ∀ {as bs : List Addr}, as.map V.ref = bs.map V.ref → as = bs := by
    intro as
    induction as with
    | nil => intro bs e; cases bs with
      | nil => rfl
      | cons b bs => cases e
    | cons a as ih => intro bs e; cases bs with
      | nil => cases e
      | cons b bs =>
        obtain ⟨e1, e2⟩ := List.cons.inj e
        rw [V.ref.inj e1, ih e2]
  have e1 := inj (HO.lst.inj (Option.some.inj h1))
  subst e1
  have gb := h4 b (List.mem_of_getElem? hi)
  have nb : b ≠ a := fun z => by rw [z, hg] at gb; cases gb
  have tp : ∀ r v, Plain H r v → Plain (upd H b (.lst (ys ++ [x]))) r v := fun r v h => Plain.lst hy h
  refine ⟨⟨as, by rw [upd_ne nb.symm]; exact hx, by rw [List.length_modify]; exact h2, h3, h4, fun j c l hj hl => ?_⟩, fun c o' nc e => ?_⟩
  · rw [List.getElem?_modify] at hl
    by_cases hij : i = j
    · subst hij
      rw [hi] at hj
      cases hj
      obtain ⟨l0, hl0, e⟩ := Option.map_eq_some_iff.mp (show Option.map _ _ = _ from hl)
      rw [if_pos rfl] at e
      subst e
      obtain ⟨ys', q, dp⟩ := h5 i b l0 hi hl0
      rw [hy] at q
      cases q
      refine ⟨_, upd_same, ?_⟩
      exact Fits.snoc (dp.mono tp) (tp _ _ hr)
    · obtain ⟨l0, hl0, e⟩ := Option.map_eq_some_iff.mp (show Option.map _ _ = _ from hl)
      rw [if_neg hij] at e
      subst e
      obtain ⟨ys', q, dp⟩ := h5 j c l0 hj hl0
      have nc : c ≠ b := fun z => by
        subst z
        have hi' := List.getElem?_eq_some_iff.mp hi
        have hj' := List.getElem?_eq_some_iff.mp hj
        obtain ⟨p1, p2⟩ := hi'
        obtain ⟨p3, p4⟩ := hj'
        exact hij ((List.getElem_inj h3).mp (p2.trans p4.symm))
      exact ⟨ys', by rw [upd_ne nc]; exact q, dp.mono tp⟩
  · have nc2 : c ≠ b := fun z => by rw [z, gb] at e; cases e
    rw [upd_ne nc2]
    exact hb c o' nc e
theorem But.tp {G H : Hp} {a : Addr} {xs : List V} (b : But G H a) (hg : G a = some (.lst xs)) : Tp G H := fun c ys h => by
  have nc : c ≠ a := fun z => by
    subst z
    rcases h with h | ⟨u, h⟩ <;> rw [hg] at h <;> cases h
  rcases h with h | ⟨u, h⟩
  · exact .inl (b _ _ nc h)
  · exact .inr ⟨u, b _ _ nc h⟩
theorem ins_len (x : List Int) : ∀ l : List (List Int), (insR x l).length = l.length + 1
  | [] => rfl
  | y :: l => by
    unfold insR
    by_cases h : ltR y x = true
    · rw [if_pos h, List.length_cons, ins_len x l, List.length_cons]
    · rw [if_neg h]; rfl
theorem isort_len (l : List (List Int)) : (isort l).length = l.length := by
  induction l with
  | nil => rfl
  | cons a l ih => show (insR a (isort l)).length = _; rw [ins_len, ih]; rfl
theorem isort_mem {l : List (List Int)} {z : List Int} : z ∈ isort l ↔ z ∈ l := by
  induction l with
  | nil => exact Iff.rfl
  | cons a l ih => show z ∈ insR a (isort l) ↔ _; rw [ins_mem, ih, List.mem_cons]
theorem setOf_len {m : Nat} (h : m < 256) : (setOf m).length ≤ 8 := by
  have key : ((List.range 256).all fun m => decide ((setOf m).length ≤ 8)) = true := by decide +kernel
  have := List.all_eq_true.mp key m (List.mem_range.mpr h)
  simpa using this
def sp_levels_of (K : PySem.W.Frag) : Sp := fun vs H Q _ => ∃ (a : Addr) (ms : List Nat), vs = [.ref a] ∧ SqL K H a (ms.map nV) ∧ (∀ m ∈ ms, m < 256) ∧ (∃ t, ms = 0 :: t) ∧ ms.length ≤ 1000 ∧ ∀ p H', LevAt H' p (levelsL ms) → Same H H' → Q (.ref p) H'
theorem ok_levels_of (T : Txt K mg) : FnOk P w K mg base CX0 2 T.levels_of.f T.levels_of.fd P_levels_of (sp_levels_of K) := by
  refine T.levels_of.F.ok sc_levels_of (fun vs H Q E h => ?_) (fun cdv A outer s H vs Q E hr h => ?_)
  · obtain ⟨a, ms, rfl, _⟩ := h; rfl
  · obtain ⟨a, ms, rfl, ha, hb, h0, hl, k⟩ := h
    have hbig : 100000 < sizeLine := by decide
    refine ⟨_, (pss_cons (ps_set (i := 1) sc_levels_of.nd rfl (Or.inl rfl) (pe_lst pa_nil))
  (pss_cons (ps_for PassesOwn.never rfl (pi_list (pe_callB (r := rSortedE K) (cr_sortedE hr.units) rfl T.n_sorted bo_sorted (pa_cons (pe_lc (own := [("mask", 3)]) rfl sc_levels_of.nd (pi_list (pv 0)) (blkOk_by (own := [("mask", 3)]) (N := N_levels_of) (sc := defScope s_levels_of) (by decide +kernel)) (fun _ _ _ _ _ => (pg_name (i := 3) sc_levels_of.nd rfl (Or.inl rfl))) (fun _ _ _ _ _ => pts_nil) (fun _ _ _ _ _ => (pe_call (ok_set_of T) (hr.mono (by decide)) rfl T.set_of.g T.set_of.F.kp (b_set_of T) .nil pass0 (pa_cons (pv 3) pa_nil)))) pa_nil))) (pg_name (i := 2) sc_levels_of.nd rfl (Or.inl rfl)) (pss_cons (ps_while PassesOwn.never (pt_cmpR op_le (pe_callB (r := rLenS K) call_len_seq rfl T.n_len bo_len (pa_cons (pv 1) pa_nil)) (pe_callB (r := rLenS K) call_len_seq rfl T.n_len bo_len (pa_cons (pv 2) pa_nil)) (nomark _)) (pss_one (ps_expr (pe_bm PySem.F.plainAttrs_list PySem.F.slot_list_append PySem.F.type_list_append mt_append (pv 1) (pa_cons (pe_lst pa_nil) pa_nil)))))
  (pss_one (ps_expr (pe_bm PySem.F.plainAttrs_list PySem.F.slot_list_append PySem.F.type_list_append mt_append (pe_ix (r := rIxL K) ix_list (pv 1) (pe_callB (r := rLenS K) call_len_seq rfl T.n_len bo_len (pa_cons (pv 2) pa_nil)) (fun _ _ => rfl)) (pa_cons (pv 2) pa_nil))))))
  (pss_one (ps_ret (pv 1))))), ?_⟩
    refine ⟨Nat.zero_le _, fun lv hlv => ?_⟩
    have s1 : Same H (upd H lv (.lst [])) := same_upd hlv
    have hl1 : (upd H lv (.lst [])) lv = some (.lst []) := upd_same
    generalize upd H lv (.lst []) = H1 at *
    walk_at "rd"
    refine ⟨⟨_, sql_sm ha s1⟩, fun D hD => ?_⟩
    refine lc_gen (walk_list (K := K) (a := a) (xs := ms.map nV)) ms (fun _ => true) setOf (fun r v H' => Plain H' r v) (by rw [List.length_map]) (fun H' s => sql_sm ha (Same.trans s1 s)) hD (by rw [List.length_map]; omega) (fun r v _ _ k h => Plain.keep k h) (fun i m x Ha Hb Qn Qy hm sa y _ ht => ?_) (fun H' zs s' e' fz => ?_)
    · obtain ⟨rfl, ey⟩ := y
      rw [List.getElem?_map, hm] at ey
      cases ey
      walk_at "rd"
      exact ⟨hb m (List.mem_of_getElem? hm), fun p H4 hp s4 => ht rfl _ _ s4 ⟨p, rfl, hp⟩⟩
    · rw [filterT] at fz
      walk_at "rd"
      refine sorted_isort (R := Plain) (fun _ _ _ _ s h => h.same s) (fun _ _ _ h => h.dp) (.inl (.inl e')) fz (.inr ?_) fun p zs hp hz => ?_
      · obtain ⟨t, rfl⟩ := h0
        exact ⟨t.map setOf, rfl⟩
      have sG : Same H1 (upd H' p (.lst zs)) := Same.trans s' (same_upd hp)
      have hGp : (upd H' p (.lst zs)) p = some (.lst zs) := upd_same
      have hGl := sG _ _ hl1
      have npl : p ≠ lv := fun z => by rw [z, s' _ _ hl1] at hp; cases hp
      generalize upd H' p (.lst zs) = G at *
      have hzl := hz.1
      rw [isort_len, List.length_map] at hzl
      walk_at "rd"
      refine ⟨⟨_, .inl (.inl hGp)⟩, ?_⟩
      refine for_list (K := K) (a := p) (xs := zs) (fun j σ H' => ∃ y2, σ = [some (.ref a), some (.ref lv), y2, none] ∧ But G H' lv ∧ LevN G H' lv (((isort (ms.map setOf)).take j).foldl levPut []) ∧ (((isort (ms.map setOf)).take j).foldl levPut []).length ≤ 9 ∧ ∀ l ∈ ((isort (ms.map setOf)).take j).foldl levPut [], l.length ≤ j)
        ⟨_, rfl, fun b o _ e => e, ⟨[], hGl, rfl, List.nodup_nil, fun b hb => (nomatch hb), fun i b l hi _ => by simp at hi⟩, Nat.zero_le _, fun l hl => (nomatch hl)⟩ (fun j σ H' _ q => ?_) (fun j x σ H' hj q => ?_) (fun σ H' q => ?_)
      · obtain ⟨y2, rfl, but, _⟩ := q
        exact .inl (.inl (but _ _ npl hGp))
      · obtain ⟨y2, rfl, but, lev, hL9, hLj⟩ := q
        have hjz : j < (isort (ms.map setOf)).length := by rw [← hz.1]; exact (List.getElem?_eq_some_iff.mp hj).1
        obtain ⟨r, hr2⟩ : ∃ r, (isort (ms.map setOf))[j]? = some r := ⟨_, List.getElem?_eq_getElem hjz⟩
        obtain ⟨ar, rfl, har⟩ := hz.2 j r x hr2 hj
        have hrm : r.length ≤ 8 := by
          have := isort_mem.mp (List.mem_of_getElem? hr2)
          obtain ⟨m, hm, rfl⟩ := List.mem_map.mp this
          exact setOf_len (hb m hm)
        have hj1000 : j < 1000 := by have := (List.getElem?_eq_some_iff.mp hj).1; omega
        have et : ((isort (ms.map setOf)).take (j + 1)).foldl levPut [] = levPut (((isort (ms.map setOf)).take j).foldl levPut []) r := by rw [List.take_add_one, hr2, List.foldl_append]; rfl
        rw [et]
        generalize ((isort (ms.map setOf)).take j).foldl levPut [] = L at *
        walk_at "rd"
        refine while_by (fun σ H5 => ∃ i : Nat, σ = [some (.ref a), some (.ref lv), some (.ref ar), none] ∧ But G H5 lv ∧ LevN G H5 lv (L ++ List.replicate i []) ∧ (i = 0 ∨ L.length + i ≤ r.length + 1)) (fun _ H5 => match H5 lv with | some (.lst xs) => 1000 - xs.length | _ => 0) ⟨0, rfl, but, by rw [List.replicate_zero, List.append_nil]; exact lev, .inl rfl⟩ ?_ ?_
        · rintro σ H5 ⟨i, rfl, but5, lev5, hi⟩
          obtain ⟨xs, hxs, hxl⟩ := lev5.len
          rw [List.length_append, List.length_replicate] at hxl
          have har5' : H5 ar = some (.tup (r.map V.int)) := but5 _ _ (fun z => by rw [z, hGl] at har; cases har) har
          have har5 : SqT K H5 ar (r.map V.int) := .inl (.inl har5')
          walk_at "rd"
          rw [List.length_map]
          refine iteD (fun hle => ?_) (fun hle => ?_)
          · walk_at "rd"
            refine ⟨.inl ⟨rfl, _, .inl (.inl hxs)⟩, Nat.zero_le _, fun D hD => ?_⟩
            have nD : lv ≠ D := fun z => by rw [← z, hxs] at hD; cases hD
            refine ⟨lv, xs, .ref D, rfl, rfl, (upd_ne nD).trans hxs, by omega, ?_⟩
            obtain ⟨q1, q2⟩ := lev5.push hGl but5 hD hxs
            rw [List.append_assoc, ← List.replicate_succ'] at q1
            refine ⟨⟨i + 1, rfl, q2, q1, .inr (by omega)⟩, ?_⟩
            rw [upd_same, hxs]
            show 1000 - (xs ++ [V.ref D]).length < 1000 - xs.length
            rw [List.length_append, List.length_singleton]
            omega
          · dsimp only
            walk_at "rd"
            obtain ⟨as, z1, z2, z3, z4, z5⟩ := id lev5
            rw [hxs] at z1
            have ex : xs = as.map V.ref := HO.lst.inj (Option.some.inj z1)
            subst ex
            rw [List.length_map] at hxl
            have hlt : r.length < as.length := by rw [List.length_map] at hle; omega
            have hli : (as.map V.ref)[r.length]? = some (V.ref as[r.length]) := by rw [List.getElem?_map, List.getElem?_eq_getElem hlt]; rfl
            obtain ⟨ys, hy, dpy⟩ := z5 r.length as[r.length] _ (List.getElem?_eq_getElem hlt) (List.getElem?_eq_getElem (by rw [← z2]; exact hlt))
            have hMj : ∀ l ∈ L ++ List.replicate i [], l.length ≤ j := fun l hl => by
              rcases List.mem_append.mp hl with z | z
              · exact hLj l z
              · rw [List.eq_of_mem_replicate z]; exact Nat.zero_le _
            have hylen : ys.length ≤ j := by rw [dpy.1]; exact hMj _ (List.getElem_mem _)
            have ei : i = r.length + 1 - L.length := by rw [List.length_map] at hle; omega
            refine ⟨lv, _, _, _, rfl, rfl, .inl (.inl hxs), (by rw [List.length_map]; exact atI_nat hli), ?_⟩
            refine ⟨.inl ⟨rfl, _, .inl (.inl hy)⟩, ?_⟩
            walk_at "rd"
            refine ⟨_, ys, .ref ar, rfl, rfl, hy, by omega, ?_⟩
            obtain ⟨q1, q2⟩ := lev5.add hGl but5 hxs (List.getElem?_eq_getElem hlt) hy ⟨ar, rfl, har5'⟩
            have el : levPut L r = (L ++ List.replicate i []).modify r.length (· ++ [r]) := by rw [ei]; rfl
            refine ⟨_, rfl, q2, by rw [el]; exact q1, ?_, fun l hl => ?_⟩
            · rw [el, List.length_modify, List.length_append, List.length_replicate]
              omega
            · rw [el] at hl
              obtain ⟨n, hn, e⟩ := List.getElem_of_mem hl
              rw [List.getElem_modify] at e
              have hb0 := hMj _ (List.getElem_mem (by rw [List.length_modify] at hn; exact hn))
              split at e <;> subst e
              · rw [List.length_append, List.length_singleton]; omega
              · omega
        · intro σ H5 Q1 Q2 hm h
          obtain ⟨v1, e1, p1, ys1, ex1, q1, v2, e2, p2, ys2, ex2, q2, i, j, e3, e4, b, e5, q⟩ := h
          exact ⟨v1, e1, p1, ys1, ex1, q1, v2, e2, p2, ys2, ex2, q2, i, j, e3, e4, b, e5, hm _ _ q⟩
      · obtain ⟨y2, rfl, but, lev, hL9, hLj⟩ := q
        rw [show (isort (ms.map setOf)).take zs.length = isort (ms.map setOf) by rw [List.take_of_length_le]; rw [isort_len, List.length_map]; omega] at lev
        walk_at "rd"
        refine k lv H' (lev.at hGl) fun b o e => ?_
        exact but b o (fun z => by rw [z, hlv] at e; cases e) (sG _ _ (s1 _ _ e))
end

/-! ### sets, complexes: checks -/
structure GoodC (n : Nat) (rs : List (List Int)) : Prop where
  len : rs.length ≤ 70
  rows : ∀ r ∈ rs, RowOk n r
  asc : ∀ i, i + 1 < rs.length → ltR (rs.getD i []) (rs.getD (i + 1) []) = true
  most : (greatM (rs.map maskOf)).length = rs.length
theorem RowOk.mono {n m : Nat} {r : List Int} (h : RowOk n r) (hm : n ≤ m) : RowOk m r := ⟨h.1, fun p hp => ⟨(h.2 p hp).1, by have := (h.2 p hp).2; omega⟩⟩
section
variable {P : Program} {w : World} {K : PySem.W.Frag} {mg : Str → Option Value} {base : Heap}
def sp_is_complex (t : TabsAt) (K : PySem.W.Frag) : Sp := fun vs H Q _ => ∃ (n : Nat) (a : Addr) (rs : List (List Int)), vs = [.int n, .ref a] ∧ n ≤ 8 ∧ Dp K H (.ref a) (rsD rs) ∧ GoodC n rs ∧ TS t H ∧ ∀ H', Ex t H H' → Q (.bl true) H'
theorem ok_is_complex (T : Txt K mg) {t : TabsAt} (B : TBs T base t) : FnOk P w K mg base CX0 15 T.is_complex.f T.is_complex.fd P_is_complex (sp_is_complex t K) := by
  refine okC T.is_complex.F B.h_is_complex sc_is_complex (fun vs H Q E h => ?_) (fun A outer s H vs Q E hr h => ?_)
  · obtain ⟨n, a, rs, rfl, _⟩ := h; rfl
  · obtain ⟨n, a, rs, rfl, hn, ha, hg, ts, k⟩ := h
    obtain ⟨a', xs, e0, hx, hd⟩ := rows_tup ha
    cases e0
    have hxl := rows_list hd
    refine ⟨_, (pss_cons (ps_if (PW.pt (pw_or (pt_not (pt_val (pe_call (ok_is_tuple_up_to T) (hr.mono (by decide)) rfl T.is_tuple_up_to.g T.is_tuple_up_to.F.kp (b_is_tuple_up_to T) .nil pass0 (pa_cons (pv 1) (pa_cons (pe_glob rfl T.g_MOST_SETS (v := .int 70) ⟨_, rfl⟩) pa_nil))))) (pw_or1 (pt_not (pt_val (pe_allR (ys := ([] : List Str)) (own := [("places", 3)]) (vs := [3]) sc_is_complex.nd (by decide) hr rfl T.n_all bo_all B.b_is_complex rfl (gxOk_by (N := N_is_complex) (sc := defScope s_is_complex) (own := [("places", 3)]) (by decide +kernel)) (pi_tup (pv 1)) (fun _ _ _ _ _ _ _ _ hr => (pg_name (i := 3) (show List.Nodup (N_is_complex ++ ([] : List Str)) by decide +kernel) rfl (Or.inl rfl))) (fun _ _ _ _ _ _ _ _ hr => (pe_call (ok_is_row_of_indexes T B) (hr.mono (by decide)) rfl T.is_row_of_indexes.g T.is_row_of_indexes.F.kp (b_is_row_of_indexes T) .nil pass0 (pa_cons (pv 3) (pa_cons (pv 0) pa_nil)))) (fun _ => rfl))))))) (pss_one (ps_ret pe_bl)) pss_nil)
  (pss_cons (ps_if (pt_not (pt_val (pe_allR (ys := (["k"] : List Str)) (own := []) (vs := [4]) sc_is_complex.nd (by decide) hr rfl T.n_all bo_all B.b_is_complex rfl (gxOk_by (N := N_is_complex) (sc := defScope s_is_complex) (own := []) (by decide +kernel)) (pi_range1 rfl T.n_range (pa_cons (pe_op op_sub (pe_callB (r := rLenS K) call_len_seq rfl T.n_len bo_len (pa_cons (pv 1) pa_nil)) pe_int) pa_nil)) (fun _ _ _ _ _ _ _ _ hr => (pg_name (i := 4) (show List.Nodup (N_is_complex ++ (["k"] : List Str)) by decide +kernel) rfl (Or.inl rfl))) (fun _ _ _ _ _ _ _ _ hr => (pe_cmpR (r := rLtT K) (op_ltT hr.units0) (pe_ix (r := rIxT K) ix_tup (pv 1) (pv 4) (fun _ _ => rfl)) (pe_ix (r := rIxT K) ix_tup (pv 1) (pe_op op_add (pv 4) pe_int) (fun _ _ => rfl)) (nomark _))) (fun _ => rfl)))) (pss_one (ps_ret pe_bl)) pss_nil)
  (pss_cons (ps_setLc (i := 2) (own := [("places", 3)]) rfl sc_is_complex.nd rfl rfl (sw_true rfl rfl rfl (by decide +kernel)) (pi_tup (pv 1)) (blkOk_by (own := [("places", 3)]) (N := N_is_complex) (sc := defScope s_is_complex) (by decide +kernel)) (fun _ _ _ _ _ => (pg_name (i := 3) sc_is_complex.nd rfl (Or.inl rfl))) (fun _ _ _ _ _ => pts_nil) (fun _ _ _ _ _ => (pe_call (ok_mask_of T) (hr.mono (by decide)) rfl T.mask_of.g T.mask_of.F.kp (b_mask_of T) .nil pass0 (pa_cons (pv 3) pa_nil))))
  (pss_one (ps_ret (pe_cmpR op_eq (pe_callB (r := rLenS K) call_len_seq rfl T.n_len bo_len (pa_cons (pe_call (ok_greatest T) (hr.mono (by decide)) rfl T.greatest.g T.greatest.F.kp (b_greatest T) .nil pass0 (pa_cons (pv 2) pa_nil)) pa_nil)) (pe_callB (r := rLenS K) call_len_seq rfl T.n_len bo_len (pa_cons (pv 2) pa_nil)) (nomark _))))))), ?_⟩
    walk_at "rd"
    refine ⟨a, 70, xs, rfl, hx, ?_⟩
    rw [decide_eq_true (show (xs.length : Int) ≤ 70 by have := hg.len; omega)]
    refine ⟨_, rfl, ?_⟩
    walk_at "rd"
    refine ⟨⟨_, hx⟩, ts.g _ gx_ic, fun H2 e2 => ?_⟩
    have x2 : Ex t H H2 := Ex.tab ts gx_ic lx_ic e2
    refine gx_tup (Pv := fun i H' => Ex t H H') x2 (fun i H' _ x => (tp_ext x.keep).sqt hx) (fun i v H' hv x => ?_) (fun H3 x3 => ?_)
    · obtain ⟨p, r, hr', rfl, hp⟩ := row_at hd hv
      have hrow := hg.rows r (List.mem_of_getElem? hr')
      walk_at "rd"
      refine ⟨p, n, r, rfl, (tp_ext x.keep).sqt hp, hrow, by have := row_small hrow; omega, x.ts, fun H4 x4 => ?_⟩
      exact ⟨_, rfl, fun z => (by cases z), fun _ => x.trans x4⟩
    · have hx3 := (tp_ext x3.keep).sqt hx
      have hd3 := DpAll.tp (tp_ext x3.keep) _ _ (tOnly_rows _) hd
      refine ⟨_, rfl, ?_⟩
      walk_at "rd"
      refine ⟨a, xs, rfl, .inr hx3, ?_⟩
      walk_at "rd"
      have hlen := hg.len
      refine ⟨(show (-2 ^ 62 : Int) ≤ (xs.length : Int) - 1 by omega), (show (xs.length : Int) - 1 < 2 ^ 62 by omega), x3.ts.g _ gx_ic, fun H4 e4 => ?_⟩
      have x4 : Ex t H H4 := x3.trans (Ex.tab x3.ts gx_ic lx_ic e4)
      refine gx_range (Pv := fun i H' => Ex t H H') x4 (fun i H' hi x => ?_) (fun H5 x5 => ?_)
      · have hi' : i + 1 < xs.length := by omega
        have hx' := (tp_ext x.keep).sqt hx
        have hd' := DpAll.tp (tp_ext x.keep) _ _ (tOnly_rows _) hd
        obtain ⟨p1, r1, hr1, ep1, hp1⟩ := row_at hd' (List.getElem?_eq_getElem (show i < xs.length by omega))
        obtain ⟨p2, r2, hr2, ep2, hp2⟩ := row_at hd' (List.getElem?_eq_getElem hi')
        walk_at "rd"
        refine ⟨_, _, _, _, rfl, rfl, hx', at_of (show (0 : Int) + (i : Int) = ((i : Nat) : Int) by omega) ((List.getElem?_eq_getElem (show i < xs.length by omega)).trans (congrArg some ep1)), ?_⟩
        walk_at "rd"
        refine ⟨_, _, _, _, rfl, rfl, hx', at_of (show (0 : Int) + (i : Int) + 1 = ((i + 1 : Nat) : Int) by omega) ((List.getElem?_eq_getElem hi').trans (congrArg some ep2)), ?_⟩
        refine ⟨p1, p2, r1, r2, rfl, rfl, hp1, hp2, ?_⟩
        have hasc := hg.asc i (by omega)
        rw [List.getD_eq_getElem?_getD, List.getD_eq_getElem?_getD, hr1, hr2] at hasc
        rw [lt_lex, show ltR r1 r2 = true from hasc]
        exact ⟨_, rfl, fun z => (by cases z), fun _ => x⟩
      · have hx5 := (tp_ext x5.keep).sqt hx
        have hd5 := DpAll.tp (tp_ext x5.keep) _ _ (tOnly_rows _) hd
        walk_at "rd"
        refine ⟨⟨_, hx5⟩, fun D hD => ?_⟩
        refine lc_gen (walk_tup (K := K) (a := a) (xs := xs)) rs (fun _ => true) maskOf (fun m v _ => v = nV m) hxl.symm (fun H' s => Toy.Same.tup s hx5) hD (by omega) (fun _ _ _ _ _ h => h) (fun i r x Ha Hb Qn Qy hr' sa y _ ht => ?_) (fun H' zs s' e' fz => ?_)
        · obtain ⟨rfl, ey⟩ := y
          obtain ⟨p, r', hr2, rfl, hp⟩ := row_at hd5 ey
          rw [hr'] at hr2
          cases hr2
          walk_at "rd"
          exact ⟨p, r, rfl, Toy.Same.tup sa hp, (hg.rows r (List.mem_of_getElem? hr')).mono hn, fun H4 s4 => ht rfl _ _ s4 rfl⟩
        · have ez := fz.map (g := nV)
          rw [filterT] at ez
          rw [ez] at e'
          walk_at "rd"
          refine ⟨D, rs.map maskOf, rfl, .inl (.inl e'), by rw [List.length_map]; omega, fun p H6 hp e6 s6 => ?_⟩
          walk_at "rd"
          refine ⟨D, _, rfl, .inl (.inl (.inl (s6 _ _ e'))), ?_⟩
          walk_at "rd"
          rw [List.length_map, List.length_map, List.length_map, vdec, hg.most, decide_eq_true rfl]
          exact k _ (x5.same (Same.trans s' s6))
def sp_check_sets (t : TabsAt) (K : PySem.W.Frag) : Sp := fun vs H Q _ => ∃ (n : Nat) (a : Addr) (rs : List (List Int)), vs = [.int n, .ref a] ∧ 1 ≤ n ∧ n ≤ 8 ∧ Dp K H (.ref a) (rsD rs) ∧ (∀ r ∈ rs, RowOk n r) ∧ rs.length ≤ 70 ∧ TS t H ∧ ∀ H', Ex t H H' → Q .non H'
theorem ok_check_sets (T : Txt K mg) {t : TabsAt} (B : TBs T base t) : FnOk P w K mg base CX0 15 T.check_sets.f T.check_sets.fd P_check_sets (sp_check_sets t K) := by
  refine T.check_sets.F.ok sc_check_sets (fun vs H Q E h => ?_) (fun cdv A outer s H vs Q E hr h => ?_)
  · obtain ⟨n, a, rs, rfl, _⟩ := h; rfl
  · obtain ⟨n, a, rs, rfl, hn1, hn, ha, hg, hl, ts, k⟩ := h
    obtain ⟨a', xs, e0, hx, hd⟩ := rows_tup ha
    cases e0
    have hxl := rows_list hd
    refine ⟨_, (pss_cons (ps_expr (pe_call (ok_check_many T) (hr.mono (by decide)) rfl T.check_many.g T.check_many.F.kp (b_check_many T) .nil pass0 (pa_cons (pv 0) pa_nil)))
  (pss_cons (ps_if (pt_not (pt_val (pe_call (ok_is_tuple_up_to T) (hr.mono (by decide)) rfl T.is_tuple_up_to.g T.is_tuple_up_to.F.kp (b_is_tuple_up_to T) .nil pass0 (pa_cons (pv 1) (pa_cons (pe_glob rfl T.g_MOST_SETS (v := .int 70) ⟨_, rfl⟩) pa_nil))))) (pss_one ps_never) pss_nil)
  (pss_one (ps_for PassesOwn.never rfl (pi_enumT rfl T.n_enumerate (pa_cons (pv 1) pa_nil)) (pg_tup rfl (pgs_cons (pg_name (i := 2) sc_check_sets.nd rfl (Or.inl rfl)) (pgs_cons (pg_name (i := 3) sc_check_sets.nd rfl (Or.inl rfl)) pgs_nil))) (pss_one (ps_if (pt_not (pt_val (pe_call (ok_is_row_of_indexes T B) (hr.mono (by decide)) rfl T.is_row_of_indexes.g T.is_row_of_indexes.F.kp (b_is_row_of_indexes T) .nil pass0 (pa_cons (pv 3) (pa_cons (pv 0) pa_nil))))) (pss_one ps_never) pss_nil)))))), ?_⟩
    walk_at "rd"
    refine ⟨by omega, ?_⟩
    dsimp only
    walk_at "rd"
    refine ⟨a, 70, xs, rfl, hx, ?_⟩
    rw [decide_eq_true (show (xs.length : Int) ≤ 70 by omega)]
    refine ⟨_, rfl, ?_⟩
    walk_at "rd"
    refine ⟨_, _, rfl, hx, ?_⟩
    refine for_it walk_enumT (fun i σ H' => Ex t H H' ∧ ∃ y2 y3, σ = [some (.int n), some (.ref a), y2, y3]) ⟨.of ts (Same.refl _), none, none, rfl⟩ (fun i σ H' _ q => (tp_ext q.1.keep).sqt hx) (fun i x σ H' H2 hi q y => ?_) (fun σ H' q => ?_)
    · obtain ⟨x1, y2, y3, rfl⟩ := q
      obtain ⟨Tt, kx, vx, rfl, q1, rfl, e1, e2⟩ := y
      obtain ⟨p, r, hr', rfl, hp⟩ := row_at hd e2
      have hrow := hg r (List.mem_of_getElem? hr')
      have s5 := same_upd (o := .tup [kx, V.ref p]) q1
      refine ⟨Tt, _, rfl, .inl (.inl upd_same), rfl, ?_⟩
      walk_at "rd"
      have x5 := x1.same s5
      refine ⟨p, n, r, rfl, (tp_ext x5.keep).sqt hp, hrow, by have := row_small hrow; omega, x5.ts, fun H4 x4 => ?_⟩
      refine ⟨_, rfl, ?_⟩
      walk_at "rd"
      exact ⟨x5.trans x4, _, _, rfl⟩
    · obtain ⟨x1, y2, y3, rfl⟩ := q
      exact k _ x1
def sp_check_complex (t : TabsAt) (K : PySem.W.Frag) : Sp := fun vs H Q _ => ∃ (n : Nat) (a : Addr) (rs : List (List Int)), vs = [.int n, .ref a] ∧ 1 ≤ n ∧ n ≤ 8 ∧ Dp K H (.ref a) (rsD rs) ∧ GoodC n rs ∧ TS t H ∧ ∀ H', Ex t H H' → Q .non H'
theorem ok_check_complex (T : Txt K mg) {t : TabsAt} (B : TBs T base t) : FnOk P w K mg base CX0 16 T.check_complex.f T.check_complex.fd P_check_complex (sp_check_complex t K) := by
  refine T.check_complex.F.ok sc_check_complex (fun vs H Q E h => ?_) (fun cdv A outer s H vs Q E hr h => ?_)
  · obtain ⟨n, a, rs, rfl, _⟩ := h; rfl
  · obtain ⟨n, a, rs, rfl, hn1, hn, ha, hg, ts, k⟩ := h
    refine ⟨_, (pss_cons (ps_expr (pe_call (ok_check_many T) (hr.mono (by decide)) rfl T.check_many.g T.check_many.F.kp (b_check_many T) .nil pass0 (pa_cons (pv 0) pa_nil)))
  (pss_one (ps_if (pt_not (pt_val (pe_call (ok_is_complex T B) (hr.mono (by decide)) rfl T.is_complex.g T.is_complex.F.kp (b_is_complex T) .nil pass0 (pa_cons (pv 0) (pa_cons (pv 1) pa_nil))))) (pss_one ps_never) pss_nil))), ?_⟩
    walk_at "rd"
    refine ⟨by omega, ?_⟩
    dsimp only
    walk_at "rd"
    refine ⟨n, a, rs, rfl, hn, ha, hg, ts, fun H2 x2 => ?_⟩
    refine ⟨_, rfl, ?_⟩
    walk_at "rd"
    exact k _ x2
def sp_nonfaces (t : TabsAt) (K : PySem.W.Frag) : Sp := fun vs H Q _ => ∃ (n : Nat) (a : Addr) (rs : List (List Int)), vs = [.int n, .ref a] ∧ 1 ≤ n ∧ n ≤ 8 ∧ Dp K H (.ref a) (rsD rs) ∧ GoodC n rs ∧ (∀ m ∈ nonfM n rs, m ≠ 0) ∧ TS t H ∧ ∀ p H', Ex t H H' → Dp K H' (.ref p) (rsD (isort ((nonfM n rs).map setOf))) → Q (.ref p) H'
theorem nonf_lt {n : Nat} (hn : n ≤ 8) {rs : List (List Int)} {m : Nat} (h : m ∈ nonfM n rs) : m < 256 := by
  unfold nonfM leastM nonfC at h
  have h1 := List.mem_range.mp (List.mem_filter.mp (List.mem_filter.mp h).1).1
  have : 2 ^ n ≤ 256 := Nat.pow_le_pow_right (by decide) hn
  omega
theorem nonf_len {n : Nat} (hn : n ≤ 8) (rs : List (List Int)) : (nonfM n rs).length ≤ 256 := by
  unfold nonfM leastM nonfC
  refine Nat.le_trans (List.length_filter_le _ _) (Nat.le_trans (List.length_filter_le _ _) ?_)
  rw [List.length_range]
  exact Nat.pow_le_pow_right (by decide) hn
theorem ok_nonfaces (T : Txt K mg) {t : TabsAt} (B : TBs T base t) : FnOk P w K mg base CX0 17 T.nonfaces.f T.nonfaces.fd P_nonfaces (sp_nonfaces t K) := by
  refine T.nonfaces.F.ok sc_nonfaces (fun vs H Q E h => ?_) (fun cdv A outer s H vs Q E hr h => ?_)
  · obtain ⟨n, a, rs, rfl, _⟩ := h; rfl
  · obtain ⟨n, a, rs, rfl, hn1, hn, ha, hg, h0, ts, k⟩ := h
    refine ⟨_, (pss_cons (ps_expr (pe_call (ok_check_complex T B) (hr.mono (by decide)) rfl T.check_complex.g T.check_complex.F.kp (b_check_complex T) .nil pass0 (pa_cons (pv 0) (pa_cons (pv 1) pa_nil))))
  (pss_one (ps_ret (pe_call (ok_sets_of T) (hr.mono (by decide)) rfl T.sets_of.g T.sets_of.F.kp (b_sets_of T) .nil pass0 (pa_cons (pe_call (ok_nonface_masks T) (hr.mono (by decide)) rfl T.nonface_masks.g T.nonface_masks.F.kp (b_nonface_masks T) .nil pass0 (pa_cons (pv 0) (pa_cons (pv 1) pa_nil))) pa_nil))))), ?_⟩
    walk_at "rd"
    refine ⟨n, a, rs, rfl, hn1, hn, ha, hg, ts, fun H2 x2 => ?_⟩
    walk_at "rd"
    refine ⟨n, a, rs, rfl, hn, Dp.tp (tp_ext x2.keep) _ _ (tOnly_rows _) ha, fun r hr => (hg.rows r hr).mono hn, by have := hg.len; omega, fun p H3 hp e3 s3 => ?_⟩
    walk_at "rd"
    refine ⟨p, nonfM n rs, rfl, .inl (.inl e3), fun m hm => ⟨nonf_lt hn hm, h0 m hm⟩, by have := nonf_len hn rs; omega, fun q H4 hq s4 => ?_⟩
    exact k q H4 (x2.same (Same.trans s3 s4)) hq
end

/-! ### borders -/
/-- the index of a level's sets -/
def kvT (below : List (List Int)) : List (List L2.Key × V) := below.zipIdx.map fun e => (e.1.map (fun i => (Sum.inl i : L2.Key)), V.int (e.2 : Int))
theorem valV_kvT (r : List Int) : ∀ (below : List (List Int)) (n : Nat), valV ((below.zipIdx n).map fun e => (e.1.map (fun i => (Sum.inl i : L2.Key)), V.int (e.2 : Int))) (r.map fun i => (Sum.inl i : L2.Key)) = (idxR below r).map fun k => V.int ((k + n : Nat) : Int)
  | [], n => rfl
  | b :: l, n => by
    rw [List.zipIdx_cons, List.map_cons]
    have ih := valV_kvT r l (n + 1)
    unfold valV at ih ⊢
    unfold idxR
    rw [List.find?_cons]
    by_cases h : b = r
    · subst h
      rw [if_pos rfl]
      simp
    · rw [if_neg h]
      have hne : b.map (fun i => (Sum.inl i : L2.Key)) ≠ r.map (fun i => (Sum.inl i : L2.Key)) := fun z => h ((List.map_inj_right fun x y e => Sum.inl.inj e).mp z)
      simp only [decide_eq_false hne]
      rw [ih, Option.map_map]
      congr 1
      funext k
      exact congrArg V.int (by show ((k + (n + 1) : Nat) : Int) = ((k + 1 + n : Nat) : Int); omega)
def bordS (r : List Int) (below : List (List Int)) (D : IT2) (i : Nat) : Option IT2 := match idxR below (r.eraseIdx i) with
  | none => none
  | some k => some (putD2 D (k : Int) (if i % 2 = 0 then 1 else -1))
theorem border_at {r : List Int} {below : List (List Int)} {D Dj : IT2} {j : Nat} (h : borderO r below = some D) (hj : j < r.length) (hd : (List.range j).foldlM (bordS r below) [] = some Dj) :
    ∃ k, idxR below (r.eraseIdx j) = some k ∧ (List.range (j + 1)).foldlM (bordS r below) [] = some (putD2 Dj (k : Int) (if j % 2 = 0 then 1 else -1)) := by
  have h' : (List.range r.length).foldlM (bordS r below) [] = some D := h
  have ht : (List.range r.length).take j = List.range j := by rw [List.take_range]; congr 1; omega
  have ht' : (List.range r.length).take (j + 1) = List.range (j + 1) := by rw [List.take_range]; congr 1; omega
  obtain ⟨m, h1, h2⟩ := foldlM_at h' (List.getElem?_range hj) (by rw [ht]; exact hd)
  rw [ht'] at h2
  unfold bordS at h1
  cases c : idxR below (r.eraseIdx j) with
  | none => rw [c] at h1; cases h1
  | some k =>
    rw [c] at h1
    refine ⟨k, rfl, ?_⟩
    rw [h2, ← h1]
/-- t + u of tuples that stand by themselves -/
theorem catP {K : PySem.W.Frag} {H : Hp} {a b : Addr} {xs ys : List V} {Q : VK} (ha : H a = some (.tup xs)) (hb : H b = some (.tup ys)) (hz : xs.length + ys.length ≤ sizeLine) (h : ∀ p H', Same H H' → H' p = some (.tup (xs ++ ys)) → Q (.ref p) H') : rCatA K (.ref a) (.ref b) H Q := by
  refine ⟨a, b, xs, ys, rfl, rfl, .inl (.inl ha), .inl (.inl hb), hz, fun e => ?_, fun _ e => ?_, fun _ _ p hp => h p _ (same_upd hp) upd_same⟩
  · subst e; exact h b H (Same.refl _) hb
  · subst e; exact h a H (Same.refl _) (by rw [List.append_nil]; exact ha)
section
variable {P : Program} {w : World} {K : PySem.W.Frag} {mg : Str → Option Value} {base : Heap}
def sp_border (K : PySem.W.Frag) : Sp := fun vs H Q _ => ∃ (a d : Addr) (r : List Int) (below : List (List Int)) (D : IT2), vs = [.ref a, .ref d] ∧ SqT K H a (r.map V.int) ∧ H d = some (.dT (kvT below)) ∧ r.length ≤ 8 ∧ below.length ≤ 1000 ∧ borderO r below = some D ∧ ∀ p H', H p = none → H' p = some (.dK (kvI D)) → NdI D → Same H H' → Q (.ref p) H'
theorem ok_border (T : Txt K mg) : FnOk P w K mg base CX0 1 T.border.f T.border.fd P_border (sp_border K) := by
  refine T.border.F.ok sc_border (fun vs H Q E h => ?_) (fun cdv A outer s H vs Q E hr h => ?_)
  · obtain ⟨a, d, r, below, D, rfl, _⟩ := h; rfl
  · obtain ⟨a, d, r, below, D, rfl, ha, hd, hr8, hl, hD, k⟩ := h
    refine ⟨_, (pss_cons (ps_set (i := 2) sc_border.nd rfl (Or.inl rfl) pe_dnewK)
  (pss_cons (ps_set (i := 3) sc_border.nd rfl (Or.inl rfl) pe_int)
  (pss_cons (ps_for PassesOwn.never rfl (pi_range1 rfl T.n_range (pa_cons (pe_callB (r := rLenS K) call_len_seq rfl T.n_len bo_len (pa_cons (pv 0) pa_nil)) pa_nil)) (pg_name (i := 4) sc_border.nd rfl (Or.inl rfl)) (pss_cons (ps_dput (Nat.lt_of_le_of_lt (Nat.add_le_add_left (show 1 ≤ 64 by decide) _) hr.units) (pv 2) (pe_dget (Nat.lt_of_le_of_lt (Nat.add_le_add_left (show 1 ≤ 64 by decide) _) hr.units) (pv 1) (pe_op (r := rCatA K) op_catA (pe_slice (r := rSlT K) sl_tup (pv 0) po_none (po_some (pv 4))) (pe_slice (r := rSlT K) sl_tup (pv 0) (po_some (pe_op op_add (pv 4) pe_int)) po_none)) (fun _ _ => rfl)) (pv 3) rfl)
  (pss_one (ps_set (i := 3) sc_border.nd rfl (Or.inl rfl) (pe_un un_neg (pv 3))))))
  (pss_one (ps_ret (pv 2)))))), ?_⟩
    refine fun row hrow => ?_
    have s1 : Same H (upd H row (.dK [])) := same_upd hrow
    have h1 : (upd H row (.dK [])) row = some (.dK []) := upd_same
    generalize upd H row (.dK []) = H1 at *
    have ha1 := Toy.Same.tup s1 ha
    walk_at "rd"
    refine ⟨a, _, rfl, .inr ha1, ?_⟩
    rw [List.length_map]
    walk_at "rd"
    refine ⟨by omega, by omega, ?_⟩
    rw [Int.toNat_natCast]
    have hline : 8 < sizeLine := by decide
    refine for_it walk_range (fun j σ H' => ∃ (Dj : IT2) (y4 : Option V), σ = [some (.ref a), some (.ref d), some (.ref row), some (.int (if j % 2 = 0 then 1 else -1)), y4] ∧ Same H H' ∧ H' row = some (.dK (kvI Dj)) ∧ NdI Dj ∧ Dj.length ≤ j ∧ (List.range j).foldlM (bordS r below) [] = some Dj) ⟨[], none, rfl, s1, h1, List.nodup_nil, Nat.le_refl _, rfl⟩ (fun j σ H' _ q => trivial) (fun j x σ H' H2 hj q y => ?_) (fun σ H' q => ?_)
    · obtain ⟨Dj, y4, rfl, s', hrj, hnd, hlj, hDj⟩ := q
      obtain ⟨rfl, rfl⟩ := y
      obtain ⟨kk, hkk, hDn⟩ := border_at hD hj hDj
      have ha' := Toy.Same.tup s' ha
      have hd' := s' _ _ hd
      have e0 : (0 : Int) + (j : Int) = ((j : Nat) : Int) := Int.zero_add _
      have e1 : (j : Int) + 1 = ((j + 1 : Nat) : Int) := rfl
      dsimp only
      rw [e0]
      have s0 : HT.sIx (r.map V.int).length 0 none = 0 := rfl
      have sj : HT.sIx (r.map V.int).length (r.map V.int).length (some (j : Int)) = j := by rw [HT.sIx_nat, List.length_map]; omega
      have sn : HT.sIx (r.map V.int).length (r.map V.int).length none = r.length := List.length_map ..
      have sj1 : HT.sIx (r.map V.int).length 0 (some ((j + 1 : Nat) : Int)) = j + 1 := by rw [HT.sIx_nat, List.length_map]; omega
      walk_at "rd"
      refine ⟨a, _, rfl, ha', by rw [s0, sj, List.length_map]; omega, fun p hp => ?_⟩
      have c1 : cutV (r.map V.int) none (some (j : Int)) = (r.take j).map V.int := by
        unfold cutV
        rw [s0, sj, List.drop_zero, Nat.sub_zero, List.map_take]
      rw [c1]
      have t1 := same_upd (o := .tup ((r.take j).map V.int)) hp
      have hp1 : (upd H2 p (.tup ((r.take j).map V.int))) p = some (.tup ((r.take j).map V.int)) := upd_same
      generalize upd H2 p (.tup ((r.take j).map V.int)) = H3 at *
      walk_at "rd"
      rw [e1]
      refine ⟨a, _, rfl, Toy.Same.tup t1 ha', by rw [sj1]; omega, fun q hq => ?_⟩
      have c2 : cutV (r.map V.int) (some ((j + 1 : Nat) : Int)) none = (r.drop (j + 1)).map V.int := by
        unfold cutV
        rw [sj1, sn, ← List.map_drop, List.take_of_length_le (by rw [List.length_map, List.length_drop]; omega)]
      rw [c2]
      have t2 := same_upd (o := .tup ((r.drop (j + 1)).map V.int)) hq
      have hq1 : (upd H3 q (.tup ((r.drop (j + 1)).map V.int))) q = some (.tup ((r.drop (j + 1)).map V.int)) := upd_same
      generalize upd H3 q (.tup ((r.drop (j + 1)).map V.int)) = H4 at *
      refine catP (t2 _ _ hp1) hq1 (by simp only [List.length_map, List.length_take, List.length_drop]; omega) fun u H5 s5 e5 => ?_
      have t5 := Same.trans t1 (Same.trans t2 s5)
      have hd5 := t5 _ _ hd'
      have hr5 := t5 _ _ hrj
      have ek : (r.take j).map V.int ++ (r.drop (j + 1)).map V.int = ((r.eraseIdx j).map fun i => (Sum.inl i : L2.Key)).map kV := by
        rw [← List.map_append, ← List.eraseIdx_eq_take_drop_succ, List.map_map]
        rfl
      rw [ek] at e5
      have hg := DGet.t hd5 e5
      have hv : valV (kvT below) ((r.eraseIdx j).map fun i => (Sum.inl i : L2.Key)) = some (V.int (kk : Int)) := by
        have := valV_kvT (r.eraseIdx j) below 0
        rw [hkk] at this
        exact this
      rw [hv] at hg
      refine ⟨d, _, rfl, hg, ?_⟩
      refine ⟨row, _, rfl, DPut.k (k := Sum.inl (kk : Int)) hr5 (by rw [kvI_len]; omega), ?_⟩
      walk_at "rd"
      refine ⟨putD2 Dj (kk : Int) (if j % 2 = 0 then 1 else -1), some (.int (j : Int)), ?_, same_put hrow (Same.trans s' t5), by rw [upd_same, kvI_put hnd], putD2_nd hnd, by have := putD2_len (k := (kk : Int)) (v := if j % 2 = 0 then 1 else -1) Dj; omega, hDn⟩
      have es : -(if j % 2 = 0 then (1 : Int) else -1) = if (j + 1) % 2 = 0 then 1 else -1 := by
        by_cases c : j % 2 = 0
        · rw [if_pos c, if_neg (by omega)]
        · rw [if_neg c, if_pos (by omega)]; rfl
      show [some (V.ref a), some (V.ref d), some (V.ref row), some (V.int (-(if j % 2 = 0 then (1 : Int) else -1))), some (V.int (j : Int))] = _
      rw [es]
    · obtain ⟨Dj, y4, rfl, s', hrj, hnd, hlj, hDj⟩ := q
      have eD : Dj = D := by
        unfold borderO at hD
        have : (List.range r.length).foldlM (bordS r below) [] = some D := hD
        rw [hDj] at this
        exact Option.some.inj this
      subst eD
      walk_at "rd"
      exact k row H' hrow hrj hnd s'
end

/-! ### {k: v for ..}, its keys tuples -/
section
open PySem.Spec PyProof.Rows
variable {X : Cx}
/-- a comprehension's d[k] = v, k a tuple that stands by itself -/
theorem dict_setT {pn : List (Addr × Obj)} {τ : L2.St} {G : Hp} {z : Shared} {E : Value → Shared → Prop} {D b : Addr} {ks : List (List L2.Key × V)} {k : List L2.Key} {v : V} {r : Value} {Q : Unit → Shared → Prop} (J : Inv X pn τ G z) (room : X.A.units + 1 < cLine)
    (eD : G D = some (.dT ks)) (fit : ks.length < sizeLine) (eb : G b = some (.tup (k.map kV))) (rv : RelV v r) (go : ∀ z', Inv X pn τ (upd G D (.dT (putK ks k v))) z' → Q () z') : wpAny (model X.prog X.w) X.A (dictSet D (.ref b) r) Q E z := by
  obtain ⟨hz, ns, xs, pr, dd⟩ := dt_of J.hok eD
  have more := length_putK ks k v
  refine wpAny_dictSet_heap (hsz := by rw [← Paired.length pr]; exact hz) (show X.A.units < cLine by omega) (key_of J.hok eb) dd fun h2 dd2 sb => go _ ?_
  obtain ⟨q, es, ep, g1, g2, g3, g4, _, g5⟩ := dd2
  refine d_write J (by rw [eD]; exact True.intro) sb ⟨q, g1⟩ ⟨by omega, ns, _, (pr.put k eb rv).keeps fun c ys ec => ?_, q, es, ep, g1, g2, g3, g4, g5⟩
  exact (upd_ne (ne_of ec eD fun w => nomatch w)).trans ec
/-- {k: v for target in iter if ..}: D the new dict -/
def tDcT (wi : TI) (g : TG) (tt : TT) (tk tv : TE) (vs : List Nat) : TE := fun τ G Q => wi τ G fun J G1 => ∀ D, G1 D = none → ∃ W : Nat → Nat → Hp → Prop, (∃ m, W 0 m (upd G1 D (.dT []))) ∧ ∀ i m G, W i m G →
  (J.stop i G ∧ Q (.ref D) G) ∨ (J.go i G ∧ ∃ Nx : Hp → Prop, (∀ G', Nx G' → ∃ m', m' < m ∧ W (i + 1) m' G') ∧ ∀ x G', J.yld i G x G' → g x (wipe τ vs) G' fun τ2 G2 => wipe τ2 vs = wipe τ vs ∧ tt τ2 G2 fun b G3 =>
    if b = true then tk τ2 G3 fun y G4 => tv τ2 G4 fun z G5 => ∃ ks k b, y = .ref b ∧ G5 b = some (.tup (k.map kV)) ∧ G5 D = some (.dT ks) ∧ ks.length < sizeLine ∧ Nx (upd G5 D (.dT (putK ks k z))) else Nx G3)
theorem dcT_core {pn : List (Addr × Obj)} {z : Shared} {τ : L2.St} {G : Hp} {Q : VK} {kx vx tg iter : Expr} {ifs : List Expr} {sp : Scope} {own : List (Str × Nat)} {pos pos' : Pos} {wi : TI} {g : TG} {tt : TT} {tk tv : TE} {us : Option (Value → Sem Unit)} {Qf : Value → Shared → Prop}
    (room : X.A.units + 1 < cLine) (calm : X.calm = true) (nd : X.N.Nodup) (J : Inv X pn τ G z) (pi : PI X tg iter wi) (blk : BlkOk X.N X.env.scope sp own)
    (mg : ∀ (z : Shared) (G : Hp) (C : Addr) (cl : List (Str × Addr)) (fp : List Addr), PG (X.blk z G sp (compEnvC sp cl C X.env) fp) tg g) (mt : ∀ (z : Shared) (G : Hp) (C : Addr) (cl : List (Str × Addr)) (fp : List Addr), PTs (X.blk z G sp (compEnvC sp cl C X.env) fp) ifs tt)
    (mk : ∀ (z : Shared) (G : Hp) (C : Addr) (cl : List (Str × Addr)) (fp : List Addr), PE (X.blk z G sp (compEnvC sp cl C X.env) fp) kx tk) (mv : ∀ (z : Shared) (G : Hp) (C : Addr) (cl : List (Str × Addr)) (fp : List Addr), PE (X.blk z G sp (compEnvC sp cl C X.env) fp) vx tv)
    (fold : ∀ x, foldedSetIterable iter X.env x = pure x) (rd : tDcT wi g tt tk tv (own.map (·.2)) τ G Q)
    (done : ∀ D C z' m G', Inv X pn τ G' z' → Q (.ref D) G' → z'.heap.Ns C m → FpOk X pn G' C → compPost (model X.prog X.w) X.A X.xe us Qf (.ref D) C (.ok .next) z') :
    wpAny (model X.prog X.w) X.A (comprehension (.DictComp kx vx [⟨tg, iter, ifs, 0⟩] sp pos) sp X.env pos' newDict false (eval iter X.env) us) Qf X.xe z := by
  have free : ∀ y ∈ sp.names, y.2 = .free → ∃ c, X.env.cells.lookup y.1 = some c := fun y hy e => (blk.free y hy e).elim (fun q => J.ok.has _ (.inl q)) fun q => J.ok.has _ (.inr q)
  refine wpAny_comprehension_free (use := us) rfl fold (closure_ok free) blk.kind (fun y hy e => by rw [blk.uniq y hy, e]) (thn (pi.run pn z τ G _ J rd) fun _ z1 q1 => thn q1 fun _ z2 q2 => ?_)
  obtain ⟨it, fp, tn, Jt, G2, rfl, J2, T, at2, f2, q⟩ := q2
  refine wpAny_newObj_type (newEnv_comp ?_)
  generalize hD : z2.heap.objs.size = D
  obtain ⟨W, ⟨m0, w0⟩, turn⟩ := q D (J2.hok.fresh (Nat.le_of_eq hD))
  generalize hz3 : ({ z2 with heap := z2.heap.push { cls := .type "dict", data := .dict #[] } } : Shared) = z3
  have h3 : z3.heap = z2.heap.push { cls := .type "dict", data := .dict #[] } := by rw [← hz3]
  have old : ∀ b o, z2.heap.get? b = some o → z3.heap.get? b = some o := fun b o e => by rw [h3]; exact Heap.get?_push_of_some _ e
  have J3 : Inv X pn τ (upd G2 D (.dT [])) z3 := by
    rw [← hz3]
    refine J2.laid (t' := z2.toks) (fun b o e => Heap.get?_push_of_some _ e) (Nat.le_of_eq hD) (hD ▸ dt_empty z2.heap J2.big)
  have f3 : ∀ b ∈ fp, FpOk X pn (upd G2 D (.dT [])) b ∧ b < z3.heap.objs.size := fun b hb => by
    obtain ⟨o, e, _⟩ := T.obj _ _ at2 b hb
    have lt := Heap.lt_size e
    exact ⟨⟨(upd_ne (Nat.ne_of_lt (hD ▸ lt))).trans (f2 b hb).1, (f2 b hb).2⟩, by rw [h3, Heap.size_push]; exact Nat.lt_succ_of_lt lt⟩
  have at3 : tn 0 z3.heap := T.keep _ _ _ at2 fun b _ => old b
  have J4 := block_start J3 blk nd f3
  have none3 : ∀ b ∈ fp, (upd G2 D (.dT [])) b = none := fun b hb => (f3 b hb).1.1
  have rg := mg z3 (upd G2 D (.dT [])) z3.heap.objs.size (cellsFrom (z3.heap.objs.size + 1) sp.names (cloFrom X.env.cells sp.names [])) fp
  have rt := mt z3 (upd G2 D (.dT [])) z3.heap.objs.size (cellsFrom (z3.heap.objs.size + 1) sp.names (cloFrom X.env.cells sp.names [])) fp
  have rk := mk z3 (upd G2 D (.dT [])) z3.heap.objs.size (cellsFrom (z3.heap.objs.size + 1) sp.names (cloFrom X.env.cells sp.names [])) fp
  have rv := mv z3 (upd G2 D (.dT [])) z3.heap.objs.size (cellsFrom (z3.heap.objs.size + 1) sp.names (cloFrom X.env.cells sp.names [])) fp
  show codeAny _ _ (.compStart (.DictComp kx vx [⟨tg, iter, ifs, 0⟩] sp pos) 0 (.ref it) (.ref D) (compEnvC sp (cellsFrom (z3.heap.objs.size + 1) sp.names (cloFrom X.env.cells sp.names [])) z3.heap.objs.size X.env)) (compPost (model X.prog X.w) X.A X.xe us Qf (.ref D) z3.heap.objs.size) { z3 with heap := pushCells (z3.heap.push { cls := .type "dict", data := .dict #[] }) sp.names }
  generalize hce : compEnvC sp (cellsFrom (z3.heap.objs.size + 1) sp.names (cloFrom X.env.cells sp.names [])) z3.heap.objs.size X.env = ce at J4 rg rt rk rv ⊢
  have cl : ce.locals = z3.heap.objs.size := by subst hce; rfl
  generalize hG3 : upd G2 D (.dT []) = G3 at J3 J4 rg rt rk rv w0 none3 f3
  generalize hz4 : ({ z3 with heap := pushCells (z3.heap.push { cls := .type "dict", data := .dict #[] }) sp.names } : Shared) = z4 at J4 ⊢
  have at4 : tn 0 z4.heap := T.keep _ _ _ at3 fun b _ o e => by rw [← hz4]; exact pushCells_keeps _ _ _ _ (Heap.get?_push_of_some _ e)
  have pinned : ∀ {τ' : L2.St} {G' : Hp} {z' : Shared}, Inv (X.blk z3 G3 sp ce fp) [] τ' G' z' → (∀ b ∈ fp, G' b = none) → ∀ b ∈ fp, FpOk (X.blk z3 G3 sp ce fp) [] G' b := fun {τ' G' z'} K n b hb =>
    ⟨n b hb, (K.ok.exf b hb).1, K.ok.exfs b hb, .inl hb, fun x c => (K.ok.exf b hb).2 x c, fun p hp => absurd (show p ∈ ([] : List (Addr × Obj)) ++ [] from hp) (by simp)⟩
  have walk : codeAny (model X.prog X.w) X.A (.compLoop (.DictComp kx vx [⟨tg, iter, ifs, 0⟩] sp pos) 0 (.ref it) (.ref D) ce) (compPost (model X.prog X.w) X.A X.xe us Qf (.ref D) z3.heap.objs.size) z4 := by
    refine compLoop_anyD (fun n z' => ∃ i G', Inv (X.blk z3 G3 sp ce fp) [] (wipe τ (own.map (·.2))) G' z' ∧ tn i z'.heap ∧ (∀ b ∈ fp, G' b = none) ∧ W i n G') ?_ m0 ⟨0, G3, J4, at4, none3, w0⟩
    rintro n z5 ⟨i, G5, J5, at5, n5, w5⟩
    rcases turn i n G5 w5 with ⟨stop, ends⟩ | ⟨more, Nx, hNx, step⟩
    · refine thnF (T.done (X.blk z3 G3 sp ce fp) rfl rfl rfl calm i [] z5 _ G5 (fun _ _ => False) J5 (pinned J5 n5) at5 stop) fun r z6 ⟨er, J6⟩ => ?_
      subst er
      obtain ⟨m, hn, _⟩ := J6.loc
      have hn : z6.heap.Ns ce.locals m := hn
      have un : G5 ce.locals = none := J6.free
      rw [cl] at hn un
      exact done D z3.heap.objs.size z6 m G5 (J3.call' (ch := fp) J6.os J6.base J6.hok J6.bare fun b hb => let w := (f3 b hb).1; ⟨w.2.2.2.1, w.2.1, w.2.2.2.2.1, w.2.2.2.2.2⟩) ends hn (J3.fpOk (Nat.le_refl _) un)
    · refine thnF (T.item (X.blk z3 G3 sp ce fp) rfl rfl rfl calm i [] z5 _ G5 (fun _ _ => False) J5 (pinned J5 n5) at5 more) fun r z6 ⟨u, er, q6⟩ => ?_
      subst er
      refine thnF q6 fun _ z7 ⟨x, G7, J7, r7, y7, at7, n7⟩ => ?_
      refine thnF (rg.run _ z7 _ G7 x u _ (J7.pinned (pinned J7 n7) (T.obj _ _ at7)) r7 (step x G7 y7)) fun _ z8 ⟨τ8, G8, J8, ew, q8⟩ => thnF (rt.run _ z8 τ8 G8 _ J8 q8) fun b z9 ⟨G9, J9, q9⟩ => ?_
      have back : ∀ {z' : Shared} {G' : Hp}, Inv (X.blk z3 G3 sp ce fp) ([] ++ pinsAt fp z7.heap) τ8 G' z' → Nx G' → ∃ m, m < n ∧ ∃ i G', Inv (X.blk z3 G3 sp ce fp) [] (wipe τ (own.map (·.2))) G' z' ∧ tn i z'.heap ∧ (∀ b ∈ fp, G' b = none) ∧ W i m G' := fun {z' G'} K nx => by
        obtain ⟨m', lt, w'⟩ := hNx G' nx
        have held : ∀ b ∈ fp, ∀ o, z7.heap.get? b = some o → z'.heap.get? b = some o ∧ G' b = none := fun b hb o e => ⟨(K.pin (b, o) (List.mem_append_right _ (List.mem_append_right _ (mem_pinsAt hb e)))).1, (K.pin (b, o) (List.mem_append_right _ (List.mem_append_right _ (mem_pinsAt hb e)))).2.1⟩
        refine ⟨m', lt, i + 1, G', (K.unpinned (pins := [])).weak (by rw [← ew, wipe_length]) (fun j v e => (wipe_some (ew ▸ e)).1), T.keep _ _ _ at7 fun b hb o e => (held b hb o e).1, fun b hb => ?_, w'⟩
        obtain ⟨o, e, _⟩ := T.obj _ _ at7 b hb
        exact (held b hb o e).2
      cases b with
      | false => exact back J9 (by simpa using q9)
      | true =>
        have q9 := (show tk τ8 G9 _ by simpa using q9)
        show wpAny _ _ _ _ _ _
        refine thnF (rk.run _ z9 τ8 G9 _ J9 q9) fun y z10 ⟨yk, G10, J10, r10, q10⟩ => thnF (rv.run _ z10 τ8 G10 _ J10 q10) fun y2 z11 ⟨yv, G11, J11, r11, ks, k, c, ey, ec, eD, fit, nx⟩ => ?_
        subst ey
        obtain rfl : y = Value.ref c := r10
        exact dict_setT (X := X.blk z3 G3 sp ce fp) J11 room eD fit ec r11 fun z12 J12 => back J12 nx
  exact codeAny_compStart_dict walk (T.self X.A 0 _ _ _ at4 walk)
theorem pe_dcT {kx vx tg iter : Expr} {ifs : List Expr} {sp : Scope} {own : List (Str × Nat)} {pos : Pos} {wi : TI} {g : TG} {tt : TT} {tk tv : TE} (room : X.A.units + 1 < cLine) (calm : X.calm = true) (nd : X.N.Nodup) (pi : PI X tg iter wi) (blk : BlkOk X.N X.env.scope sp own)
    (mg : ∀ (z : Shared) (G : Hp) (C : Addr) (cl : List (Str × Addr)) (fp : List Addr), PG (X.blk z G sp (compEnvC sp cl C X.env) fp) tg g) (mt : ∀ (z : Shared) (G : Hp) (C : Addr) (cl : List (Str × Addr)) (fp : List Addr), PTs (X.blk z G sp (compEnvC sp cl C X.env) fp) ifs tt)
    (mk : ∀ (z : Shared) (G : Hp) (C : Addr) (cl : List (Str × Addr)) (fp : List Addr), PE (X.blk z G sp (compEnvC sp cl C X.env) fp) kx tk) (mv : ∀ (z : Shared) (G : Hp) (C : Addr) (cl : List (Str × Addr)) (fp : List Addr), PE (X.blk z G sp (compEnvC sp cl C X.env) fp) vx tv)
    (fold : ∀ x, foldedSetIterable iter X.env x = pure x := by intro _; rfl) : PE X (.DictComp kx vx [⟨tg, iter, ifs, 0⟩] sp pos) (tDcT wi g tt tk tv (own.map (·.2))) := by
  refine ⟨fun pn z τ G Q J rd => ?_⟩
  rw [arm_eval_DictComp]
  exact dcT_core room calm nd J pi blk mg mt mk mv fold rd fun D C z' m G' J' q ns ⟨c0, c1, c2, c3, c4, c5⟩ => ⟨m, ns, fun h2 sb => ⟨.ref D, G', J'.turned (t' := z'.toks) (fun b o hb e => (sb.2 b hb).trans e) c0 c1 c3 c4 c5, rfl, q⟩⟩
/-- over any walk -/
theorem dcT_it {J : It} {n : Nat} {G : Hp → Prop} {Y : Nat → Hp → V → Hp → Prop} (w : Walk J n G Y) {g : TG} {tt : TT} {tk tv : TE} {vs : List Nat} {τ : L2.St} {H1 : Hp} {D : Addr} {Qd : Hp → Prop} (Pv : Nat → Hp → Prop) (h0 : Pv 0 (upd H1 D (.dT []))) (hG : ∀ i H, i ≤ n → Pv i H → G H)
    (hs : ∀ i x Ha Hb, i < n → Pv i Ha → Y i Ha x Hb → g x (wipe τ vs) Hb fun τ2 H2 => wipe τ2 vs = wipe τ vs ∧ tt τ2 H2 fun b H3 =>
      if b = true then tk τ2 H3 fun y H4 => tv τ2 H4 fun z H5 => ∃ ks k b, y = .ref b ∧ H5 b = some (.tup (k.map kV)) ∧ H5 D = some (.dT ks) ∧ ks.length < sizeLine ∧ Pv (i + 1) (upd H5 D (.dT (putK ks k z))) else Pv (i + 1) H3) (hd : ∀ H, Pv n H → Qd H) :
    ∃ W : Nat → Nat → Hp → Prop, (∃ m, W 0 m (upd H1 D (.dT []))) ∧ ∀ i m H, W i m H → (J.stop i H ∧ Qd H) ∨ (J.go i H ∧ ∃ Nx : Hp → Prop, (∀ H', Nx H' → ∃ m', m' < m ∧ W (i + 1) m' H') ∧ ∀ x H', J.yld i H x H' → g x (wipe τ vs) H' fun τ2 H2 => wipe τ2 vs = wipe τ vs ∧ tt τ2 H2 fun b H3 =>
      if b = true then tk τ2 H3 fun y H4 => tv τ2 H4 fun z H5 => ∃ ks k b, y = .ref b ∧ H5 b = some (.tup (k.map kV)) ∧ H5 D = some (.dT ks) ∧ ks.length < sizeLine ∧ Nx (upd H5 D (.dT (putK ks k z))) else Nx H3) := by
  refine ⟨fun i m H => m = n - i ∧ i ≤ n ∧ Pv i H, ⟨n, by simp, Nat.zero_le _, h0⟩, ?_⟩
  rintro i m H ⟨rfl, le, p⟩
  rcases Nat.lt_or_ge i n with lt | ge
  · exact .inr ⟨w.goes i H lt (hG i H le p), Pv (i + 1), fun H' p' => ⟨n - (i + 1), by omega, rfl, lt, p'⟩, fun x H' y => hs i x H H' lt p (w.yields i H x H' lt (hG i H le p) y)⟩
  · obtain rfl : i = n := by omega
    exact .inl ⟨w.stops H (hG i H le p), hd H p⟩
end

/-! ### border_rank -/
theorem kvT_snoc (L : List (List Int)) (r : List Int) : kvT (L ++ [r]) = kvT L ++ [(r.map (fun i => (Sum.inl i : L2.Key)), V.int (L.length : Int))] := by
  unfold kvT
  rw [List.zipIdx_append, List.map_append, Nat.zero_add]
  rfl
theorem kvT_len (L : List (List Int)) : (kvT L).length = L.length := by unfold kvT; rw [List.length_map, List.length_zipIdx]
theorem kvT_put {L : List (List Int)} {r : List Int} (h : r ∉ L) : putK (kvT L) (r.map fun i => (Sum.inl i : L2.Key)) (V.int (L.length : Int)) = kvT (L ++ [r]) := by
  unfold putK
  rw [if_neg, kvT_snoc]
  intro z
  obtain ⟨e, he, hk⟩ := List.any_eq_true.mp z
  unfold kvT at he
  obtain ⟨x, hx, rfl⟩ := List.mem_map.mp he
  have hk := of_decide_eq_true hk
  have e1 : x.1 = r := (List.map_inj_right fun a b e => Sum.inl.inj e).mp hk
  obtain ⟨a, i⟩ := x
  have := List.mem_zipIdx hx
  subst e1
  exact h (this.2.2 ▸ List.getElem_mem _)
theorem mapM_at {α β : Type} {g : α → Option β} : ∀ {l : List α} {r : List β}, l.mapM g = some r → r.length = l.length ∧ ∀ (i : Nat) a b, l[i]? = some a → r[i]? = some b → g a = some b
  | [], r, h => by
    rw [List.mapM_nil] at h
    cases h
    exact ⟨rfl, fun i a b ha _ => by simp at ha⟩
  | x :: l, r, h => by
    rw [List.mapM_cons] at h
    obtain ⟨y, hy, h⟩ := Option.bind_eq_some_iff.mp h
    obtain ⟨s, hs, h⟩ := Option.bind_eq_some_iff.mp h
    cases h
    obtain ⟨h1, h2⟩ := mapM_at hs
    refine ⟨by rw [List.length_cons, List.length_cons, h1], fun i a b ha hb => ?_⟩
    cases i with
    | zero => simp at ha hb; subst ha hb; exact hy
    | succ i => exact h2 i a b (by simpa using ha) (by simpa using hb)
theorem zip_at {α β : Type} {l : List α} {r : List β} {i : Nat} {e : α × β} (h : (l.zip r)[i]? = some e) : l[i]? = some e.1 ∧ r[i]? = some e.2 := by
  obtain ⟨hi, he⟩ := List.getElem?_eq_some_iff.mp h
  rw [List.length_zip] at hi
  rw [List.getElem_zip] at he
  subst he
  exact ⟨List.getElem?_eq_getElem (by omega), List.getElem?_eq_getElem (by omega)⟩
section
variable {P : Program} {w : World} {K : PySem.W.Frag} {mg : Str → Option Value} {base : Heap}
def sp_border_rank (K : PySem.W.Frag) : Sp := fun vs H Q _ => ∃ (f : Int) (l b : Addr) (ys zs : List V) (lev below : List (List Int)) (k : Nat), vs = [.int f, .ref l, .ref b] ∧ FldOk f ∧ H l = some (.lst ys) ∧ Fits (Plain H) lev ys ∧ H b = some (.lst zs) ∧ Fits (Plain H) below zs ∧ below.Nodup ∧ (∀ r ∈ lev, r.length ≤ 8) ∧ lev.length ≤ 1000 ∧ below.length ≤ 1000 ∧ brankO f lev below = some k ∧ ∀ H', Same H H' → Q (.int k) H'
theorem ok_border_rank (T : Txt K mg) : FnOk P w K mg base CX0 7 T.border_rank.f T.border_rank.fd P_border_rank (sp_border_rank K) := by
  refine T.border_rank.F.ok sc_border_rank (fun vs H Q E h => ?_) (fun cdv A outer s H vs Q E hr h => ?_)
  · obtain ⟨f, l, b, ys, zs, lev, below, k, rfl, _⟩ := h; rfl
  · obtain ⟨f, l, b, ys, zs, lev, below, n, rfl, hf, hl, hlev, hb, hbel, hnd, hlen, hl1, hl2, hk, k⟩ := h
    refine ⟨_, (pss_cons (ps_set (i := 3) sc_border_rank.nd rfl (Or.inr rfl) (pe_dcT (own := [("index", 4), ("places", 5)]) (Nat.lt_of_le_of_lt (Nat.add_le_add_left (show 1 ≤ 64 by decide) _) hr.units) rfl sc_border_rank.nd (pi_enum rfl T.n_enumerate (pa_cons (pv 2) pa_nil)) (blkOk_by (own := [("index", 4), ("places", 5)]) (N := N_border_rank) (sc := defScope s_border_rank) (by decide +kernel)) (fun _ _ _ _ _ => (pg_tupK (K := K) (n := 2) rfl rfl (pgs_cons (pg_name (i := 4) sc_border_rank.nd rfl (Or.inl rfl)) (pgs_cons (pg_name (i := 5) sc_border_rank.nd rfl (Or.inl rfl)) pgs_nil)))) (fun _ _ _ _ _ => pts_nil) (fun _ _ _ _ _ => (pv 5)) (fun _ _ _ _ _ => (pv 4))))
  (pss_one (ps_ret (pe_call (ok_rank T) (hr.mono (by decide)) rfl T.rank.g T.rank.F.kp (b_rank T) .nil pass0 (pa_cons (pv 0) (pa_cons (pe_lc (own := [("places", 5)]) rfl sc_border_rank.nd (pi_list (pv 1)) (blkOk_by (own := [("places", 5)]) (N := N_border_rank) (sc := defScope s_border_rank) (by decide +kernel)) (fun _ _ _ _ _ => (pg_name (i := 5) sc_border_rank.nd rfl (Or.inl rfl))) (fun _ _ _ _ _ => pts_nil) (fun _ _ _ _ _ => (pe_call (ok_border T) (hr.mono (by decide)) rfl T.border.g T.border.F.kp (b_border T) .nil pass0 (pa_cons (pv 5) (pa_cons (pv 3) pa_nil))))) pa_nil)))))), ?_⟩
    walk_at "rd"
    refine ⟨b, zs, rfl, .inl (.inl hb), fun D hD => ?_⟩
    have hline : 1000 < sizeLine := by decide
    unfold brankO at hk
    obtain ⟨rows, hrows, hk⟩ := Option.bind_eq_some_iff.mp hk
    by_cases hall : rows.all okD = true
    · rw [if_pos hall] at hk
      obtain ⟨hrl, hra⟩ := mapM_at hrows
      refine dcT_it (walk_enum (K := K) (a := b) (xs := zs)) (fun i H' => Same H H' ∧ H' D = some (.dT (kvT (below.take i)))) ⟨same_upd hD, upd_same⟩ (fun i H' _ q => .inl (.inl (q.1 _ _ hb))) (fun i x Ha Hb hi q y => ?_) (fun H' q => ?_)
      · obtain ⟨s1, hD1⟩ := q
        obtain ⟨Tt, kx, vx, rfl, q1, rfl, e1, e2⟩ := y
        cases e1
        have hib : i < below.length := by rw [← hbel.1]; exact hi
        have s6 := same_upd (o := .tup [V.int (i : Nat), vx]) q1
        obtain ⟨p, rfl, hp⟩ := hbel.2 i _ _ (List.getElem?_eq_getElem hib) e2
        refine ⟨Tt, _, rfl, .inl (.inl upd_same), rfl, ?_⟩
        walk_at "rd"
        have hlen1 : (below.take i).length = i := by rw [List.length_take]; omega
        have et : below.take (i + 1) = below.take i ++ [below[i]] := by rw [List.take_add_one, List.getElem?_eq_getElem hib]; rfl
        have hnew : below[i] ∉ below.take i := fun z => by
          obtain ⟨j, hj, e⟩ := List.getElem_of_mem z
          rw [List.getElem_take] at e
          have := (List.getElem_inj hnd).mp e
          omega
        refine ⟨kvT (below.take i), below[i].map (fun i => (Sum.inl i : L2.Key)), p, rfl, ?_, s6 _ _ hD1, by rw [kvT_len]; omega, same_put hD (Same.trans s1 s6), ?_⟩
        · rw [List.map_map]
          exact s6 _ _ (s1 _ _ hp)
        · have hpk := kvT_put hnew
          rw [hlen1] at hpk
          rw [upd_same, et, ← hpk]
      · obtain ⟨s1, hD1⟩ := q
        rw [hbel.1, List.take_length] at hD1
        walk_at "rd"
        refine ⟨⟨ys, .inl (.inl (s1 _ _ hl))⟩, fun D2 hD2 => ?_⟩
        refine lc_gen (walk_list (K := K) (a := l) (xs := ys)) (lev.zip rows) (fun _ => true) (·.2) (fun R v H' => NdI R ∧ ∃ d, v = .ref d ∧ H' d = some (.dK (kvI R))) (by rw [List.length_zip, hlev.1]; omega) (fun H' s => .inl (.inl (s _ _ (s1 _ _ hl)))) hD2 (by rw [hlev.1]; omega) (fun R v Ha Hb k h => ?_) (fun i e x Ha Hb Qn Qy he sa y _ ht => ?_) (fun H2 zs2 s2 e2 fz => ?_)
        · obtain ⟨h1, d, h2, h3⟩ := h
          obtain ⟨k1, xs, xs', k2, k3⟩ := k
          exact ⟨h1, d, h2, k1 _ _ (fun z => by rw [z, k2] at h3; cases h3) h3⟩
        · obtain ⟨rfl, ey⟩ := y
          obtain ⟨z1, z2⟩ := zip_at he
          obtain ⟨p, rfl, hp⟩ := hlev.2 i _ _ z1 ey
          have hbo := hra i _ _ z1 z2
          walk_at "rd"
          have st := Same.trans s1 sa
          exact ⟨p, D, e.1, below, e.2, rfl, .inl (.inl (st _ _ hp)), sa _ _ hD1, hlen _ (List.mem_of_getElem? z1), hl2, hbo, fun d H4 hd hd4 hnd4 s4 => ht rfl _ _ s4 ⟨hnd4, d, rfl, hd4⟩⟩
        · rw [filterT] at fz
          have er : (lev.zip rows).map (·.2) = rows := zipS hrl.symm
          rw [er] at fz
          walk_at "rd"
          refine ⟨f, D2, zs2, rows, n, rfl, hf, .inl (.inl e2), ⟨fz.1, fun i x R hx hR => (fz.2 i R x hR hx).2⟩, fun R hR => ?_, by omega, hk, fun H4 s4 => k _ (Same.trans s1 (Same.trans s2 s4))⟩
          obtain ⟨i, hi, rfl⟩ := List.getElem_of_mem hR
          exact ⟨(fz.2 i _ _ (List.getElem?_eq_getElem hi) (List.getElem?_eq_getElem (by rw [fz.1]; exact hi))).1, List.all_eq_true.mp hall _ (List.getElem_mem hi)⟩
    · rw [if_neg hall] at hk
      cases hk
end

/-! ### dimensions -/
structure LevOk (L : List (List (List Int))) : Prop where
  len : L.length ≤ 10
  few : ∀ l ∈ L, l.length ≤ 1000
  nd : ∀ l ∈ L, l.Nodup
  short : ∀ l ∈ L, ∀ r ∈ l, r.length ≤ 8
section
variable {P : Program} {w : World} {K : PySem.W.Frag} {mg : Str → Option Value} {base : Heap}
def sp_dimensions (K : PySem.W.Frag) : Sp := fun vs H Q _ => ∃ (f : Int) (a : Addr) (L : List (List (List Int))) (ds : List Int), vs = [.int f, .ref a] ∧ FldOk f ∧ LevAt H a L ∧ LevOk L ∧ dimsO f L = some ds ∧ ∀ p H', H' p = some (.lst (ds.map V.int)) → Same H H' → Q (.ref p) H'
theorem ok_dimensions (T : Txt K mg) : FnOk P w K mg base CX0 8 T.dimensions.f T.dimensions.fd P_dimensions (sp_dimensions K) := by
  refine T.dimensions.F.ok sc_dimensions (fun vs H Q E h => ?_) (fun cdv A outer s H vs Q E hr h => ?_)
  · obtain ⟨f, a, L, ds, rfl, _⟩ := h; rfl
  · obtain ⟨f, a, L, ds, rfl, hf, ha, hok, hds, k⟩ := h
    have hline : 1000 < sizeLine := by decide
    refine ⟨_, (pss_cons (ps_set (i := 2) sc_dimensions.nd rfl (Or.inr rfl) (pe_op op_cat (pe_op op_cat (pe_lst (pa_cons pe_int pa_nil)) (pe_lc (own := [("k", 3)]) rfl sc_dimensions.nd (pi_range2 rfl T.n_range (pa_cons pe_int (pa_cons (pe_callB (r := rLenS K) call_len_seq rfl T.n_len bo_len (pa_cons (pv 1) pa_nil)) pa_nil))) (blkOk_by (own := [("k", 3)]) (N := N_dimensions) (sc := defScope s_dimensions) (by decide +kernel)) (fun _ _ _ _ _ => (pg_name (i := 3) sc_dimensions.nd rfl (Or.inl rfl))) (fun _ _ _ _ _ => pts_nil) (fun _ _ _ _ _ => (pe_call (ok_border_rank T) (hr.mono (by decide)) rfl T.border_rank.g T.border_rank.F.kp (b_border_rank T) .nil pass0 (pa_cons (pv 0) (pa_cons (pe_ix (r := rIxL K) ix_list (pv 1) (pv 3) (fun _ _ => rfl)) (pa_cons (pe_ix (r := rIxL K) ix_list (pv 1) (pe_op op_sub (pv 3) pe_int) (fun _ _ => rfl)) pa_nil))))))) (pe_lst (pa_cons pe_int pa_nil))))
  (pss_one (ps_ret (pe_lc (own := [("k", 3), ("level", 4)]) rfl sc_dimensions.nd (pi_enum rfl T.n_enumerate (pa_cons (pv 1) pa_nil)) (blkOk_by (own := [("k", 3), ("level", 4)]) (N := N_dimensions) (sc := defScope s_dimensions) (by decide +kernel)) (fun _ _ _ _ _ => (pg_tupK (K := K) (n := 2) rfl rfl (pgs_cons (pg_name (i := 3) sc_dimensions.nd rfl (Or.inl rfl)) (pgs_cons (pg_name (i := 4) sc_dimensions.nd rfl (Or.inl rfl)) pgs_nil)))) (fun _ _ _ _ _ => pts_nil) (fun _ _ _ _ _ => (pe_op op_sub (pe_op op_sub (pe_callB (r := rLenS K) call_len_seq rfl T.n_len bo_len (pa_cons (pv 4) pa_nil)) (pe_ix (r := rIxL K) ix_list (pv 2) (pv 3) (fun _ _ => rfl))) (pe_ix (r := rIxL K) ix_list (pv 2) (pe_op op_add (pv 3) pe_int) (fun _ _ => rfl)))))))), ?_⟩
    obtain ⟨as, e1, e2, e3, e4, e5⟩ := id ha
    unfold dimsO at hds
    obtain ⟨rk, hrk, hds⟩ := Option.bind_eq_some_iff.mp hds
    dsimp only at hds
    have hds := Option.some.inj hds
    obtain ⟨hrl, hra⟩ := mapM_at hrk
    rw [List.length_range] at hrl
    have hL10 := hok.len
    have hall : (as.map V.ref).length = L.length := by rw [List.length_map]; exact e2
    refine ⟨by decide, fun p0 hp0 => ?_⟩
    have s1 := same_upd (o := .lst [V.int 0]) hp0
    have h1 : (upd H p0 (.lst [V.int 0])) p0 = some (.lst [V.int 0]) := upd_same
    generalize upd H p0 (.lst [V.int 0]) = H1 at *
    walk_at "rd"
    refine ⟨a, _, rfl, .inl (.inl (.inl (s1 _ _ e1))), ?_⟩
    walk_at "rd"
    rw [hall]
    refine ⟨⟨by omega, by omega, by omega, by omega⟩, fun D hD => ?_⟩
    rw [show ((L.length : Int) - 1).toNat = L.length - 1 by omega]
    have lev : ∀ (j : Nat) (hj : j < L.length), ∃ ys, (as.map V.ref)[j]? = some (V.ref (as[j]'(by omega))) ∧ H (as[j]'(by omega)) = some (.lst ys) ∧ Fits (Plain H) L[j] ys := fun j hj => by
      obtain ⟨ys, y1, y2⟩ := e5 j _ _ (List.getElem?_eq_getElem (by omega)) (List.getElem?_eq_getElem hj)
      exact ⟨ys, by rw [List.getElem?_map, List.getElem?_eq_getElem (by omega)]; rfl, y1, y2⟩
    refine lc_gen walk_range rk (fun _ => true) id (fun (k : Nat) v _ => v = V.int (k : Int)) hrl (fun H' s => trivial) hD (by omega) (fun _ _ _ _ _ h => h) (fun i kv x Ha Hb Qn Qy hk sa y _ ht => ?_) (fun H2 zs2 s2 eD2 fz => ?_)
    · obtain ⟨rfl, rfl⟩ := y
      have hi : i < rk.length := (List.getElem?_eq_some_iff.mp hk).1
      have hb := hra i i kv (List.getElem?_range (by omega)) hk
      rw [List.getD_eq_getElem?_getD, List.getD_eq_getElem?_getD, List.getElem?_eq_getElem (show i + 1 < L.length by omega), List.getElem?_eq_getElem (show i < L.length by omega)] at hb
      obtain ⟨y1, g1, g2, g3⟩ := lev (i + 1) (by omega)
      obtain ⟨y0, k1, k2, k3⟩ := lev i (by omega)
      have sa1 := Same.trans s1 sa
      have hl1 := sa1 _ _ e1
      walk_at "rd"
      refine ⟨_, _, _, _, rfl, rfl, .inl (.inl hl1), at_of (show (1 : Int) + (i : Int) = ((i + 1 : Nat) : Int) by omega) g1, ?_⟩
      walk_at "rd"
      refine ⟨_, _, _, _, rfl, rfl, .inl (.inl hl1), at_of (show (1 : Int) + (i : Int) - 1 = ((i : Nat) : Int) by omega) k1, ?_⟩
      walk_at "rd"
      refine ⟨f, _, _, y1, y0, L[i + 1], L[i], kv, rfl, hf, sa1 _ _ g2, g3.mono fun r v h => h.same sa1, sa1 _ _ k2, k3.mono fun r v h => h.same sa1, hok.nd _ (List.getElem_mem _), hok.short _ (List.getElem_mem _), hok.few _ (List.getElem_mem _), hok.few _ (List.getElem_mem _), hb, fun H4 s4 => ht rfl _ _ s4 rfl⟩
    · have ez := fz.map (g := fun k : Nat => V.int (k : Int))
      rw [filterT, List.map_id] at ez
      rw [ez] at eD2
      have hrk1 : (rk.map fun k : Nat => V.int (k : Int)).length ≤ 10 := by rw [List.length_map]; omega
      refine ⟨p0, D, _, _, rfl, rfl, s2 _ _ h1, eD2, by rw [List.length_singleton]; omega, fun p1 hp1 => ?_⟩
      have s3 := same_upd (o := .lst ([V.int 0] ++ rk.map fun k : Nat => V.int (k : Int))) hp1
      have h3 : (upd H2 p1 (.lst ([V.int 0] ++ rk.map fun k : Nat => V.int (k : Int)))) p1 = some (.lst ([V.int 0] ++ rk.map fun k : Nat => V.int (k : Int))) := upd_same
      generalize upd H2 p1 (.lst ([V.int 0] ++ rk.map fun k : Nat => V.int (k : Int))) = H3 at *
      refine ⟨by decide, fun p2 hp2 => ?_⟩
      have s4 := same_upd (o := .lst [V.int 0]) hp2
      have h4 : (upd H3 p2 (.lst [V.int 0])) p2 = some (.lst [V.int 0]) := upd_same
      generalize upd H3 p2 (.lst [V.int 0]) = H4 at *
      refine ⟨p1, p2, _, _, rfl, rfl, s4 _ _ h3, h4, by simp only [List.length_append, List.length_singleton]; omega, fun p3 hp3 => ?_⟩
      obtain ⟨rks, hrks⟩ : ∃ rks : List Int, rks = (0 :: (rk ++ [0])).map fun k : Nat => (k : Int) := ⟨_, rfl⟩
      have ers : [V.int 0] ++ (rk.map fun k : Nat => V.int (k : Int)) ++ [V.int 0] = rks.map V.int := by rw [hrks]; simp
      rw [ers]
      have s5 := same_upd (o := .lst (rks.map V.int)) hp3
      have h5 : (upd H4 p3 (.lst (rks.map V.int))) p3 = some (.lst (rks.map V.int)) := upd_same
      generalize upd H4 p3 (.lst (rks.map V.int)) = H5 at *
      have sH : Same H H5 := Same.trans s1 (Same.trans s2 (Same.trans s3 (Same.trans s4 s5)))
      walk_at "rd"
      refine ⟨a, _, rfl, .inl (.inl (sH _ _ e1)), fun D6 hD6 => ?_⟩
      have hrlen : (0 :: (rk ++ [0])).length = L.length + (if L.length = 0 then 2 else 1) := by
        rw [List.length_cons, List.length_append, List.length_singleton, hrl]
        split <;> omega
      have rkat : ∀ j, j ≤ L.length → (rks.map V.int)[j]? = some (V.int (((0 :: (rk ++ [0])).getD j 0 : Nat) : Int)) := fun j hj => by
        have hj' : j < (0 :: (rk ++ [0])).length := by rw [hrlen]; split <;> omega
        rw [hrks, List.map_map, List.getElem?_map, List.getElem?_eq_getElem hj', List.getD_eq_getElem?_getD, List.getElem?_eq_getElem hj']
        rfl
      refine lc_gen (walk_enum (K := K) (a := a) (xs := as.map V.ref)) (List.range L.length) (fun _ => true) (fun k => ((L.getD k []).length : Int) - ((0 :: (rk ++ [0])).getD k 0 : Nat) - ((0 :: (rk ++ [0])).getD (k + 1) 0 : Nat)) (fun d v _ => v = V.int d) (by rw [hall, List.length_range]) (fun H' s => .inl (.inl (s _ _ (sH _ _ e1)))) hD6 (by omega) (fun _ _ _ _ _ h => h) (fun i j x Ha Hb Qn Qy hj sa y _ ht => ?_) (fun H6 zs6 s6 e6 fz6 => ?_)
      · obtain ⟨Tt, kx, vx, rfl, q1, rfl, x1, x2⟩ := y
        cases x1
        obtain ⟨hi, rfl⟩ : i < L.length ∧ j = i := by
          obtain ⟨z1, z2⟩ := List.getElem?_eq_some_iff.mp hj
          rw [List.getElem_range] at z2
          rw [List.length_range] at z1
          exact ⟨z1, z2.symm⟩
        obtain ⟨ys, g1, g2, g3⟩ := lev j hi
        have x2 : (as.map V.ref)[j]? = some vx := x2
        rw [g1] at x2
        cases x2
        have s7 := same_upd (o := .tup [V.int (j : Nat), V.ref (as[j]'(by omega))]) q1
        have s8 := Same.trans sH (Same.trans sa s7)
        refine ⟨Tt, _, rfl, .inl (.inl upd_same), rfl, ?_⟩
        walk_at "rd"
        refine ⟨_, ys, rfl, .inl (.inl (.inl (s8 _ _ g2))), ?_⟩
        have hr7 := s7 _ _ (sa _ _ h5)
        walk_at "rd"
        refine ⟨_, _, _, _, rfl, rfl, .inl (.inl hr7), atI_nat (rkat j (by omega)), ?_⟩
        walk_at "rd"
        refine ⟨_, _, _, _, rfl, rfl, .inl (.inl hr7), atI_nat (j := j + 1) (rkat (j + 1) (by omega)), ?_⟩
        walk_at "rd"
        refine ht rfl _ _ s7 (congrArg V.int ?_)
        rw [g3.1, show L.getD j [] = L[j] by rw [List.getD_eq_getElem?_getD, List.getElem?_eq_getElem hi]; rfl]
      · have ez6 := fz6.map (g := V.int)
        rw [filterT, hds] at ez6
        exact k D6 H6 (by rw [e6, ez6]) (Same.trans sH s6)
end

/-- xs += ys, lists -/
theorem ip_ext {X : Cx} : PIp X .Add rExt2 := fun _ _ _ _ _ _ _ _ _ I rx ry q => augR iop_ext I rx ry q

/-! ### betti_triples -/
theorem setOf_mask {m : Nat} (h : m < 256) : maskOf (setOf m) = m := by
  have key : ((List.range 256).all fun m => maskOf (setOf m) == m) = true := by decide +kernel
  have := List.all_eq_true.mp key m (List.mem_range.mpr h)
  simpa using this
theorem ins_nodup {x : List Int} : ∀ {l : List (List Int)}, l.Nodup → x ∉ l → (insR x l).Nodup
  | [], _, _ => by simp [insR]
  | y :: l, h, n => by
    obtain ⟨h1, h2⟩ := List.nodup_cons.mp h
    unfold insR
    by_cases c : ltR y x = true
    · rw [if_pos c]
      refine List.nodup_cons.mpr ⟨fun z => ?_, ins_nodup h2 fun z => n (List.mem_cons_of_mem _ z)⟩
      rcases ins_mem.mp z with z | z
      · exact n (z ▸ List.mem_cons_self)
      · exact h1 z
    · rw [if_neg c]
      exact List.nodup_cons.mpr ⟨n, h⟩
theorem isort_nodup {l : List (List Int)} (h : l.Nodup) : (isort l).Nodup := by
  induction l with
  | nil => exact List.nodup_nil
  | cons a l ih =>
    obtain ⟨h1, h2⟩ := List.nodup_cons.mp h
    exact ins_nodup (ih h2) fun z => h1 (isort_mem.mp z)
theorem lev_inv : ∀ (R : List (List Int)), R.Nodup → (∀ r ∈ R, r.length ≤ 8) → (R.foldl levPut []).length ≤ 9 ∧ ∀ l ∈ R.foldl levPut [], l.Nodup ∧ l.length ≤ R.length ∧ ∀ r ∈ l, r ∈ R := by
  intro R hn hs
  have key : ∀ i, i ≤ R.length → ((R.take i).foldl levPut []).length ≤ 9 ∧ ∀ l ∈ (R.take i).foldl levPut [], l.Nodup ∧ l.length ≤ i ∧ ∀ r ∈ l, r ∈ R.take i := by
    intro i
    induction i with
    | zero => intro _; exact ⟨Nat.zero_le _, fun l h => nomatch h⟩
    | succ i ih =>
      intro hi
      obtain ⟨h1, h2⟩ := ih (by omega)
      have hi' : i < R.length := by omega
      have et : R.take (i + 1) = R.take i ++ [R[i]] := by rw [List.take_add_one, List.getElem?_eq_getElem hi']; rfl
      have hr := hs _ (List.getElem_mem hi')
      have hnew : R[i] ∉ R.take i := fun z => by
        obtain ⟨j, hj, e⟩ := List.getElem_of_mem z
        rw [List.getElem_take] at e
        have := (List.getElem_inj hn).mp e
        rw [List.length_take] at hj
        omega
      rw [et, List.foldl_append]
      show (levPut ((R.take i).foldl levPut []) R[i]).length ≤ 9 ∧ ∀ l ∈ levPut ((R.take i).foldl levPut []) R[i], _
      generalize (R.take i).foldl levPut [] = L at *
      generalize R[i] = r at *
      have hm : ∀ l ∈ L ++ List.replicate (r.length + 1 - L.length) [], l.Nodup ∧ l.length ≤ i ∧ ∀ r ∈ l, r ∈ R.take i := fun l hl => by
        rcases List.mem_append.mp hl with z | z
        · exact h2 l z
        · rw [List.eq_of_mem_replicate z]
          exact ⟨List.nodup_nil, Nat.zero_le _, fun r h => nomatch h⟩
      unfold levPut
      refine ⟨by rw [List.length_modify, List.length_append, List.length_replicate]; omega, fun l hl => ?_⟩
      obtain ⟨n, hn', e⟩ := List.getElem_of_mem hl
      rw [List.getElem_modify] at e
      obtain ⟨b1, b2, b3⟩ := hm _ (List.getElem_mem (by rw [List.length_modify] at hn'; exact hn'))
      split at e
      · subst e
        exact ⟨nodup_snoc b1 fun z => hnew (b3 _ z), by rw [List.length_append, List.length_singleton]; omega, fun q hq => by
          rcases List.mem_append.mp hq with z | z
          · exact List.mem_append_left _ (b3 q z)
          · exact List.mem_append_right _ z⟩
      · subst e
        exact ⟨b1, by omega, fun q hq => List.mem_append_left _ (b3 q hq)⟩
  have := key R.length (Nat.le_refl _)
  rwa [List.take_length] at this
theorem lev_ok {ms : List Nat} (hn : ms.Nodup) (hb : ∀ m ∈ ms, m < 256) (hl : ms.length ≤ 1000) : LevOk (levelsL ms) := by
  have h1 : (ms.map setOf).Nodup := by
    refine List.Pairwise.map _ (fun _ _ h => h) ?_
    refine List.Pairwise.imp_of_mem (fun {a b} ha hb' hab z => hab ?_) hn
    rw [← setOf_mask (hb a ha), ← setOf_mask (hb b hb'), z]
  have hs : ∀ r ∈ isort (ms.map setOf), r.length ≤ 8 := fun r hr => by
    obtain ⟨m, hm, rfl⟩ := List.mem_map.mp (isort_mem.mp hr)
    exact setOf_len (hb m hm)
  obtain ⟨k1, k2⟩ := lev_inv _ (isort_nodup h1) hs
  rw [isort_len, List.length_map] at k2
  exact ⟨by show ((isort (ms.map setOf)).foldl levPut []).length ≤ 10; omega, fun l h => by have := (k2 l h).2.1; omega, fun l h => (k2 l h).1, fun l h r hr => hs r ((k2 l h).2.2 r hr)⟩
theorem Fits.app {β : Type} {R : β → V → Prop} {bs cs : List β} {ys zs : List V} (h : Fits R bs ys) (k : Fits R cs zs) : Fits R (bs ++ cs) (ys ++ zs) := by
  refine ⟨by rw [List.length_append, List.length_append, h.1, k.1], fun i b v hb hv => ?_⟩
  have e := h.1
  by_cases c : i < ys.length
  · rw [List.getElem?_append_left (by omega)] at hb
    rw [List.getElem?_append_left c] at hv
    exact h.2 i b v hb hv
  · rw [List.getElem?_append_right (by omega)] at hb hv
    rw [e] at hv
    exact k.2 _ b v hb hv
theorem maskOf_pos {r : List Int} (h : r ≠ []) : 0 < maskOf r := by
  have mono : ∀ (r : List Int) (a : Nat), a ≤ r.foldl (fun a p => a + 2 ^ p.toNat) a := by
    intro r
    induction r with
    | nil => intro a; exact Nat.le_refl _
    | cons p r ih => intro a; rw [List.foldl_cons]; exact Nat.le_trans (Nat.le_add_right _ _) (ih _)
  cases r with
  | nil => exact absurd rfl h
  | cons p r =>
    have h1 := mono r (0 + 2 ^ p.toNat)
    have h2 := Nat.two_pow_pos p.toNat
    show 0 < r.foldl (fun a p => a + 2 ^ p.toNat) (0 + 2 ^ p.toNat)
    omega
theorem free_head {n w : Nat} {rs : List (List Int)} (h : ∀ r ∈ rs, r ≠ []) : ∃ t, (freeMasks n rs).filter (fun m => holdsM w m) = 0 :: t := by
  unfold freeMasks
  have hp := Nat.two_pow_pos n
  obtain ⟨N, hN⟩ : ∃ N, 2 ^ n = N + 1 := ⟨2 ^ n - 1, by omega⟩
  dsimp only
  rw [hN, List.range_succ_eq_map, List.filter_cons, if_pos, List.filter_cons, if_pos]
  · exact ⟨_, rfl⟩
  · unfold holdsM; simp
  · rw [Bool.not_eq_true', List.any_eq_false]
    intro o ho z
    obtain ⟨r, hr, rfl⟩ := List.mem_map.mp ho
    have := maskOf_pos (h r hr)
    unfold holdsM at z
    rw [Nat.zero_and] at z
    have := eq_of_beq z
    omega
theorem free_facts {n w : Nat} (hn : n ≤ 8) (rs : List (List Int)) : ((freeMasks n rs).filter (fun m => holdsM w m)).Nodup ∧ (∀ m ∈ (freeMasks n rs).filter (fun m => holdsM w m), m < 256) ∧ ((freeMasks n rs).filter (fun m => holdsM w m)).length ≤ 256 ∧ (freeMasks n rs).length ≤ 256 := by
  have hp : 2 ^ n ≤ 256 := Nat.pow_le_pow_right (by decide) hn
  unfold freeMasks
  refine ⟨(List.nodup_range.sublist List.filter_sublist).sublist List.filter_sublist, fun m hm => ?_, ?_, ?_⟩
  · have := List.mem_range.mp (List.mem_filter.mp (List.mem_filter.mp hm).1).1
    omega
  · refine Nat.le_trans (List.length_filter_le _ _) (Nat.le_trans (List.length_filter_le _ _) ?_)
    rw [List.length_range]; exact hp
  · refine Nat.le_trans (List.length_filter_le _ _) ?_
    rw [List.length_range]; exact hp
theorem dims_len {f : Int} {L : List (List (List Int))} {ds : List Int} (h : dimsO f L = some ds) : ds.length = L.length := by
  unfold dimsO at h
  obtain ⟨rk, _, h⟩ := Option.bind_eq_some_iff.mp h
  dsimp only at h
  rw [← Option.some.inj h, List.length_map, List.length_range]
section
variable {P : Program} {w : World} {K : PySem.W.Frag} {mg : Str → Option Value} {base : Heap}
/-- a found Betti number: step, set, number -/
def Trip (H : Hp) (e : Int × Int × Int) (v : V) : Prop := ∃ t b xs, v = .ref t ∧ H t = some (.tup [.int e.1, .ref b, .int e.2.2]) ∧ H b = some (.tup xs) ∧ (xs.length : Int) = e.2.1 ∧ xs.length ≤ 8
theorem Trip.same {H H' : Hp} {e : Int × Int × Int} {v : V} (s : Same H H') (h : Trip H e v) : Trip H' e v := by
  obtain ⟨t, b, xs, h1, h2, h3, h4⟩ := h
  exact ⟨t, b, xs, h1, s _ _ h2, s _ _ h3, h4⟩
theorem Trip.lst {H : Hp} {D : Addr} {xs ys : List V} {e : Int × Int × Int} {v : V} (hD : H D = some (.lst xs)) (h : Trip H e v) : Trip (upd H D (.lst ys)) e v := by
  obtain ⟨t, b, zs, h1, h2, h3, h4⟩ := h
  exact ⟨t, b, zs, h1, by rw [upd_ne fun z => by rw [z, hD] at h2; cases h2]; exact h2, by rw [upd_ne fun z => by rw [z, hD] at h3; cases h3]; exact h3, h4⟩
theorem Trip.keep {D : Addr} {H H' : Hp} {e : Int × Int × Int} {v : V} (k : Keep D H H') (h : Trip H e v) : Trip H' e v := by
  obtain ⟨t, b, zs, h1, h2, h3, h4⟩ := h
  obtain ⟨k1, x, y, hx, hy⟩ := k
  exact ⟨t, b, zs, h1, k1 _ _ (fun z => by rw [z, hx] at h2; cases h2) h2, k1 _ _ (fun z => by rw [z, hx] at h3; cases h3) h3, h4⟩
def sp_betti_triples (K : PySem.W.Frag) : Sp := fun vs H Q _ => ∃ (f : Int) (n : Nat) (a : Addr) (rs : List (List Int)) (l : List (Int × Int × Int)), vs = [.int f, .int n, .ref a] ∧ FldOk f ∧ n ≤ 8 ∧ Dp K H (.ref a) (rsD rs) ∧ (∀ r ∈ rs, RowOk 8 r ∧ r ≠ []) ∧ rs.length ≤ 1000 ∧ triplesO f n rs = some l ∧
  ∀ p H' ys, H p = none → H' p = some (.lst ys) → Fits (Trip H') l ys → ys.length ≤ 10000 → Same H H' → Q (.ref p) H'
theorem ok_betti_triples (T : Txt K mg) : FnOk P w K mg base CX0 9 T.betti_triples.f T.betti_triples.fd P_betti_triples (sp_betti_triples K) := by
  refine T.betti_triples.F.ok sc_betti_triples (fun vs H Q E h => ?_) (fun cdv A outer s H vs Q E hr h => ?_)
  · obtain ⟨f, n, a, rs, l, rfl, _⟩ := h; rfl
  · obtain ⟨f, n, a, rs, l, rfl, hf, hn, ha, hrs, hrl, hl, k⟩ := h
    refine ⟨_, (pss_cons (ps_set (i := 3) sc_betti_triples.nd rfl (Or.inl rfl) (pe_call (ok_free_masks T) (hr.mono (by decide)) rfl T.free_masks.g T.free_masks.F.kp (b_free_masks T) .nil pass0 (pa_cons (pv 1) (pa_cons (pv 2) pa_nil))))
  (pss_cons (ps_set (i := 4) sc_betti_triples.nd rfl (Or.inl rfl) (pe_lst pa_nil))
  (pss_cons (ps_for PassesOwn.never rfl (pi_range1 rfl T.n_range (pa_cons (pe_op op_shlW pe_int (pv 1)) pa_nil)) (pg_name (i := 5) sc_betti_triples.nd rfl (Or.inr rfl)) (pss_cons (ps_set (i := 6) sc_betti_triples.nd rfl (Or.inr rfl) (pe_call (ok_set_of T) (hr.mono (by decide)) rfl T.set_of.g T.set_of.F.kp (b_set_of T) .nil pass0 (pa_cons (pv 5) pa_nil)))
  (pss_cons (ps_set (i := 7) sc_betti_triples.nd rfl (Or.inl rfl) (pe_call (ok_dimensions T) (hr.mono (by decide)) rfl T.dimensions.g T.dimensions.F.kp (b_dimensions T) .nil pass0 (pa_cons (pv 0) (pa_cons (pe_call (ok_levels_of T) (hr.mono (by decide)) rfl T.levels_of.g T.levels_of.F.kp (b_levels_of T) .nil pass0 (pa_cons (pe_lc (own := [("mask", 8)]) rfl sc_betti_triples.nd (pi_list (pv 3)) (blkOk_by (own := [("mask", 8)]) (N := N_betti_triples) (sc := defScope s_betti_triples) (by decide +kernel)) (fun _ _ _ _ _ => (pg_name (i := 8) sc_betti_triples.nd rfl (Or.inl rfl))) (fun _ _ _ _ _ => pts_one (pt_val (pe_call (ok_holds T) (hr.mono (by decide)) rfl T.holds.g T.holds.F.kp (b_holds T) .nil pass0 (pa_cons (pv 5) (pa_cons (pv 8) pa_nil))))) (fun _ _ _ _ _ => (pv 8))) pa_nil)) pa_nil))))
  (pss_one (ps_aug (i := 4) sc_betti_triples.nd rfl (Or.inl rfl) (pe_lc (own := [("length", 9), ("number", 10)]) rfl sc_betti_triples.nd (pi_enum rfl T.n_enumerate (pa_cons (pv 7) pa_nil)) (blkOk_by (own := [("length", 9), ("number", 10)]) (N := N_betti_triples) (sc := defScope s_betti_triples) (by decide +kernel)) (fun _ _ _ _ _ => (pg_tupK (K := K) (n := 2) rfl rfl (pgs_cons (pg_name (i := 9) sc_betti_triples.nd rfl (Or.inl rfl)) (pgs_cons (pg_name (i := 10) sc_betti_triples.nd rfl (Or.inl rfl)) pgs_nil)))) (fun _ _ _ _ _ => pts_one (pt_truthK (K := K) rfl (pv 10) (by intro _; rfl))) (fun _ _ _ _ _ => (pe_tup (pa_cons (pe_op op_sub (pe_callB (r := rLenS K) call_len_seq rfl T.n_len bo_len (pa_cons (pv 6) pa_nil)) (pv 9)) (pa_cons (pv 6) (pa_cons (pv 10) pa_nil)))))) ip_ext)))))
  (pss_one (ps_ret (pv 4)))))), ?_⟩
    have hline : 100000 < sizeLine := by decide
    have hp2 : 2 ^ n ≤ 256 := Nat.pow_le_pow_right (by decide) hn
    unfold triplesO at hl
    obtain ⟨ll, hll, rfl⟩ := Option.map_eq_some_iff.mp hl
    obtain ⟨hlen, hat⟩ := mapM_at hll
    rw [List.length_range] at hlen
    walk_at "rd"
    refine ⟨n, a, rs, rfl, hn, ha, fun r hr => (hrs r hr).1, hrl, fun mp H1 hmp e1 s1 => ?_⟩
    walk_at "rd"
    refine ⟨Nat.zero_le _, fun fd hfd => ?_⟩
    have s2 := same_upd (o := .lst []) hfd
    have h2 : (upd H1 fd (.lst [])) fd = some (.lst []) := upd_same
    have e2 := s2 _ _ e1
    have nfd : mp ≠ fd := fun z => by rw [z, hfd] at e1; cases e1
    generalize upd H1 fd (.lst []) = G at *
    walk_at "rd"
    refine ⟨shl_ok (n := 2) (by decide) (by omega), ?_⟩
    have epow : (1 : Int) * 2 ^ (n : Int).toNat = ((2 ^ n : Nat) : Int) := pow_shl (by omega)
    walk_at "rd"
    rw [epow]
    generalize hN : 2 ^ n = N at *
    refine ⟨by omega, by omega, ?_⟩
    rw [Int.toNat_natCast]
    refine for_it walk_range (fun j σ H' => ∃ (ys : List V) (y5 y6 y7 : Option V), σ = [some (.int f), some (.int n), some (.ref a), some (.ref mp), some (.ref fd), y5, y6, y7, none, none, none] ∧ But G H' fd ∧ H' fd = some (.lst ys) ∧ Fits (Trip H') (ll.take j).flatten ys ∧ ys.length ≤ 10 * j) ⟨[], none, none, none, rfl, fun b o _ e => e, h2, Fits.nil, Nat.zero_le _⟩ (fun j σ H' _ q => trivial) (fun j x σ H' H2 hj q y => ?_) (fun σ H' q => ?_)
    · obtain ⟨ys, y5, y6, y7, rfl, but, hys, hfit, hyl⟩ := q
      obtain ⟨rfl, rfl⟩ := y
      have e0 : (0 : Int) + (j : Int) = ((j : Nat) : Int) := Int.zero_add _
      dsimp only
      rw [e0]
      have hj256 : j < 256 := by omega
      have hlj : ll[j]? = some ll[j] := List.getElem?_eq_getElem (by omega)
      have htr := hat j j _ (List.getElem?_range hj) hlj
      unfold tripO at htr
      obtain ⟨ins, hins, htw⟩ := Option.map_eq_some_iff.mp htr
      obtain ⟨f1, f2, f3, f4⟩ := free_facts (w := j) hn rs
      obtain ⟨tl, f5⟩ := free_head (n := n) (w := j) (rs := rs) (fun r hr => (hrs r hr).2)
      generalize hms : (freeMasks n rs).filter (fun m => holdsM j m) = ms at *
      walk_at "rd"
      refine ⟨hj256, fun pb H3 hpb s3 => ?_⟩
      have e3 := s3 _ _ (but _ _ nfd e2)
      walk_at "rd"
      refine ⟨⟨_, .inl (.inl e3)⟩, fun D hD => ?_⟩
      refine lc_gen (walk_list (K := K) (a := mp) (xs := (freeMasks n rs).map nV)) (freeMasks n rs) (fun m => holdsM j m) id (fun m v _ => v = nV m) (by rw [List.length_map]) (fun H' s => .inl (.inl (s _ _ e3))) hD (by rw [List.length_map]; omega) (fun _ _ _ _ _ h => h) (fun i m x Ha Hb Qn Qy hm sa y hf' ht => ?_) (fun H4 zs4 s4 e4 fz => ?_)
      · obtain ⟨rfl, ey⟩ := y
        rw [List.getElem?_map, hm] at ey
        cases ey
        walk_at "rd"
        refine iteB (fun hb => ?_) (fun hb => hf' hb _ (Same.refl _))
        walk_at "rd"
        exact ht hb _ _ (Same.refl _) rfl
      · have ez := fz.map (g := nV)
        rw [List.map_id, hms] at ez
        rw [ez] at e4
        walk_at "rd"
        refine ⟨D, ms, rfl, .inl (.inl e4), f2, ⟨tl, f5⟩, by omega, fun pl H5 hlev s5 => ?_⟩
        walk_at "rd"
        refine ⟨f, pl, levelsL ms, ins, rfl, hf, hlev, lev_ok f1 f2 (by omega), hins, fun pd H6 hpd s6 => ?_⟩
        have s36 := Same.trans s3 (Same.trans s4 (Same.trans s5 s6))
        have hpb6 := Same.trans s4 (Same.trans s5 s6) _ _ hpb
        have hinl : ins.length ≤ 10 := by rw [dims_len hins]; exact (lev_ok f1 f2 (by omega)).len
        have hsl := setOf_len hj256
        walk_at "rd"
        refine ⟨pd, _, rfl, .inl (.inl hpd), fun D7 hD7 => ?_⟩
        have hil : (ins.map V.int).length = ins.length := List.length_map ..
        refine lc_gen (walk_enum (K := K) (a := pd) (xs := ins.map V.int)) (List.range ins.length) (fun k => decide (ins.getD k 0 ≠ 0)) (fun (k : Nat) => (((setOf j).length : Int) - (k : Int), ((setOf j).length : Int), ins.getD k 0)) (fun e v H' => Trip H' e v) (by rw [hil, List.length_range]) (fun H' s => .inl (.inl (s _ _ hpd))) hD7 (by omega) (fun e v Ha Hb kp h => Trip.keep kp h) (fun i q x Ha Hb Qn Qy hq sa y hf' ht => ?_) (fun H8 zs8 s8 e8 fz8 => ?_)
        · obtain ⟨Tt, kx, vx, rfl, q1, rfl, x1, x2⟩ := y
          cases x1
          obtain ⟨hi, rfl⟩ : i < ins.length ∧ q = i := by
            obtain ⟨z1, z2⟩ := List.getElem?_eq_some_iff.mp hq
            rw [List.getElem_range] at z2
            rw [List.length_range] at z1
            exact ⟨z1, z2.symm⟩
          have x2 : (ins.map V.int)[q]? = some vx := x2
          have hgq : ins.getD q 0 = ins[q] := by rw [List.getD_eq_getElem?_getD, List.getElem?_eq_getElem hi]; rfl
          rw [List.getElem?_map, List.getElem?_eq_getElem hi] at x2
          cases x2
          have s7 := same_upd (o := .tup [V.int (q : Nat), V.int ins[q]]) q1
          refine ⟨Tt, _, rfl, .inl (.inl upd_same), rfl, ?_⟩
          walk_at "rd"
          refine iteN0 (fun hne => ?_) (fun he => ?_)
          · have hpb7 := s7 _ _ (sa _ _ hpb6)
            walk_at "rd"
            rw [List.length_map]
            refine ⟨(show 3 ≤ sizeLine by decide), fun p hp => ?_⟩
            have s9 := same_upd (o := .tup [V.int (((setOf j).length : Int) - (q : Int)), V.ref pb, V.int ins[q]]) hp
            refine ht (decide_eq_true (by rw [hgq]; exact hne)) _ _ (Same.trans s7 s9) ⟨p, pb, _, rfl, ?_, s9 _ _ hpb7, by rw [List.length_map], by rw [List.length_map]; exact hsl⟩
            rw [upd_same, hgq]
          · exact hf' (decide_eq_false fun z => z (by rw [hgq]; exact he)) _ s7
        · have hz8 : zs8.length ≤ 10 := by
            rw [fz8.1, List.length_map]
            have := List.length_filter_le (fun k => decide (ins.getD k 0 ≠ 0)) (List.range ins.length)
            rw [List.length_range] at this
            omega
          refine ⟨fd, D7, ys, zs8, rfl, rfl, s8 _ _ (s36 _ _ hys), e8, by omega, ?_⟩
          have sT := Same.trans s36 s8
          have hfd8 := sT _ _ hys
          have ef : (ll.take (j + 1)).flatten = (ll.take j).flatten ++ tripW ((setOf j).length : Int) ins := by
            rw [List.take_add_one, hlj, List.flatten_append, ← htw]
            simp
          refine ⟨ys ++ zs8, _, _, _, rfl, fun b o nb e => (upd_ne nb).trans (sT _ _ (but b o nb e)), upd_same, ?_, by rw [List.length_append]; omega⟩
          rw [ef]
          exact Fits.app (hfit.mono fun e v h => Trip.lst hfd8 (h.same sT)) (fz8.mono fun e v h => Trip.lst hfd8 h)
    · obtain ⟨ys, y5, y6, y7, rfl, but, hys, hfit, hyl⟩ := q
      rw [List.take_of_length_le (by omega)] at hfit
      walk_at "rd"
      refine k fd H' ys (same_none s1 hfd) hys hfit (by omega) fun b o e => but b o (fun z => ?_) (s2 _ _ (s1 _ _ e))
      rw [z, same_none s1 hfd] at e
      cases e
end

/-! ### square_betti -/
def getS : ST → Int × Int → Option Int
  | [], _ => none
  | e :: r, k => if e.1 = k then some e.2 else getS r k
def keyS (k : Int × Int) : List L2.Key := [Sum.inl k.1, Sum.inl k.2]
def kvS (s : ST) : List (List L2.Key × V) := s.map fun e => (keyS e.1, V.int e.2)
def rowS (k : Int × Int) : List Int := [k.1, k.2]
theorem keyS_inj {a b : Int × Int} (h : keyS a = keyS b) : a = b := by
  obtain ⟨h1, h2⟩ := List.cons.inj h
  obtain ⟨h3, _⟩ := List.cons.inj h2
  exact Prod.ext (Sum.inl.inj h1) (Sum.inl.inj h3)
theorem valV_kvS (k : Int × Int) : ∀ s : ST, valV (kvS s) (keyS k) = (getS s k).map V.int
  | [] => rfl
  | e :: r => by
    have ih := valV_kvS k r
    unfold kvS at ih ⊢
    unfold valV at ih ⊢
    unfold getS
    rw [List.map_cons, List.find?_cons]
    by_cases h : e.1 = k
    · rw [if_pos h, decide_eq_true (congrArg keyS h)]; rfl
    · rw [if_neg h, decide_eq_false fun z => h (keyS_inj z)]; exact ih
theorem putS_keys {k : Int × Int} {v : Int} : ∀ {s : ST}, (putS s k v).map (·.1) = if k ∈ s.map (·.1) then s.map (·.1) else s.map (·.1) ++ [k]
  | [] => rfl
  | e :: r => by
    unfold putS
    by_cases h : e.1 = k
    · rw [if_pos h, List.map_cons, List.map_cons, if_pos (by rw [h]; exact List.mem_cons_self)]
    · have ih := putS_keys (k := k) (v := v) (s := r)
      rw [if_neg h, List.map_cons, ih, List.map_cons]
      by_cases c : k ∈ r.map (·.1)
      · rw [if_pos c, if_pos (List.mem_cons_of_mem _ c)]
      · rw [if_neg c, if_neg fun z => (List.mem_cons.mp z).elim (fun z => h z.symm) c]; rfl
theorem putS_nd {k : Int × Int} {v : Int} {s : ST} (h : (s.map (·.1)).Nodup) : ((putS s k v).map (·.1)).Nodup := by
  rw [putS_keys]
  by_cases c : k ∈ s.map (·.1)
  · rw [if_pos c]; exact h
  · rw [if_neg c]; exact nodup_snoc h c
theorem putS_len {k : Int × Int} {v : Int} (s : ST) : (putS s k v).length ≤ s.length + 1 := by
  have := congrArg List.length (putS_keys (k := k) (v := v) (s := s))
  rw [List.length_map] at this
  split at this
  · rw [List.length_map] at this; omega
  · rw [List.length_append, List.length_map, List.length_singleton] at this; omega
theorem kvS_put {k : Int × Int} {v : Int} : ∀ {s : ST}, (s.map (·.1)).Nodup → putK (kvS s) (keyS k) (V.int ((getS s k).getD 0 + v)) = kvS (putS s k v)
  | [], _ => by
    show putK [] (keyS k) (V.int (0 + v)) = _
    rw [Int.zero_add]; rfl
  | e :: r, h => by
    obtain ⟨h1, h2⟩ := List.nodup_cons.mp (by rw [List.map_cons] at h; exact h)
    have ih := kvS_put (k := k) (v := v) h2
    unfold putS getS
    by_cases c : e.1 = k
    · rw [if_pos c, if_pos c]
      unfold kvS putK
      rw [List.map_cons, if_pos (by rw [List.any_cons, decide_eq_true (congrArg keyS c)]; rfl), List.map_cons, List.map_cons, if_pos (congrArg keyS c), Option.getD_some]
      congr 1
      refine (List.map_congr_left fun x hx => ?_).trans (List.map_id _)
      obtain ⟨y, hy, rfl⟩ := List.mem_map.mp hx
      rw [if_neg fun z => h1 (by rw [c, ← keyS_inj z]; exact List.mem_map_of_mem hy)]
      rfl
    · rw [if_neg c, if_neg c]
      have nk : keyS e.1 ≠ keyS k := fun z => c (keyS_inj z)
      unfold kvS putK at ih ⊢
      rw [List.map_cons, List.any_cons, decide_eq_false nk, Bool.false_or]
      by_cases a : ((r.map fun e => (keyS e.1, V.int e.2)).any fun kv => decide (kv.1 = keyS k)) = true
      · rw [if_pos a] at ih ⊢
        rw [List.map_cons, if_neg nk, ih]; rfl
      · rw [if_neg a] at ih ⊢
        rw [List.cons_append, ih]; rfl
theorem getS_mem : ∀ {s : ST} {e : (Int × Int) × Int}, (s.map (·.1)).Nodup → e ∈ s → getS s e.1 = some e.2
  | x :: r, e, h, he => by
    obtain ⟨h1, h2⟩ := List.nodup_cons.mp (by rw [List.map_cons] at h; exact h)
    unfold getS
    rcases List.mem_cons.mp he with rfl | he
    · rw [if_pos rfl]
    · rw [if_neg fun z => h1 (by rw [z]; exact List.mem_map_of_mem he)]
      exact getS_mem h2 he
theorem insS_mem {x e : (Int × Int) × Int} : ∀ {s : ST}, e ∈ insS x s → e = x ∨ e ∈ s
  | [], h => .inl (List.mem_singleton.mp h)
  | y :: r, h => by
    unfold insS at h
    split at h
    · rcases List.mem_cons.mp h with z | z
      · exact .inr (z ▸ List.mem_cons_self)
      · exact (insS_mem z).imp id (List.mem_cons_of_mem _)
    · exact List.mem_cons.mp h
theorem sortS_mem {s : ST} {e : (Int × Int) × Int} (h : e ∈ s.foldr insS []) : e ∈ s := by
  induction s with
  | nil => exact h
  | cons x s ih =>
    rcases insS_mem h with z | z
    · exact z ▸ List.mem_cons_self
    · exact List.mem_cons_of_mem _ (ih z)
theorem insS_map (x : (Int × Int) × Int) : ∀ s : ST, (insS x s).map (fun e => rowS e.1) = insR (rowS x.1) (s.map fun e => rowS e.1)
  | [] => rfl
  | y :: r => by
    have hlt : ltR (rowS y.1) (rowS x.1) = (decide (y.1.1 < x.1.1) || (decide (y.1.1 = x.1.1) && decide (y.1.2 < x.1.2))) := by
      show (if y.1.1 < x.1.1 then true else if x.1.1 < y.1.1 then false else if y.1.2 < x.1.2 then true else if x.1.2 < y.1.2 then false else false) = _
      by_cases h1 : y.1.1 < x.1.1
      · simp [h1]
      · by_cases h2 : x.1.1 < y.1.1
        · have : y.1.1 ≠ x.1.1 := by omega
          simp [h1, h2, this]
        · have : y.1.1 = x.1.1 := by omega
          by_cases h3 : y.1.2 < x.1.2 <;> simp [this, h3]
    unfold insS
    rw [List.map_cons]
    unfold insR
    rw [hlt]
    split
    · rw [List.map_cons, insS_map x r]
    · rfl
theorem sortS_rows (s : ST) : (s.foldr insS []).map (fun e => rowS e.1) = isort (s.map fun e => rowS e.1) := by
  induction s with
  | nil => rfl
  | cons x s ih =>
    show (insS x (s.foldr insS [])).map _ = insR (rowS x.1) (isort (s.map fun e => rowS e.1))
    rw [insS_map, ih]
theorem keys_fits {H : Hp} : ∀ {S : ST} {bs : List Addr}, IsKeys H (kvS S) bs → Fits (Plain H) (S.map fun e => rowS e.1) (bs.map V.ref)
  | [], _, h => by cases h; exact Fits.nil
  | e :: S, _, h => by
    cases h with
    | @cons _ b _ bs x t =>
      obtain ⟨h1, h2⟩ := keys_fits (S := S) t
      refine ⟨by rw [List.map_cons, List.map_cons, List.length_cons, List.length_cons, h1], fun i r v hr hv => ?_⟩
      cases i with
      | zero =>
        cases hr
        cases hv
        exact ⟨b, rfl, x⟩
      | succ i => exact h2 i r v (by simpa using hr) (by simpa using hv)
/-- the sums of the triples -/
def sumS (s : ST) (e : Int × Int × Int) : ST := putS s (e.1, e.2.1) e.2.2
theorem sums_nd (l : List (Int × Int × Int)) (i : Nat) : (((l.take i).foldl sumS []).map (·.1)).Nodup := by
  have key : ∀ (l : List (Int × Int × Int)) (s : ST), (s.map (·.1)).Nodup → ((l.foldl sumS s).map (·.1)).Nodup := by
    intro l
    induction l with
    | nil => intro s h; exact h
    | cons e l ih => intro s h; exact ih _ (putS_nd h)
  exact key _ _ List.nodup_nil
theorem sums_len (l : List (Int × Int × Int)) (i : Nat) : ((l.take i).foldl sumS []).length ≤ i := by
  have key : ∀ (l : List (Int × Int × Int)) (s : ST), (l.foldl sumS s).length ≤ s.length + l.length := by
    intro l
    induction l with
    | nil => intro s; exact Nat.le_refl _
    | cons e l ih =>
      intro s
      have h1 := ih (sumS s e)
      have h2 := putS_len (k := (e.1, e.2.1)) (v := e.2.2) s
      rw [List.foldl_cons, List.length_cons]
      have : (sumS s e).length ≤ s.length + 1 := h2
      omega
  have := key (l.take i) []
  rw [List.length_take, List.length_nil] at this
  omega
section
variable {P : Program} {w : World} {K : PySem.W.Frag} {mg : Str → Option Value} {base : Heap}
def sp_square_betti (t : TabsAt) (K : PySem.W.Frag) : Sp := fun vs H Q _ => ∃ (f : Int) (n : Nat) (a : Addr) (rs : List (List Int)) (l : List (Int × Int × Int)), vs = [.int f, .int n, .ref a] ∧ FldOk f ∧ 1 ≤ n ∧ n ≤ 8 ∧ Dp K H (.ref a) (rsD rs) ∧ (∀ r ∈ rs, RowOk n r ∧ r ≠ []) ∧ rs.length ≤ 70 ∧ sqbettiO f n rs = some l ∧ TS t H ∧
  ∀ p H' ys, H' p = some (.lst ys) → DpAll K H' ys (l.map fun e => PyData.tuple [.int e.1, .int e.2.1, .int e.2.2]) → Ex t H H' → Q (.ref p) H'
theorem ok_square_betti (T : Txt K mg) {t : TabsAt} (B : TBs T base t) : FnOk P w K mg base CX0 18 T.square_betti.f T.square_betti.fd P_square_betti (sp_square_betti t K) := by
  refine T.square_betti.F.ok sc_square_betti (fun vs H Q E h => ?_) (fun cdv A outer s H vs Q E hr h => ?_)
  · obtain ⟨f, n, a, rs, l, rfl, _⟩ := h; rfl
  · obtain ⟨f, n, a, rs, l, rfl, hf, hn1, hn, ha, hrs, hrl, hl, ts, k⟩ := h
    refine ⟨_, (pss_cons (ps_expr (pe_call (ok_check_field T) (hr.mono (by decide)) rfl T.check_field.g T.check_field.F.kp (b_check_field T) .nil pass0 (pa_cons (pv 0) pa_nil)))
  (pss_cons (ps_expr (pe_call (ok_check_sets T B) (hr.mono (by decide)) rfl T.check_sets.g T.check_sets.F.kp (b_check_sets T) .nil pass0 (pa_cons (pv 1) (pa_cons (pv 2) pa_nil))))
  (pss_cons (ps_set (i := 3) sc_square_betti.nd rfl (Or.inr rfl) pe_dnewT)
  (pss_cons (ps_for PassesOwn.never rfl (pi_list (pe_call (ok_betti_triples T) (hr.mono (by decide)) rfl T.betti_triples.g T.betti_triples.F.kp (b_betti_triples T) .nil pass0 (pa_cons (pv 0) (pa_cons (pv 1) (pa_cons (pv 2) pa_nil))))) (pg_tup rfl (pgs_cons (pg_name (i := 4) sc_square_betti.nd rfl (Or.inl rfl)) (pgs_cons (pg_name (i := 5) sc_square_betti.nd rfl (Or.inl rfl)) (pgs_cons (pg_name (i := 6) sc_square_betti.nd rfl (Or.inl rfl)) pgs_nil)))) (pss_one (ps_dput (Nat.lt_of_le_of_lt (Nat.add_le_add_left (show 1 ≤ 64 by decide) _) hr.units) (pv 3) (pe_tup (pa_cons (pv 4) (pa_cons (pe_callB (r := rLenS K) call_len_seq rfl T.n_len bo_len (pa_cons (pv 5) pa_nil)) pa_nil))) (pe_op op_add (pe_dget2 (Nat.lt_of_le_of_lt (Nat.add_le_add_left (show 1 ≤ 64 by decide) _) hr.units) (pv 3) (pe_tup (pa_cons (pv 4) (pa_cons (pe_callB (r := rLenS K) call_len_seq rfl T.n_len bo_len (pa_cons (pv 5) pa_nil)) pa_nil))) pe_int ⟨rfl, rfl, rfl, rfl⟩) (pv 6)) rfl)))
  (pss_one (ps_ret (pe_lc (own := [("step", 4), ("size", 7)]) rfl sc_square_betti.nd (pi_list (pe_callB (r := rSortedE K) (cr_sortedE hr.units) rfl T.n_sorted bo_sorted (pa_cons (pe_callTy (call_list_dT rfl) rfl T.n_list bo_list (pa_cons (pv 3) pa_nil)) pa_nil))) (blkOk_by (own := [("step", 4), ("size", 7)]) (N := N_square_betti) (sc := defScope s_square_betti) (by decide +kernel)) (fun _ _ _ _ _ => (pg_tupK (K := K) (n := 2) rfl rfl (pgs_cons (pg_name (i := 4) sc_square_betti.nd rfl (Or.inl rfl)) (pgs_cons (pg_name (i := 7) sc_square_betti.nd rfl (Or.inl rfl)) pgs_nil)))) (fun _ _ _ _ _ => pts_nil) (fun _ _ _ _ _ => (pe_tup (pa_cons (pv 4) (pa_cons (pv 7) (pa_cons (pe_dget (Nat.lt_of_le_of_lt (Nat.add_le_add_left (show 1 ≤ 64 by decide) _) hr.units) (pv 3) (pe_tup (pa_cons (pv 4) (pa_cons (pv 7) pa_nil))) (fun _ _ => rfl)) pa_nil)))))))))))), ?_⟩
    have hline : 100000 < sizeLine := by decide
    unfold sqbettiO at hl
    obtain ⟨tr, htr, hl⟩ := Option.bind_eq_some_iff.mp hl
    have hl := Option.some.inj hl
    have hsum : tr.foldl (fun s e => putS s (e.1, e.2.1) e.2.2) [] = tr.foldl sumS [] := rfl
    rw [hsum] at hl
    walk_at "rd"
    refine ⟨hf, ?_⟩
    dsimp only
    walk_at "rd"
    refine ⟨n, a, rs, rfl, hn1, hn, ha, fun r hr => (hrs r hr).1, hrl, ts, fun H1 x1 => ?_⟩
    have ha1 : Dp K H1 (.ref a) (rsD rs) := Dp.tp (tp_ext x1.keep) _ _ (tOnly_rows rs) ha
    walk_at "rd"
    refine fun sd hsd => ?_
    have s2 := same_upd (o := .dT []) hsd
    have h2 : (upd H1 sd (.dT [])) sd = some (.dT []) := upd_same
    generalize upd H1 sd (.dT []) = H2 at *
    walk_at "rd"
    refine ⟨f, n, a, rs, tr, rfl, hf, hn, Dp.same s2 _ _ ha1, fun r hr => ⟨(hrs r hr).1.mono hn, (hrs r hr).2⟩, by omega, htr, fun pl G ys hpl eG fitG hyl s3 => ?_⟩
    have hsG := s3 _ _ h2
    have npl : pl ≠ sd := fun z => by rw [z, h2] at hpl; cases hpl
    walk_at "rd"
    refine ⟨⟨_, .inl (.inl eG)⟩, ?_⟩
    refine for_list (K := K) (a := pl) (xs := ys) (fun j σ H' => ∃ y4 y5 y6 : Option V, σ = [some (.int f), some (.int n), some (.ref a), some (.ref sd), y4, y5, y6, none] ∧ But G H' sd ∧ H' sd = some (.dT (kvS ((tr.take j).foldl sumS [])))) ⟨none, none, none, rfl, fun b o _ e => e, hsG⟩ (fun j σ H' _ q => ?_) (fun j x σ H' hj q => ?_) (fun σ H' q => ?_)
    · obtain ⟨_, _, _, rfl, but, _⟩ := q
      exact .inl (.inl (but _ _ npl eG))
    · obtain ⟨y4, y5, y6, rfl, but, hs'⟩ := q
      have hjt : j < tr.length := by rw [← fitG.1]; exact (List.getElem?_eq_some_iff.mp hj).1
      obtain ⟨tt, pb, xs, rfl, ht1, ht2, ht3, ht4⟩ := fitG.2 j _ _ (List.getElem?_eq_getElem hjt) hj
      have et : (tr.take (j + 1)).foldl sumS [] = sumS ((tr.take j).foldl sumS []) tr[j] := by rw [List.take_add_one, List.getElem?_eq_getElem hjt, List.foldl_append]; rfl
      have hnd := sums_nd tr j
      have hsl := sums_len tr j
      have hj' : j < 10000 := by have := (List.getElem?_eq_some_iff.mp hj).1; omega
      rw [et]
      generalize (tr.take j).foldl sumS [] = S at *
      have gt := but _ _ (fun z => by rw [z, hsG] at ht1; cases ht1) ht1
      have gb := but _ _ (fun z => by rw [z, hsG] at ht2; cases ht2) ht2
      generalize tr[j] = e at *
      refine ⟨tt, _, rfl, .inl (.inl gt), rfl, ?_⟩
      walk_at "rd"
      refine ⟨.inr ⟨_, .inl hs'⟩, ?_⟩
      walk_at "rd"
      rw [ht3]
      refine ⟨(show 2 ≤ sizeLine by decide), fun p hp => ?_⟩
      have s5 := same_upd (o := .tup [V.int e.1, V.int e.2.1]) hp
      have e5 : (upd H' p (.tup [V.int e.1, V.int e.2.1])) p = some (.tup ((keyS (e.1, e.2.1)).map kV)) := upd_same
      generalize upd H' p (.tup [V.int e.1, V.int e.2.1]) = H5 at *
      have hs5 := s5 _ _ hs'
      have hg := DGet.t hs5 e5
      rw [valV_kvS] at hg
      walk_at "rd"
      refine ⟨_, hg, ?_⟩
      have eg : ((getS S (e.1, e.2.1)).map V.int).getD (V.int 0) = V.int ((getS S (e.1, e.2.1)).getD 0) := by
        cases getS S (e.1, e.2.1) <;> rfl
      rw [eg]
      walk_at "rd"
      refine ⟨pb, _, rfl, .inr (.inl (.inl (s5 _ _ gb))), ?_⟩
      rw [ht3]
      refine ⟨(show 2 ≤ sizeLine by decide), fun p2 hp2 => ?_⟩
      have s6 := same_upd (o := .tup [V.int e.1, V.int e.2.1]) hp2
      have e6 : (upd H5 p2 (.tup [V.int e.1, V.int e.2.1])) p2 = some (.tup ((keyS (e.1, e.2.1)).map kV)) := upd_same
      generalize upd H5 p2 (.tup [V.int e.1, V.int e.2.1]) = H6 at *
      refine ⟨sd, _, rfl, DPut.t (s6 _ _ hs5) e6 (by unfold kvS; rw [List.length_map]; omega), _, _, _, rfl, fun b o nb e => (upd_ne nb).trans (s6 _ _ (s5 _ _ (but b o nb e))), ?_⟩
      rw [upd_same, kvS_put hnd]
      rfl
    · obtain ⟨y4, y5, y6, rfl, but, hs'⟩ := q
      rw [fitG.1, List.take_length] at hs'
      have hnd := sums_nd tr tr.length
      have hsl := sums_len tr tr.length
      rw [List.take_length] at hnd hsl
      have htl : tr.length ≤ 10000 := by rw [← fitG.1]; exact hyl
      generalize tr.foldl sumS [] = S at *
      walk_at "rd"
      refine ⟨sd, _, rfl, .inl hs', fun p bs hp hk => ?_⟩
      have sH : Same H1 H' := fun b o e => but b o (fun z => by rw [z, hsd] at e; cases e) (s3 _ _ (s2 _ _ e))
      have s4 := same_upd (o := .lst (bs.map V.ref)) hp
      have e4 : (upd H' p (.lst (bs.map V.ref))) p = some (.lst (bs.map V.ref)) := upd_same
      have fk : Fits (Plain (upd H' p (.lst (bs.map V.ref)))) (S.map fun e => rowS e.1) (bs.map V.ref) := by
        have h0 := keys_fits hk
        exact h0.mono fun r v h => h.same s4
      have hd4 := s4 _ _ hs'
      generalize upd H' p (.lst (bs.map V.ref)) = H4 at *
      walk_at "rd"
      refine sorted_isort (R := Plain) (fun _ _ _ _ s h => h.same s) (fun _ _ _ h => h.dp) (.inl (.inl e4)) fk (.inl fun c hc z => ?_) fun p5 zs hp5 hz => ?_
      · obtain ⟨e, _, rfl⟩ := List.mem_map.mp hc
        cases z
      have s5 := same_upd (o := .lst zs) hp5
      have e5 : (upd H4 p5 (.lst zs)) p5 = some (.lst zs) := upd_same
      have hd5 := s5 _ _ hd4
      generalize upd H4 p5 (.lst zs) = H5 at *
      have hzl : zs.length = S.length := by rw [hz.1, isort_len, List.length_map]
      rw [← sortS_rows] at hz
      have hol : (S.foldr insS []).length = zs.length := by rw [hz.1, List.length_map]
      walk_at "rd"
      refine ⟨⟨_, .inl (.inl e5)⟩, fun D hD => ?_⟩
      refine lc_gen (walk_list (K := K) (a := p5) (xs := zs)) (S.foldr insS []) (fun _ => true) (fun e => (e.1.1, e.1.2, e.2)) (fun (e : Int × Int × Int) v H' => Dp K H' v (.tuple [.int e.1, .int e.2.1, .int e.2.2])) hol (fun H' s => .inl (.inl (s _ _ e5))) hD (by omega) (fun e v _ _ kp h => Dp.tp kp.tp _ _ rfl h) (fun i e x Ha Hb Qn Qy he sa y _ ht => ?_) (fun H6 zs6 s6 e6 fz6 => ?_)
      · obtain ⟨rfl, ey⟩ := y
        obtain ⟨b, rfl, hb⟩ := hz.2 i (rowS e.1) x (by rw [List.getElem?_map, he]; rfl) ey
        have hbb := sa _ _ hb
        have hdb := sa _ _ hd5
        refine ⟨b, _, rfl, .inl (.inl hbb), rfl, ?_⟩
        walk_at "rd"
        refine ⟨(show 2 ≤ sizeLine by decide), fun p7 hp7 => ?_⟩
        have s7 := same_upd (o := .tup [V.int e.1.1, V.int e.1.2]) hp7
        have e7 : (upd Hb p7 (.tup [V.int e.1.1, V.int e.1.2])) p7 = some (.tup ((keyS e.1).map kV)) := upd_same
        generalize upd Hb p7 (.tup [V.int e.1.1, V.int e.1.2]) = H7 at *
        have hg := DGet.t (s7 _ _ hdb) e7
        rw [valV_kvS, getS_mem hnd (sortS_mem (List.mem_of_getElem? he))] at hg
        refine ⟨sd, _, rfl, hg, ?_⟩
        walk_at "rd"
        refine ⟨(show 3 ≤ sizeLine by decide), fun p8 hp8 => ?_⟩
        have s8 := same_upd (o := .tup [V.int e.1.1, V.int e.1.2, V.int e.2]) hp8
        exact ht rfl _ _ (Same.trans s7 s8) (.tup (.inl (.inl upd_same)) (.cons (.int _) (.cons (.int _) (.cons (.int _) .nil))))
      · rw [filterT, hl] at fz6
        refine k D H6 zs6 e6 (dpAll_get (by rw [List.length_map]; exact fz6.1) fun j v d h1 h2 => ?_) (x1.same (Same.trans sH (Same.trans s4 (Same.trans s5 s6))))
        rw [List.getElem?_map] at h2
        obtain ⟨e, he, rfl⟩ := Option.map_eq_some_iff.mp h2
        exact fz6.2 j e v he h1
end

/-! ### the law's own draws -/
/-- the law's row at r: the script, how many cells are taken, a mixed number, a cell's rest -/
def SqN (K : PySem.W.Frag) (H : Hp) (r sa : Addr) (xs : List V) : Prop := (Rd H sa (.lst xs) ∧ sa ≠ r) ∨
  ∃ (o : Obj) (its : Array Value) (n : Nat), K.lookup sa = some o ∧ o.cls = .type "list" ∧ o.dict = none ∧ o.data = .seq its n ∧ its.size ≤ sizeLine ∧ Vals xs its.toList
theorem SqN.sq {K : PySem.W.Frag} {H : Hp} {r sa : Addr} {xs : List V} (h : SqN K H r sa xs) : SqL K H sa xs := by
  rcases h with ⟨h, _⟩ | h
  · exact .inl h
  · exact .inr h
theorem sqn_ne {K : PySem.W.Frag} {H : Hp} {r sa : Addr} {o : HO} {xs : List V} (h : SqN K H r sa xs) : SqN K (upd H r o) r sa xs := by
  rcases h with ⟨h | ⟨u, h⟩, n⟩ | h
  · exact .inl ⟨.inl ((upd_ne n).trans h), n⟩
  · exact .inl ⟨.inr ⟨u, (upd_ne n).trans h⟩, n⟩
  · exact .inr h
def RowAt (K : PySem.W.Frag) (H : Hp) (r sa : Addr) (ns : List Int) : Prop := ∃ (p s e : Int),
  H r = some (.lst [.ref sa, .int p, .int s, .int e]) ∧ SqN K H r sa (ns.map V.int) ∧ 0 ≤ p ∧ 0 ≤ s ∧ s < 2147483647 ∧ 0 ≤ e
/-- nothing but the row has changed -/
def ButRow (r : Addr) (H H' : Hp) : Prop := ∀ b, b ≠ r → H' b = H b
theorem RowAt.of {K : PySem.W.Frag} {H : Hp} {r sa : Addr} {ns : List Int} {p s e : Int} {xs : List V} (hx : xs = [.ref sa, .int p, .int s, .int e]) (hS : SqN K H r sa (ns.map V.int))
    (h1 : 0 ≤ p) (h2 : 0 ≤ s) (h3 : s < 2147483647) (h4 : 0 ≤ e) : RowAt K (upd H r (.lst xs)) r sa ns := by
  subst hx
  exact ⟨p, s, e, upd_same, sqn_ne hS, h1, h2, h3, h4⟩
theorem ButRow.of {H : Hp} {r : Addr} {o : HO} : ButRow r H (upd H r o) := fun b n => upd_ne n
section
variable {P : Program} {w : World} {K : PySem.W.Frag} {mg : Str → Option Value} {base : Heap}
def sp_law_taken (K : PySem.W.Frag) : Sp := fun vs H Q _ => ∃ (r sa : Addr) (ns : List Int) (m : Int), vs = [.ref r, .int m] ∧ RowAt K H r sa ns ∧ 1 ≤ m ∧ m ≤ 1000000000 ∧
  ∀ (v : Int) H', 0 ≤ v → v < m → RowAt K H' r sa ns → ButRow r H H' → Q (.int v) H'
theorem ok_law_taken (T : Txt K mg) : FnOk P w K mg base CX0 1 T.law_taken.f T.law_taken.fd P_law_taken (sp_law_taken K) := by
  refine T.law_taken.F.ok sc_law_taken (fun vs H Q E h => ?_) (fun cdv A outer s H vs Q E hr h => ?_)
  · obtain ⟨r, sa, ns, m, rfl, _⟩ := h; rfl
  · obtain ⟨r, sa, ns, m, rfl, ⟨p, sd, e, hrow, hS, hp, hs, hs2, he⟩, hm, hm2, k⟩ := h
    refine ⟨_, (pss_cons (ps_if (pt_cmpR op_gt (pe_ix (r := rIxL K) ix_list (pv 0) pe_int (fun _ _ => rfl)) pe_int (nomark _)) (pss_cons (ps_set (i := 2) sc_law_taken.nd rfl (Or.inl rfl) (pe_op op_mod (pe_callTy call_int1 rfl T.n_int bo_int (pa_cons (pe_ix (r := rIxL K) ix_list (pv 0) pe_int (fun _ _ => rfl)) pa_nil)) (pv 1)))
  (pss_cons (ps_asg (pe_op op_fdivZ (pe_ix (r := rIxL K) ix_list (pv 0) pe_int (fun _ _ => rfl)) (pv 1)) (pg_sub (pv 0) pe_int set_list))
  (pss_one (ps_ret (pv 2))))) pss_nil)
  (pss_cons (ps_asg (pe_op op_add (pe_ix (r := rIxL K) ix_list (pv 0) pe_int (fun _ _ => rfl)) pe_int) (pg_sub (pv 0) pe_int set_list))
  (pss_cons (ps_if (pt_cmpR op_gt (pe_ix (r := rIxL K) ix_list (pv 0) pe_int (fun _ _ => rfl)) (pe_callB (r := rLenS K) call_len_seq rfl T.n_len bo_len (pa_cons (pe_ix (r := rIxL K) ix_list (pv 0) pe_int (fun _ _ => rfl)) pa_nil)) (nomark _)) (pss_cons (ps_asg (pe_op op_mod (pe_callTy call_int1 rfl T.n_int bo_int (pa_cons (pe_op op_add (pe_op op_mulW (pe_ix (r := rIxL K) ix_list (pv 0) pe_int (fun _ _ => rfl)) pe_int) pe_int) pa_nil)) pe_int) (pg_sub (pv 0) pe_int set_list))
  (pss_one (ps_ret (pe_op op_mod (pe_callTy call_int1 rfl T.n_int bo_int (pa_cons (pe_op op_fdivZ (pe_ix (r := rIxL K) ix_list (pv 0) pe_int (fun _ _ => rfl)) pe_int) pa_nil)) (pv 1))))) pss_nil)
  (pss_cons (ps_set (i := 3) sc_law_taken.nd rfl (Or.inl rfl) (pe_ix (r := rIxL K) ix_list (pe_ix (r := rIxL K) ix_list (pv 0) pe_int (fun _ _ => rfl)) (pe_op op_sub (pe_ix (r := rIxL K) ix_list (pv 0) pe_int (fun _ _ => rfl)) pe_int) (fun _ _ => rfl)))
  (pss_cons (ps_asg (pe_op op_mod (pe_callTy call_int1 rfl T.n_int bo_int (pa_cons (pe_op op_add (pe_op op_add (pe_op op_mulW (pe_ix (r := rIxL K) ix_list (pv 0) pe_int (fun _ _ => rfl)) pe_int) (pv 3)) pe_int) pa_nil)) pe_int) (pg_sub (pv 0) pe_int set_list))
  (pss_cons (ps_if (pt_cmpR op_ge (pv 3) (pe_op op_powW pe_int pe_int) (nomark _)) (pss_one (ps_asg (pe_op op_fdivZ (pv 3) (pv 1)) (pg_sub (pv 0) pe_int set_list))) pss_nil)
  (pss_one (ps_ret (pe_op op_mod (pe_callTy call_int1 rfl T.n_int bo_int (pa_cons (pv 3) pa_nil)) (pv 1)))))))))), ?_⟩
    walk_at "rd"
    refine iteD (fun h1 => ?_) (fun h1 => ?_)
    · walk_at "rd"
      refine k _ _ (Int.emod_nonneg _ (by omega)) (Int.emod_lt_of_pos _ (by omega)) (.of rfl hS hp hs hs2 ?_) .of
      rw [Int.fdiv_eq_ediv_of_nonneg _ (by omega)]
      exact Int.ediv_nonneg he (by omega)
    · walk_at "rd"
      refine ⟨_, _, rfl, .inl (sqn_ne hS).sq, ?_⟩
      walk_at "rd"
      refine iteD (fun h2 => ?_) (fun h2 => ?_)
      · walk_at "rd"
        refine k _ _ (Int.emod_nonneg _ (by omega)) (Int.emod_lt_of_pos _ (by omega)) (.of rfl (sqn_ne hS) (show 0 ≤ p + 1 by omega) (Int.emod_nonneg _ (by omega)) (Int.emod_lt_of_pos _ (by omega)) he) fun b n => ?_
        rw [upd_ne n, upd_ne n]
      · rw [List.length_map] at h2
        obtain ⟨c, hc⟩ : ∃ c, ns[p.toNat]? = some c := ⟨_, List.getElem?_eq_getElem (by omega)⟩
        have hat : atI (ns.map V.int) (p + 1 - 1) = some (V.int c) := by
          rw [show p + 1 - 1 = (p.toNat : Int) by omega]
          refine atI_nat ?_
          rw [List.getElem?_map, hc]; rfl
        walk_at "rd"
        refine ⟨_, _, _, _, rfl, rfl, (sqn_ne hS).sq, hat, ?_⟩
        walk_at "rd"
        refine iteD (fun h3 => ?_) (fun h3 => ?_)
        · walk_at "rd"
          have h3' : (0 : Int) ≤ c := by
            have : ((10 : Int) ^ (18 : Int).toNat) = 1000000000000000000 := by decide
            omega
          refine k _ _ (Int.emod_nonneg _ (by omega)) (Int.emod_lt_of_pos _ (by omega)) (.of rfl (sqn_ne (sqn_ne hS)) (show 0 ≤ p + 1 by omega) (Int.emod_nonneg _ (by omega)) (Int.emod_lt_of_pos _ (by omega)) ?_) fun b n => ?_
          · rw [Int.fdiv_eq_ediv_of_nonneg _ (by omega)]
            exact Int.ediv_nonneg h3' (by omega)
          · rw [upd_ne n, upd_ne n, upd_ne n]
        · walk_at "rd"
          refine k _ _ (Int.emod_nonneg _ (by omega)) (Int.emod_lt_of_pos _ (by omega)) (.of rfl (sqn_ne hS) (show 0 ≤ p + 1 by omega) (Int.emod_nonneg _ (by omega)) (Int.emod_lt_of_pos _ (by omega)) he) fun b n => ?_
          rw [upd_ne n, upd_ne n]
/-- things is a list at p: the draw gives one of its items -/
def sp_law_pick (K : PySem.W.Frag) : Sp := fun vs H Q _ => ∃ (r sa l : Addr) (ns : List Int) (xs : List V), vs = [.ref r, .ref l] ∧ RowAt K H r sa ns ∧ SqL K H l xs ∧ l ≠ r ∧ 1 ≤ xs.length ∧ xs.length ≤ 1000000000 ∧
  ∀ (v : V) H', v ∈ xs → RowAt K H' r sa ns → ButRow r H H' → Q v H'
theorem sql_but {K : PySem.W.Frag} {H H' : Hp} {r a : Addr} {xs : List V} (h : SqL K H a xs) (n : a ≠ r) (b : ButRow r H H') : SqL K H' a xs := by
  rcases h with (h | ⟨u, h⟩) | h
  · exact .inl (.inl ((b a n).trans h))
  · exact .inl (.inr ⟨u, (b a n).trans h⟩)
  · exact .inr h
theorem ok_law_pick (T : Txt K mg) : FnOk P w K mg base CX0 2 T.law_pick.f T.law_pick.fd P_law_pick (sp_law_pick K) := by
  refine T.law_pick.F.ok sc_law_pick (fun vs H Q E h => ?_) (fun cdv A outer s H vs Q E hr h => ?_)
  · obtain ⟨r, sa, l, ns, xs, rfl, _⟩ := h; rfl
  · obtain ⟨r, sa, l, ns, xs, rfl, hrow, hl, hne, h1, h2, k⟩ := h
    refine ⟨_, (pss_one (ps_ret (pe_ix (r := rIxL K) ix_list (pv 1) (pe_call (ok_law_taken T) (hr.mono (by decide)) rfl T.law_taken.g T.law_taken.F.kp (b_law_taken T) .nil pass0 (pa_cons (pv 0) (pa_cons (pe_callB (r := rLenS K) call_len_seq rfl T.n_len bo_len (pa_cons (pv 1) pa_nil)) pa_nil))) (fun _ _ => rfl)))), ?_⟩
    walk_at "rd"
    refine ⟨_, _, rfl, .inl hl, ?_⟩
    walk_at "rd"
    refine ⟨r, sa, ns, _, rfl, hrow, by omega, by omega, fun v H' v0 v1 hrow' hb => ?_⟩
    have hlt : v.toNat < xs.length := by omega
    refine ⟨_, _, _, xs[v.toNat], rfl, rfl, sql_but hl hne hb, ?_, ?_⟩
    · exact at_of (show v = (v.toNat : Int) by omega) (List.getElem?_eq_getElem hlt)
    · exact k _ _ (List.getElem_mem hlt) hrow' hb
end

section
variable {P : Program} {w : World} {K : PySem.W.Frag} {mg : Str → Option Value} {base : Heap}
/-- all but the row stays, and the row is a row -/
structure RK (K : PySem.W.Frag) (r sa : Addr) (ns : List Int) (H H' : Hp) : Prop where
  keep : KeepBut r H H'
  row : RowAt K H' r sa ns
theorem row_lst {H : Hp} {r sa : Addr} {ns : List Int} (h : RowAt K H r sa ns) : ∃ xs, H r = some (.lst xs) := by
  obtain ⟨p, s, e, h, _⟩ := h
  exact ⟨_, h⟩
theorem RowAt.sm {H H' : Hp} {r sa : Addr} {ns : List Int} (h : RowAt K H r sa ns) (s : Same H H') : RowAt K H' r sa ns := by
  obtain ⟨p, sd, e, hrow, hS, hb⟩ := h
  refine ⟨p, sd, e, s _ _ hrow, ?_, hb⟩
  rcases hS with ⟨q | ⟨u, q⟩, n⟩ | q
  · exact .inl ⟨.inl (s _ _ q), n⟩
  · exact .inl ⟨.inr ⟨u, s _ _ q⟩, n⟩
  · exact .inr q
theorem RK.of {H H' : Hp} {r sa : Addr} {ns : List Int} (h : RowAt K H r sa ns) (s : Same H H') : RK K r sa ns H H' := ⟨.of s, h.sm s⟩
theorem RK.draw {H H' : Hp} {r sa : Addr} {ns : List Int} (h : RowAt K H' r sa ns) (b : ButRow r H H') : RK K r sa ns H H' := ⟨fun c o n e => (b c n).trans e, h⟩
theorem RK.trans {H H1 H2 : Hp} {r sa : Addr} {ns : List Int} (a : RK K r sa ns H H1) (b : RK K r sa ns H1 H2) : RK K r sa ns H H2 := ⟨a.keep.trans b.keep, b.row⟩
theorem RK.tp {H H' : Hp} {r sa : Addr} {ns : List Int} (h : RowAt K H r sa ns) (a : RK K r sa ns H H') : Tp H H' := fun b xs q => by
  obtain ⟨ys, hr⟩ := row_lst h
  have n : b ≠ r := fun e => by
    subst e
    rcases q with q | ⟨o, q⟩
    · rw [hr] at q; cases q
    · rw [hr] at q; cases q
  rcases q with q | ⟨o, q⟩
  · exact .inl (a.keep _ _ n q)
  · exact .inr ⟨o, a.keep _ _ n q⟩
/-- i items are made at D while the row is drawn from -/
def MapRow (K : PySem.W.Frag) (r sa : Addr) (ns : List Int) (H1 : Hp) (D : Addr) (R : Nat → V → Prop) (i : Nat) (H : Hp) : Prop := ∃ ys, RK K r sa ns H1 H ∧ H D = some (.lst ys) ∧ ys.length = i ∧ ∀ (j : Nat) (y : V), ys[j]? = some y → R j y
theorem mapRow_0 {r sa : Addr} {ns : List Int} {H1 : Hp} {D : Addr} {R : Nat → V → Prop} (hr : RowAt K H1 r sa ns) (hD : H1 D = Option.none) : MapRow K r sa ns H1 D R 0 (upd H1 D (.lst [])) := ⟨[], .of hr (same_upd hD), upd_same, rfl, fun j y h => by simp at h⟩
theorem mapRow_step {r sa : Addr} {ns : List Int} {H1 H H4 : Hp} {D : Addr} {R : Nat → V → Prop} {i : Nat} {y : V} (h : MapRow K r sa ns H1 D R i H) (hr : RowAt K H1 r sa ns) (hD : H1 D = Option.none) (hz : i < sizeLine) (s : RK K r sa ns H H4) (q : R i y) :
    ∃ acc, H4 D = some (.lst acc) ∧ acc.length < sizeLine ∧ MapRow K r sa ns H1 D R (i + 1) (upd H4 D (.lst (acc ++ [y]))) := by
  obtain ⟨ys, h1, h2, h3, h4⟩ := h
  obtain ⟨zs, hrz⟩ := row_lst hr
  have nD : D ≠ r := fun e => by rw [e, hrz] at hD; cases hD
  have e4 := s.keep _ _ nD h2
  refine ⟨ys, e4, by rw [h3]; exact hz, ys ++ [y], ⟨fun b o nb e => ?_, ?_⟩, upd_same, by simp [h3], fun j z hz => ?_⟩
  · rw [upd_ne (ne_of_none e hD)]
    exact s.keep _ _ nb (h1.keep _ _ nb e)
  · obtain ⟨p, sd, e, hrow, hS, hb⟩ := s.row
    refine ⟨p, sd, e, (upd_ne (fun z => nD z.symm)).trans hrow, ?_, hb⟩
    obtain ⟨_, _, _, _, hS1, _⟩ := hr
    have ns' : (∃ o, H1 sa = some o) → sa ≠ D := fun ⟨o, z⟩ => ne_of_none z hD
    rcases hS with ⟨q | ⟨u, q⟩, n⟩ | q
    · rcases hS1 with ⟨w | ⟨u, w⟩, _⟩ | ⟨o, its, m, w, _⟩
      · exact .inl ⟨.inl ((upd_ne (ns' ⟨_, w⟩)).trans q), n⟩
      · exact .inl ⟨.inl ((upd_ne (ns' ⟨_, w⟩)).trans q), n⟩
      · exact .inr ⟨o, its, m, w, by assumption⟩
    · rcases hS1 with ⟨w | ⟨u', w⟩, _⟩ | ⟨o, its, m, w, _⟩
      · exact .inl ⟨.inr ⟨u, (upd_ne (ns' ⟨_, w⟩)).trans q⟩, n⟩
      · exact .inl ⟨.inr ⟨u, (upd_ne (ns' ⟨_, w⟩)).trans q⟩, n⟩
      · exact .inr ⟨o, its, m, w, by assumption⟩
    · exact .inr q
  · by_cases hj : j < ys.length
    · rw [List.getElem?_append_left hj] at hz
      exact h4 j z hz
    · rw [List.getElem?_append_right (by omega)] at hz
      have ej : j - ys.length = 0 := by
        by_cases q : j - ys.length = 0
        · exact q
        · rw [List.getElem?_eq_none (by simp; omega)] at hz; cases hz
      rw [ej] at hz
      simp at hz
      subst hz
      have : j = i := by omega
      subst this
      exact q
end

section
variable {P : Program} {w : World} {K : PySem.W.Frag} {mg : Str → Option Value} {base : Heap}
/-- all but the row and the tables stays; the row is a row, the tables are in order -/
structure LK (t : TabsAt) (K : PySem.W.Frag) (r sa : Addr) (ns : List Int) (H H' : Hp) : Prop where
  keep : ∀ b o, b ≠ r → H b = some o → (∀ ps, o ≠ .tbl ps) → H' b = some o
  row : RowAt K H' r sa ns
  ts : TS t H'
theorem LK.trans {t : TabsAt} {r sa : Addr} {ns : List Int} {H H1 H2 : Hp} (a : LK t K r sa ns H H1) (b : LK t K r sa ns H1 H2) : LK t K r sa ns H H2 := ⟨fun c o n e q => b.keep c o n (a.keep c o n e q) q, b.row, b.ts⟩
theorem tabG_but {r p : Addr} {H H' : Hp} {xs : List V} (h : GxR.TabG H p) (hr : H r = some (.lst xs)) (k : KeepBut r H H') : GxR.TabG H' p := by
  obtain ⟨ps, p1, p2⟩ := h
  exact ⟨ps, k _ _ (fun z => by rw [z, hr] at p1; cases p1) p1, p2⟩
theorem TS.rk {t : TabsAt} {r : Addr} {H H' : Hp} {xs : List V} (h : TS t H) (hr : H r = some (.lst xs)) (k : KeepBut r H H') : TS t H' := by
  refine ⟨fun x hx => tabG_but (h.g x hx) hr k, fun x hx z hz => ?_⟩
  obtain ⟨ps, a1, a2, a3⟩ := h.l x hx z hz
  refine ⟨ps, k _ _ (fun e => by rw [e, hr] at a1; cases a1) a1, a2, fun pos cv hcv => ?_⟩
  obtain ⟨cz, q1, q2⟩ := a3 pos cv hcv
  refine ⟨cz, q1, k _ _ (fun e => ?_) q2⟩
  rw [e, hr] at q2
  unfold LamX.CodeO at q2
  cases q2
theorem LK.rk {t : TabsAt} {r sa : Addr} {ns : List Int} {H H' : Hp} (h : RowAt K H r sa ns) (ht : TS t H) (k : RK K r sa ns H H') : LK t K r sa ns H H' := by
  obtain ⟨xs, hr⟩ := row_lst h
  exact ⟨fun b o n e _ => k.keep b o n e, k.row, ht.rk hr k.keep⟩
theorem RowAt.ext {r sa : Addr} {ns : List Int} {H H' : Hp} (h : RowAt K H r sa ns) (s : LamX.ExtN H H') : RowAt K H' r sa ns := by
  obtain ⟨p, sd, e, hrow, hS, hb⟩ := h
  refine ⟨p, sd, e, s _ _ hrow (fun ps z => by cases z), ?_, hb⟩
  rcases hS with ⟨q | ⟨u, q⟩, n⟩ | q
  · exact .inl ⟨.inl (s _ _ q (fun ps z => by cases z)), n⟩
  · exact .inl ⟨.inr ⟨u, s _ _ q (fun ps z => by cases z)⟩, n⟩
  · exact .inr q
theorem LK.ex {t : TabsAt} {r sa : Addr} {ns : List Int} {H H' : Hp} (h : RowAt K H r sa ns) (x : Ex t H H') : LK t K r sa ns H H' := ⟨fun b o _ e n => x.keep b o e n, h.ext x.keep, x.ts⟩
theorem LK.same {t : TabsAt} {r sa : Addr} {ns : List Int} {H H' : Hp} (h : RowAt K H r sa ns) (ht : TS t H) (s : Same H H') : LK t K r sa ns H H' := ⟨fun b o _ e _ => s b o e, h.sm s, ht.same s⟩
theorem LK.tp {t : TabsAt} {r sa : Addr} {ns : List Int} {H H' : Hp} (h : RowAt K H r sa ns) (a : LK t K r sa ns H H') : Tp H H' := fun b xs q => by
  obtain ⟨ys, hr⟩ := row_lst h
  have n : b ≠ r := fun e => by
    subst e
    rcases q with q | ⟨o, q⟩
    · rw [hr] at q; cases q
    · rw [hr] at q; cases q
  rcases q with q | ⟨o, q⟩
  · exact .inl (a.keep _ _ n q fun ps z => by cases z)
  · exact .inr ⟨o, a.keep _ _ n q fun ps z => by cases z⟩
end

abbrev rIxA (K : PySem.W.Frag) : V → V → Hp → VK → Prop := fun x y H Q => rIxL K x y H Q ∨ rIxT K x y H Q
theorem fn_never {P : Program} {w : World} {K : PySem.W.Frag} {mg : Str → Option Value} {base : Heap} {CX : CXT} {k : Nat} {f : Addr} {fd : FuncData} {ps : List Str} : FnOk P w K mg base CX k f fd ps (fun _ _ _ _ => False) :=
  ⟨fun _ _ _ _ h => h.elim, fun _ _ _ _ _ _ _ _ _ _ _ _ _ h => h.elim⟩
/-- equal values, up to a depth -/
inductive Al (K : PySem.W.Frag) : Nat → Hp → V → V → Prop
  | int (j : Nat) (H : Hp) (i : Int) : Al K j H (.int i) (.int i)
  | non (j : Nat) (H : Hp) : Al K j H .non .non
  | tup {j : Nat} {H : Hp} {a b : Addr} {xs ys : List V} (ha : SqT K H a xs) (hb : SqT K H b ys) (hl : xs.length = ys.length) (hz : xs.length ≤ 100000) (h : ∀ (i : Nat) (x y : V), xs[i]? = some x → ys[i]? = some y → ∀ H', Same H H' → Al K j H' x y) : Al K (j + 1) H (.ref a) (.ref b)
  | lst {j : Nat} {H : Hp} {a b : Addr} {xs ys : List V} (ha : H a = some (.lst xs)) (hb : H b = some (.lst ys)) (hl : xs.length = ys.length) (hz : xs.length ≤ 100000) (h : ∀ (i : Nat) (x y : V), xs[i]? = some x → ys[i]? = some y → ∀ H', Same H H' → Al K j H' x y) : Al K (j + 1) H (.ref a) (.ref b)
def spA (K : PySem.W.Frag) (j : Nat) : Sp := fun vs H Q _ => ∃ x y, vs = [x, y] ∧ Al K j H x y ∧ ∀ H', Same H H' → Q (.bl true) H'
def spG (K : PySem.W.Frag) : Nat → Sp
  | 0 => fun _ _ _ _ => False
  | j + 1 => spA K j
section
variable {K : PySem.W.Frag}
theorem kit_none_tuple : PySem.W.kitOne K (.type "NoneType") (.type "tuple") = some false := kit_ty (by decide +kernel)
theorem kit_none_list : PySem.W.kitOne K (.type "NoneType") (.type "list") = some false := kit_ty (by decide +kernel)
theorem kit_none_str : PySem.W.kitOne K (.type "NoneType") (.type "str") = some false := kit_ty (by decide +kernel)
theorem kit_list_list : PySem.W.kitOne K (.type "list") (.type "list") = some true := kit_ty (by decide +kernel)
theorem kit_list_tuple : PySem.W.kitOne K (.type "list") (.type "tuple") = some false := kit_ty (by decide +kernel)
theorem kitA_none : PySem.W.kitAny K (.type "NoneType") [.type "tuple", .type "list"] = some false :=
  kitAny_cons kit_none_tuple (fun _ => kitAny_cons kit_none_list (fun _ => kitAny_nil) (fun z => nomatch z)) (fun z => nomatch z)
theorem kitA_list : PySem.W.kitAny K (.type "list") [.type "tuple", .type "list"] = some true :=
  kitAny_cons kit_list_tuple (fun _ => kitAny_cons kit_list_list (fun z => nomatch z) (fun _ => rfl)) (fun z => nomatch z)
end
section
variable {P : Program} {w : World} {K : PySem.W.Frag} {mg : Str → Option Value} {base : Heap}
theorem alike_body (T : Txt K mg) (j : Nat) (G0 : FnOk P w K mg base CX0 j T.law_alike.f T.law_alike.fd P_law_alike (spG K j)) : FnOk P w K mg base CX0 (j + 1) T.law_alike.f T.law_alike.fd P_law_alike (spA K j) := by
  refine T.law_alike.F.ok sc_law_alike (fun vs H Q E h => ?_) (fun cdv A outer s H vs Q E hr h => ?_)
  · obtain ⟨x, y, rfl, _⟩ := h; rfl
  · obtain ⟨x, y, rfl, hA, k⟩ := h
    refine ⟨_, (pss_cons (ps_if (pt_val (pe_callB (r := rIsiT K) call_isiT rfl T.n_isinstance bo_isinstance (pa_cons (pv 1) (pa_cons (pe_tup (pa_cons (pe_bltn (v := .ty "tuple") rfl T.n_tuple bo_tuple rfl) (pa_cons (pe_bltn (v := .ty "list") rfl T.n_list bo_list rfl) pa_nil))) pa_nil)))) (pss_cons (ps_if (PW.pt (pw_or (pt_not (pt_val (pe_callB (r := rIsiT K) call_isiT rfl T.n_isinstance bo_isinstance (pa_cons (pv 0) (pa_cons (pe_tup (pa_cons (pe_bltn (v := .ty "tuple") rfl T.n_tuple bo_tuple rfl) (pa_cons (pe_bltn (v := .ty "list") rfl T.n_list bo_list rfl) pa_nil))) pa_nil))))) (pw_or1 (pt_cmpR op_ne (pe_callB (r := rIsi K) call_isi rfl T.n_isinstance bo_isinstance (pa_cons (pv 0) (pa_cons (pe_bltn (v := .ty "list") rfl T.n_list bo_list rfl) pa_nil))) (pe_callB (r := rIsi K) call_isi rfl T.n_isinstance bo_isinstance (pa_cons (pv 1) (pa_cons (pe_bltn (v := .ty "list") rfl T.n_list bo_list rfl) pa_nil))) (nomark _))))) (pss_one (ps_ret pe_bl)) pss_nil)
  (pss_cons (ps_if (pt_cmpR op_ne (pe_callB (r := rLenS K) call_len_seq rfl T.n_len bo_len (pa_cons (pv 0) pa_nil)) (pe_callB (r := rLenS K) call_len_seq rfl T.n_len bo_len (pa_cons (pv 1) pa_nil)) (nomark _)) (pss_one (ps_ret pe_bl)) pss_nil)
  (pss_one (ps_ret (pe_cmpR (r := rEqD K) (op_eqD hr.units) (pe_lc (own := [("k", 2)]) rfl sc_law_alike.nd (pi_range1 rfl T.n_range (pa_cons (pe_callB (r := rLenS K) call_len_seq rfl T.n_len bo_len (pa_cons (pv 1) pa_nil)) pa_nil)) (blkOk_by (own := [("k", 2)]) (N := N_law_alike) (sc := defScope s_law_alike) (by decide +kernel)) (fun _ _ _ _ _ => (pg_name (i := 2) sc_law_alike.nd rfl (Or.inl rfl))) (fun _ _ _ _ _ => pts_one (pt_not (pt_val (pe_call G0 hr rfl T.law_alike.g T.law_alike.F.kp (b_law_alike T) .nil pass0 (pa_cons (pe_ix (r := rIxA K) ix_any (pv 0) (pv 2) (fun _ _ => rfl)) (pa_cons (pe_ix (r := rIxA K) ix_any (pv 1) (pv 2) (fun _ _ => rfl)) pa_nil)))))) (fun _ _ _ _ _ => (pv 2))) (pe_lst pa_nil) (nomark _)))))) pss_nil)
  (pss_cons (ps_if (PW.pt (pw_or (pt_cmpR op_isN (pv 1) pe_non (nomark _)) (pw_or1 (pt_val (pe_callB (r := rIsi K) call_isi rfl T.n_isinstance bo_isinstance (pa_cons (pv 1) (pa_cons (pe_bltn (v := .ty "str") rfl T.n_str bo_str rfl) pa_nil))))))) (pss_one (ps_ret (pe_and (pe_cmpR (op_eqD hr.units) (pv 0) (pv 1) (nomark _)) (pe_one (pe_cmpR op_eq (pe_callB (r := rIsi K) call_isi rfl T.n_isinstance bo_isinstance (pa_cons (pv 0) (pa_cons (pe_bltn (v := .ty "str") rfl T.n_str bo_str rfl) pa_nil))) (pe_callB (r := rIsi K) call_isi rfl T.n_isinstance bo_isinstance (pa_cons (pv 1) (pa_cons (pe_bltn (v := .ty "str") rfl T.n_str bo_str rfl) pa_nil))) (nomark _)))))) pss_nil)
  (pss_one (ps_ret (pe_and (pe_callB (r := rIsi K) call_isi rfl T.n_isinstance bo_isinstance (pa_cons (pv 0) (pa_cons (pe_bltn (v := .ty "int") rfl T.n_int bo_int rfl) pa_nil))) (pe_and (pe_cmpR op_eq (pe_callB (r := rIsi K) call_isi rfl T.n_isinstance bo_isinstance (pa_cons (pv 0) (pa_cons (pe_bltn (v := .ty "bool") rfl T.n_bool bo_bool rfl) pa_nil))) (pe_callB (r := rIsi K) call_isi rfl T.n_isinstance bo_isinstance (pa_cons (pv 1) (pa_cons (pe_bltn (v := .ty "bool") rfl T.n_bool bo_bool rfl) pa_nil))) (nomark _)) (pe_one (pe_cmpR (op_eqD hr.units) (pv 0) (pv 1) (nomark _))))))))), ?_⟩
    cases hA with
    | int _ _ i =>
      walk_at "rd"
      refine ⟨two_line, fun p hp => ?_⟩
      refine ⟨_, _, _, _, _, _, rfl, upd_same, .cons (.ty _) (.cons (.ty _) .nil), .base (.int _), kitA_int, ?_⟩
      walk_at "rd"
      refine ⟨_, _, .int _, .int _, by rfl, by rfl, ?_⟩
      have e : PyData.eqv (.int i) (.int i) = true := by show (i == i) = true; simp
      show Q _ _
      rw [e]
      exact k _ (same_upd hp)
    | non _ _ =>
      walk_at "rd"
      refine ⟨two_line, fun p hp => ?_⟩
      refine ⟨_, _, _, _, _, _, rfl, upd_same, .cons (.ty _) (.cons (.ty _) .nil), .base .non, kitA_none, ?_⟩
      walk_at "rd"
      refine ⟨_, _, .non, .non, by rfl, by rfl, ?_⟩
      walk_at "rd"
      refine ⟨_, _, _, _, _, rfl, .ty _, .base .non, kit_none_str, ?_⟩
      walk_at "rd"
      refine ⟨_, _, _, _, _, rfl, .ty _, .base .non, kit_none_str, ?_⟩
      walk_at "rd"
      exact k _ (same_upd hp)
    | @tup j' _ a b xs ys ha hb hl hz h =>
      walk_at "rd"
      refine ⟨two_line, fun p hp => ?_⟩
      have s1 := same_upd (o := .tup [V.ty "tuple", V.ty "list"]) hp
      refine ⟨_, _, _, _, _, _, rfl, upd_same, .cons (.ty _) (.cons (.ty _) .nil), ty_tup (Toy.Same.tup s1 hb), kitA_tuple, ?_⟩
      walk_at "rd"
      refine ⟨two_line, fun q hq => ?_⟩
      have s2 := Same.trans s1 (same_upd (o := .tup [V.ty "tuple", V.ty "list"]) hq)
      refine ⟨_, _, _, _, _, _, rfl, upd_same, .cons (.ty _) (.cons (.ty _) .nil), ty_tup (Toy.Same.tup s2 ha), kitA_tuple, ?_⟩
      obtain ⟨H2, eH2⟩ : ∃ H2, H2 = upd (upd H p (.tup [V.ty "tuple", V.ty "list"])) q (.tup [V.ty "tuple", V.ty "list"]) := ⟨_, rfl⟩
      rw [← eH2] at s2 ⊢
      clear eH2
      have ha2 := Toy.Same.tup s2 ha
      have hb2 := Toy.Same.tup s2 hb
      walk_at "rd"
      refine ⟨_, _, _, _, _, rfl, .ty _, ty_tup ha2, kit_tuple_list, ?_⟩
      walk_at "rd"
      refine ⟨_, _, _, _, _, rfl, .ty _, ty_tup hb2, kit_tuple_list, ?_⟩
      walk_at "rd"
      refine ⟨_, _, rfl, .inr ha2, ?_⟩
      walk_at "rd"
      refine ⟨_, _, rfl, .inr hb2, ?_⟩
      walk_at "rd"
      rw [hl]
      refine iteVn (fun z => absurd rfl z) (fun _ => ?_)
      walk_at "rd"
      refine ⟨_, _, rfl, .inr hb2, ?_⟩
      walk_at "rd"
      refine ⟨(by omega), (by omega), fun D hD => ?_⟩
      rw [Int.toNat_natCast]
      refine lc_range (lo := 0) (n := ys.length) (fun i H3 => Same H2 H3 ∧ H3 D = some (.lst [])) ⟨same_upd hD, upd_same⟩ (fun i H3 hi q => ?_) (fun H3 q => ?_)
      · obtain ⟨s3, e3⟩ := q
        have hx : xs[i]? = some xs[i] := List.getElem?_eq_getElem (by omega)
        have hy : ys[i]? = some ys[i] := List.getElem?_eq_getElem hi
        have g1 : atI xs (0 + (i : Int)) = some xs[i] := at_of (show (0 : Int) + (i : Int) = ((i : Nat) : Int) by omega) hx
        have g2 : atI ys (0 + (i : Int)) = some ys[i] := at_of (show (0 : Int) + (i : Int) = ((i : Nat) : Int) by omega) hy
        walk_at "rd"
        refine .inr ⟨_, _, _, _, rfl, rfl, (Toy.Same.tup s3 ha2), g1, ?_⟩
        walk_at "rd"
        refine .inr ⟨_, _, _, _, rfl, rfl, (Toy.Same.tup s3 hb2), g2, ?_⟩
        refine ⟨_, _, rfl, h i _ _ hx hy H3 (Same.trans s2 s3), fun H4 s4 => ?_⟩
        walk_at "rd"
        exact ⟨Same.trans s3 s4, s4 _ _ e3⟩
      · obtain ⟨s3, e3⟩ := q
        walk_at "rd"
        refine ⟨by decide, fun q hq => ?_⟩
        refine ⟨_, _, .lst (.inl (.inl ((upd_ne (ne_of_none e3 hq)).trans e3))) .nil, .lst (.inl (.inl upd_same)) .nil, by decide, by decide, ?_⟩
        exact k _ (Same.trans s2 (Same.trans s3 (same_upd hq)))
    | @lst j' _ a b xs ys ha hb hl hz h =>
      walk_at "rd"
      refine ⟨two_line, fun p hp => ?_⟩
      have s1 := same_upd (o := .tup [V.ty "tuple", V.ty "list"]) hp
      refine ⟨_, _, _, _, _, _, rfl, upd_same, .cons (.ty _) (.cons (.ty _) .nil), .base (.lst (s1 _ _ hb)), kitA_list, ?_⟩
      walk_at "rd"
      refine ⟨two_line, fun q hq => ?_⟩
      have s2 := Same.trans s1 (same_upd (o := .tup [V.ty "tuple", V.ty "list"]) hq)
      refine ⟨_, _, _, _, _, _, rfl, upd_same, .cons (.ty _) (.cons (.ty _) .nil), .base (.lst (s2 _ _ ha)), kitA_list, ?_⟩
      obtain ⟨H2, eH2⟩ : ∃ H2, H2 = upd (upd H p (.tup [V.ty "tuple", V.ty "list"])) q (.tup [V.ty "tuple", V.ty "list"]) := ⟨_, rfl⟩
      rw [← eH2] at s2 ⊢
      clear eH2
      have ha2 := s2 _ _ ha
      have hb2 := s2 _ _ hb
      walk_at "rd"
      refine ⟨_, _, _, _, _, rfl, .ty _, .base (.lst ha2), kit_list_list, ?_⟩
      walk_at "rd"
      refine ⟨_, _, _, _, _, rfl, .ty _, .base (.lst hb2), kit_list_list, ?_⟩
      walk_at "rd"
      rw [hl]
      refine iteVn (fun z => absurd rfl z) (fun _ => ?_)
      walk_at "rd"
      refine ⟨(by omega), (by omega), fun D hD => ?_⟩
      rw [Int.toNat_natCast]
      refine lc_range (lo := 0) (n := ys.length) (fun i H3 => Same H2 H3 ∧ H3 D = some (.lst [])) ⟨same_upd hD, upd_same⟩ (fun i H3 hi q => ?_) (fun H3 q => ?_)
      · obtain ⟨s3, e3⟩ := q
        have hx : xs[i]? = some xs[i] := List.getElem?_eq_getElem (by omega)
        have hy : ys[i]? = some ys[i] := List.getElem?_eq_getElem hi
        have g1 : atI xs (0 + (i : Int)) = some xs[i] := at_of (show (0 : Int) + (i : Int) = ((i : Nat) : Int) by omega) hx
        have g2 : atI ys (0 + (i : Int)) = some ys[i] := at_of (show (0 : Int) + (i : Int) = ((i : Nat) : Int) by omega) hy
        walk_at "rd"
        refine .inl ⟨_, _, _, _, rfl, rfl, .inl (.inl (s3 _ _ ha2)), g1, ?_⟩
        walk_at "rd"
        refine .inl ⟨_, _, _, _, rfl, rfl, .inl (.inl (s3 _ _ hb2)), g2, ?_⟩
        refine ⟨_, _, rfl, h i _ _ hx hy H3 (Same.trans s2 s3), fun H4 s4 => ?_⟩
        walk_at "rd"
        exact ⟨Same.trans s3 s4, s4 _ _ e3⟩
      · obtain ⟨s3, e3⟩ := q
        walk_at "rd"
        refine ⟨by decide, fun q hq => ?_⟩
        refine ⟨_, _, .lst (.inl (.inl ((upd_ne (ne_of_none e3 hq)).trans e3))) .nil, .lst (.inl (.inl upd_same)) .nil, by decide, by decide, ?_⟩
        exact k _ (Same.trans s2 (Same.trans s3 (same_upd hq)))
theorem ok_alike_at (T : Txt K mg) : ∀ j : Nat, FnOk P w K mg base CX0 (j + 1) T.law_alike.f T.law_alike.fd P_law_alike (spA K j)
  | 0 => alike_body T 0 fn_never
  | j + 1 => alike_body T (j + 1) (ok_alike_at T j)
theorem ok_law_alike (T : Txt K mg) : FnOk P w K mg base CX0 3 T.law_alike.f T.law_alike.fd P_law_alike (spA K 2) := ok_alike_at T 2
end

/-! ### the law's own -/
def combF (top : Int) : Nat → Int
  | 0 => 1
  | j + 1 => Int.fdiv (combF top j * (top - j)) (j + 1)
theorem combF_small {t j : Nat} (ht : t ≤ 8) (hj : j ≤ 8) : (combF t j).natAbs < 1000 := by
  have key : ((List.range 9).all fun t => (List.range 9).all fun j => decide ((combF (t : Int) j).natAbs < 1000)) = true := by decide +kernel
  have h1 := List.all_eq_true.mp key t (List.mem_range.mpr (by omega))
  have h2 := List.all_eq_true.mp h1 j (List.mem_range.mpr (by omega))
  simpa using h2
section
variable {P : Program} {w : World} {K : PySem.W.Frag} {mg : Str → Option Value} {base : Heap}
def sp_law_comb : Sp := fun vs H Q _ => ∃ top size : Nat, vs = [.int top, .int size] ∧ size ≤ top ∧ top ≤ 8 ∧ Q (.int (combF top size)) H
theorem ok_law_comb (T : Txt K mg) : FnOk P w K mg base CX0 1 T.law_comb.f T.law_comb.fd P_law_comb sp_law_comb := by
  refine T.law_comb.F.ok sc_law_comb (fun vs H Q E h => ?_) (fun cdv A outer s H vs Q E hr h => ?_)
  · obtain ⟨t, z, rfl, _⟩ := h; rfl
  · obtain ⟨t, z, rfl, hz, ht, k⟩ := h
    refine ⟨_, (pss_cons (ps_set (i := 2) sc_law_comb.nd rfl (Or.inl rfl) pe_int)
  (pss_cons (ps_for PassesOwn.never rfl (pi_range1 rfl T.n_range (pa_cons (pv 1) pa_nil)) (pg_name (i := 3) sc_law_comb.nd rfl (Or.inl rfl)) (pss_one (ps_set (i := 2) sc_law_comb.nd rfl (Or.inl rfl) (pe_op op_fdivZ (pe_op op_mulW (pv 2) (pe_op op_sub (pv 0) (pv 3))) (pe_op op_add (pv 3) pe_int)))))
  (pss_one (ps_ret (pe_ifExp (pt_cmpR op_ge (pv 0) (pv 1) (nomark _)) (pv 2) pe_int))))), ?_⟩
    walk_at "rd"
    refine ⟨by omega, by omega, ?_⟩
    rw [Int.toNat_natCast]
    refine for_it walk_range (fun j σ H' => ∃ y3 : Option V, σ = [some (.int t), some (.int z), some (.int (combF t j)), y3] ∧ H' = H) ⟨none, rfl, rfl⟩ (fun j σ H' _ q => trivial) (fun j x σ H' H2 hj q y => ?_) (fun σ H' q => ?_)
    · obtain ⟨y3, rfl, rfl⟩ := q
      obtain ⟨rfl, rfl⟩ := y
      have e0 : (0 : Int) + (j : Int) = ((j : Nat) : Int) := Int.zero_add _
      have hb := combF_small ht (show j ≤ 8 by omega)
      dsimp only
      rw [e0]
      walk_at "rd"
      rfl
    · obtain ⟨y3, rfl, rfl⟩ := q
      walk_at "rd"
      refine iteD (fun _ => ?_) (fun hn => absurd (show (z : Int) ≤ t by omega) hn)
      walk_at "rd"
      exact k
end

/-! ### the law's finite cases -/
def tri (e : Int × Int × Int) : List Int := [e.1, e.2.1, e.2.2]
def pairsA (n a : Nat) : List (List Int) := (List.range (n - (a + 1))).map fun (i : Nat) => [(a : Int), (a : Int) + 1 + (i : Int)]
def pairsL (n : Nat) : List (List Int) := (List.range n).flatMap (pairsA n)
def dueP (n : Nat) : List (List Int) := [0, 0, 1] :: (List.range (n - 1)).map fun (i : Nat) => [1 + (i : Int), 1 + (i : Int) + 1, (1 + (i : Int)) * combF n (i + 2)]
def chosenL (m : Nat) : List (List Int) := (List.range m).map fun (v : Nat) => [(v : Int)]
def dueC (m : Nat) : List (List Int) := (List.range (m + 1)).map fun (k : Nat) => [(k : Int), (k : Int), combF m k]
def dueR : List (List Int) := [[0, 0, 1], [1, 2, 5], [2, 3, 5], [3, 5, 1]]
def dueQ : List (List Int) := [[0, 0, 1], [1, 3, 10], [2, 4, 15], [3, 5, 6]]
def nonR (n : Nat) (rs : List (List Int)) : List (List Int) := isort ((nonfM n rs).map setOf)
def okL (f : Int) (n : Nat) (rs L : List (List Int)) : Bool := match sqbettiO f n rs with
  | some l => decide (l.map tri = L)
  | none => false
theorem pairs_all : ([0, 2, 3, 5, 7].all fun f => [2, 3, 4, 5, 6].all fun n => okL f n (pairsL n) (dueP n)) = true := by decide +kernel
theorem chosen_all : ([0, 2, 3, 5, 7].all fun f => [2, 3, 4, 5, 6].all fun n => (List.range n).all fun m => okL f n (chosenL (m + 1)) (dueC (m + 1))) = true := by decide +kernel
theorem ring_all : ([0, 2, 3, 5, 7].all fun f => okL f 5 (nonR 5 ring) dueR) = true := by decide +kernel
theorem plane_all : ([0, 2, 3, 5, 7].all fun f => okL f 6 (nonR 6 plane) (dueQ ++ if f = 2 then [[3, 6, 1], [4, 6, 1]] else [])) = true := by decide +kernel
theorem okL_of {f : Int} {n : Nat} {rs L : List (List Int)} (h : okL f n rs L = true) : ∃ l, sqbettiO f n rs = some l ∧ l.map tri = L := by
  unfold okL at h
  cases c : sqbettiO f n rs with
  | none => rw [c] at h; cases h
  | some l => rw [c] at h; exact ⟨l, rfl, of_decide_eq_true h⟩

/-! ### the law -/
instance {n : Nat} {r : List Int} : Decidable (RowOk n r) := inferInstanceAs (Decidable (_ ∧ _))
def rowTA (r : List Int) : TA := r.foldr (fun i t => tCons (tC (V.int i)) t) tNil
def rowsTA (rs : List (List Int)) : TA := rs.foldr (fun r t => tCons (tTup (rowTA r)) t) tNil
theorem rowTA_rd : ∀ {r : List Int} {σ : L2.St} {H : Hp} {Q : List V → Hp → Prop}, Q (r.map V.int) H → rowTA r σ H Q
  | [], _, _, _, h => h
  | i :: r, σ, H, Q, h => by
    show rowTA r σ H fun xs H2 => Q (V.int i :: xs) H2
    exact rowTA_rd h
theorem ta_one : tCons (tTup (tCons (tC (V.int 0)) (tCons (tC (V.int 0)) (tCons (tC (V.int 1)) tNil)))) tNil = rowsTA [[0, 0, 1]] := rfl
theorem ta_ring : tCons (tTup (tCons (tC (V.int 0)) (tCons (tC (V.int 1)) tNil))) (tCons (tTup (tCons (tC (V.int 0)) (tCons (tC (V.int 4)) tNil))) (tCons (tTup (tCons (tC (V.int 1)) (tCons (tC (V.int 2)) tNil))) (tCons (tTup (tCons (tC (V.int 2)) (tCons (tC (V.int 3)) tNil))) (tCons (tTup (tCons (tC (V.int 3)) (tCons (tC (V.int 4)) tNil))) tNil)))) = rowsTA [[0, 1], [0, 4], [1, 2], [2, 3], [3, 4]] := rfl
theorem ta_dueR : tCons (tTup (tCons (tC (V.int 0)) (tCons (tC (V.int 0)) (tCons (tC (V.int 1)) tNil)))) (tCons (tTup (tCons (tC (V.int 1)) (tCons (tC (V.int 2)) (tCons (tC (V.int 5)) tNil)))) (tCons (tTup (tCons (tC (V.int 2)) (tCons (tC (V.int 3)) (tCons (tC (V.int 5)) tNil)))) (tCons (tTup (tCons (tC (V.int 3)) (tCons (tC (V.int 5)) (tCons (tC (V.int 1)) tNil)))) tNil))) = rowsTA [[0, 0, 1], [1, 2, 5], [2, 3, 5], [3, 5, 1]] := rfl
theorem ta_pl1 : tCons (tTup (tCons (tC (V.int 0)) (tCons (tC (V.int 1)) (tCons (tC (V.int 3)) tNil)))) (tCons (tTup (tCons (tC (V.int 0)) (tCons (tC (V.int 1)) (tCons (tC (V.int 4)) tNil)))) (tCons (tTup (tCons (tC (V.int 0)) (tCons (tC (V.int 2)) (tCons (tC (V.int 3)) tNil)))) (tCons (tTup (tCons (tC (V.int 0)) (tCons (tC (V.int 2)) (tCons (tC (V.int 5)) tNil)))) (tCons (tTup (tCons (tC (V.int 0)) (tCons (tC (V.int 4)) (tCons (tC (V.int 5)) tNil)))) (tCons (tTup (tCons (tC (V.int 1)) (tCons (tC (V.int 2)) (tCons (tC (V.int 4)) tNil)))) (tCons (tTup (tCons (tC (V.int 1)) (tCons (tC (V.int 2)) (tCons (tC (V.int 5)) tNil)))) (tCons (tTup (tCons (tC (V.int 1)) (tCons (tC (V.int 3)) (tCons (tC (V.int 5)) tNil)))) tNil))))))) = rowsTA [[0, 1, 3], [0, 1, 4], [0, 2, 3], [0, 2, 5], [0, 4, 5], [1, 2, 4], [1, 2, 5], [1, 3, 5]] := rfl
theorem ta_pl2 : tCons (tTup (tCons (tC (V.int 2)) (tCons (tC (V.int 3)) (tCons (tC (V.int 4)) tNil)))) (tCons (tTup (tCons (tC (V.int 3)) (tCons (tC (V.int 4)) (tCons (tC (V.int 5)) tNil)))) tNil) = rowsTA [[2, 3, 4], [3, 4, 5]] := rfl
theorem ta_dueQ : tCons (tTup (tCons (tC (V.int 0)) (tCons (tC (V.int 0)) (tCons (tC (V.int 1)) tNil)))) (tCons (tTup (tCons (tC (V.int 1)) (tCons (tC (V.int 3)) (tCons (tC (V.int 10)) tNil)))) (tCons (tTup (tCons (tC (V.int 2)) (tCons (tC (V.int 4)) (tCons (tC (V.int 15)) tNil)))) (tCons (tTup (tCons (tC (V.int 3)) (tCons (tC (V.int 5)) (tCons (tC (V.int 6)) tNil)))) tNil))) = rowsTA [[0, 0, 1], [1, 3, 10], [2, 4, 15], [3, 5, 6]] := rfl
theorem ta_q2 : tCons (tTup (tCons (tC (V.int 3)) (tCons (tC (V.int 6)) (tCons (tC (V.int 1)) tNil)))) (tCons (tTup (tCons (tC (V.int 4)) (tCons (tC (V.int 6)) (tCons (tC (V.int 1)) tNil)))) tNil) = rowsTA [[3, 6, 1], [4, 6, 1]] := rfl
theorem ring_good : GoodC 5 ring := ⟨by decide, by decide +kernel, fun i hi => by
  have key : ∀ i, i < 4 → ltR (ring.getD i []) (ring.getD (i + 1) []) = true := by decide +kernel
  exact key i (by have : ring.length = 5 := rfl; omega), by decide +kernel⟩
theorem plane_good : GoodC 6 plane := ⟨by decide, by decide +kernel, fun i hi => by
  have key : ∀ i, i < 9 → ltR (plane.getD i []) (plane.getD (i + 1) []) = true := by decide +kernel
  exact key i (by have : plane.length = 10 := rfl; omega), by decide +kernel⟩
theorem ring_non : (∀ m ∈ nonfM 5 ring, m ≠ 0) ∧ (∀ r ∈ nonR 5 ring, RowOk 5 r ∧ r ≠ []) ∧ (nonR 5 ring).length ≤ 70 := by decide +kernel
theorem plane_non : (∀ m ∈ nonfM 6 plane, m ≠ 0) ∧ (∀ r ∈ nonR 6 plane, RowOk 6 r ∧ r ≠ []) ∧ (nonR 6 plane).length ≤ 70 := by decide +kernel
theorem seq_asg {te : TE} {g : TG} {u : L2.TS} {D : Ends} {σ : L2.St} {H : Hp} (h : te σ H fun x H1 => g x σ H1 (u D)) : tSeq (tAsg te g) u D σ H := h
theorem op_step {r : R2} {ta tb : TE} {σ : L2.St} {H : Hp} {Q : VK} (h : ta σ H fun x H1 => tb σ H1 fun y H2 => r x y H2 Q) : tOp r ta tb σ H Q := h
theorem lst_step {ta : TA} {σ : L2.St} {H : Hp} {Q : VK} (h : ta σ H fun xs H1 => xs.length ≤ sizeLine ∧ ∀ p, H1 p = none → Q (.ref p) (upd H1 p (.lst xs))) : tLst ta σ H Q := h
theorem tup_step {ta : TA} {σ : L2.St} {H : Hp} {Q : VK} (h : ta σ H fun xs H1 => xs.length ≤ sizeLine ∧ ∀ p, H1 p = none → Q (.ref p) (upd H1 p (.tup xs))) : tTup ta σ H Q := h
section
variable {P : Program} {w : World} {K : PySem.W.Frag} {mg : Str → Option Value} {base : Heap}
/-- a display of rows -/
theorem rowsTA_rd : ∀ {rs : List (List Int)} {σ : L2.St} {H : Hp} {Q : List V → Hp → Prop}, (∀ r ∈ rs, r.length ≤ 100) → (∀ xs H', Same H H' → DpAll K H' xs (rs.map rD) → Q xs H') → rowsTA rs σ H Q
  | [], _, H, _, _, h => h [] H (Same.refl _) .nil
  | r :: rs, σ, H, Q, hl, h => by
    have hline : 100 ≤ sizeLine := by decide
    show rowTA r σ H fun us H1 => us.length ≤ sizeLine ∧ ∀ p, H1 p = none → rowsTA rs σ (upd H1 p (.tup us)) fun xs H2 => Q (V.ref p :: xs) H2
    refine rowTA_rd ⟨by rw [List.length_map]; exact Nat.le_trans (hl r List.mem_cons_self) hline, fun p hp => ?_⟩
    have s1 := same_upd (o := .tup (r.map V.int)) hp
    refine rowsTA_rd (fun q hq => hl q (List.mem_cons_of_mem _ hq)) fun xs H' s d => ?_
    exact h _ _ (Same.trans s1 s) (.cons (dp_ints (.inl (.inl (s _ _ upd_same)))) d)
theorem al_row {H : Hp} {a b : Addr} {l : List Int} (ha : SqT K H a (l.map V.int)) (hb : SqT K H b (l.map V.int)) (hz : l.length ≤ 100000) : Al K 1 H (.ref a) (.ref b) := by
  refine .tup ha hb rfl (by rw [List.length_map]; exact hz) fun i x y hx hy H' _ => ?_
  rw [hx] at hy
  cases hy
  obtain ⟨_, rfl⟩ := gI_of hx
  exact .int _ _ _
theorem al_lists {H : Hp} {a b : Addr} {xs ys : List V} {ls : List (List Int)} (ha : H a = some (.lst xs)) (hb : H b = some (.lst ys)) (dx : DpAll K H xs (ls.map rD)) (dy : DpAll K H ys (ls.map rD)) (hz : ls.length ≤ 100000) (hl : ∀ l ∈ ls, l.length ≤ 100000) : Al K 2 H (.ref a) (.ref b) := by
  have h1 := rows_list dx
  have h2 := rows_list dy
  refine .lst ha hb (by omega) (by omega) fun i x y hx hy H' s => ?_
  obtain ⟨p, l, hl1, rfl, hp⟩ := row_at dx hx
  obtain ⟨q, l', hl2, rfl, hq⟩ := row_at dy hy
  rw [hl1] at hl2
  cases hl2
  exact al_row (Toy.Same.tup s hp) (Toy.Same.tup s hq) (hl l (List.mem_of_getElem? hl1))
/-- what stands when the Betti numbers are asked for -/
theorem ends {t : TabsAt} {f : Int} {n : Nat} {ap pd : Addr} {rs L : List (List Int)} {ds : List V} {H : Hp} (hf : FldOk f) (hn1 : 1 ≤ n) (hn : n ≤ 8) (ha : Dp K H (.ref ap) (rsD rs)) (hrs : ∀ r ∈ rs, RowOk n r ∧ r ≠ []) (hrl : rs.length ≤ 70) (hok : okL f n rs L = true) (ts : TS t H)
    (hd : H pd = some (.lst ds)) (dd : DpAll K H ds (L.map rD)) (hL : L.length ≤ 1000) (hL3 : ∀ l ∈ L, l.length ≤ 100) {C : VK} (k : ∀ p H', Al K 2 H' (.ref p) (.ref pd) → C (.ref p) H') {E' : XK} : sp_square_betti t K [.int f, .int n, .ref ap] H C E' := by
  obtain ⟨l, h1, h2⟩ := okL_of hok
  refine ⟨f, n, ap, rs, l, rfl, hf, hn1, hn, ha, hrs, hrl, h1, ts, fun p H' ys e d x => k _ _ ?_⟩
  have d' : DpAll K H' ys (L.map rD) := by
    rw [← h2, List.map_map]
    exact d
  exact al_lists e (x.keep _ _ hd fun ps z => nomatch z) d' (DpAll.tp (tp_ext x.keep) _ _ (tOnly_rows _) dd) (by omega) fun l hl => by have := hL3 l hl; omega
theorem f_mem {f : Int} (h : FldOk f) : f ∈ ([0, 2, 3, 5, 7] : List Int) := by
  rcases h with h | h | h | h | h <;> subst h <;> decide
theorem n_mem {n : Nat} (h : 2 ≤ n) (h6 : n ≤ 6) : n ∈ [2, 3, 4, 5, 6] := by
  have : n = 2 ∨ n = 3 ∨ n = 4 ∨ n = 5 ∨ n = 6 := by omega
  rcases this with h | h | h | h | h <;> subst h <;> decide
theorem pairs_len {n j : Nat} (h : n ≤ 6) (hj : j ≤ 6) : ((List.range j).flatMap (pairsA n)).length ≤ 70 := by
  have key : ((List.range 7).all fun n => (List.range 7).all fun j => decide (((List.range j).flatMap (pairsA n)).length ≤ 70)) = true := by decide +kernel
  have h1 := List.all_eq_true.mp key n (List.mem_range.mpr (by omega))
  have h2 := List.all_eq_true.mp h1 j (List.mem_range.mpr (by omega))
  simpa using h2
theorem pairs_row {n : Nat} (h : 2 ≤ n) (h6 : n ≤ 6) : ∀ r ∈ pairsL n, RowOk n r ∧ r ≠ [] := by
  have key : ([2, 3, 4, 5, 6].all fun n => (pairsL n).all fun r => decide (RowOk n r) && !r.isEmpty) = true := by decide +kernel
  intro r hr
  have h1 := List.all_eq_true.mp (List.all_eq_true.mp key n (n_mem h h6)) r hr
  simp only [Bool.and_eq_true, decide_eq_true_eq] at h1
  refine ⟨h1.1, fun z => ?_⟩
  rw [z] at h1
  simp at h1
theorem fst_range {n i : Nat} {a : Nat} (h : (List.range n)[i]? = some a) : i < n ∧ a = i := by
  obtain ⟨h1, h2⟩ := List.getElem?_eq_some_iff.mp h
  rw [List.getElem_range] at h2
  rw [List.length_range] at h1
  exact ⟨h1, h2.symm⟩
def sp_law (t : TabsAt) (K : PySem.W.Frag) : Sp := fun vs H Q _ => ∃ (sa : Addr) (ns : List Int), vs = [.ref sa] ∧ SqL K H sa (ns.map V.int) ∧ TS t H ∧ ∀ H', Q (.bl true) H'
theorem ok_law (T : Txt K mg) {t : TabsAt} (B : TBs T base t) : FnOk P w K mg base CX0 22 T.law.f T.law.fd P_law (sp_law t K) := by
  refine T.law.F.ok sc_law (fun vs H Q E h => ?_) (fun cdv A outer s H vs Q E hr h => ?_)
  · obtain ⟨sa, ns, rfl, _⟩ := h; rfl
  · obtain ⟨sa, ns, rfl, hS, hT, k⟩ := h
    refine ⟨_, (pss_cons (ps_set (i := 1) sc_law.nd rfl (Or.inl rfl) (pe_lst (pa_cons (pv 0) (pa_cons pe_int (pa_cons pe_int (pa_cons pe_int pa_nil))))))
  (pss_cons (ps_par rfl sc_law.nd (i := 2) (j := 3) rfl rfl (by decide) rfl rfl (pa_cons (pe_call (ok_law_pick T) (hr.mono (by decide)) rfl T.law_pick.g T.law_pick.F.kp (b_law_pick T) .nil pass0 (pa_cons (pv 1) (pa_cons (pe_lst (pa_cons pe_int (pa_cons pe_int (pa_cons pe_int (pa_cons pe_int (pa_cons pe_int pa_nil)))))) pa_nil))) (pa_cons (pe_call (ok_law_taken T) (hr.mono (by decide)) rfl T.law_taken.g T.law_taken.F.kp (b_law_taken T) .nil pass0 (pa_cons (pv 1) (pa_cons pe_int pa_nil))) pa_nil)) rfl)
  (pss_cons (ps_set (i := 4) sc_law.nd rfl (Or.inr rfl) (pe_op op_add pe_int (pe_call (ok_law_taken T) (hr.mono (by decide)) rfl T.law_taken.g T.law_taken.F.kp (b_law_taken T) .nil pass0 (pa_cons (pv 1) (pa_cons pe_int pa_nil)))))
  (pss_cons (ps_if (pt_cmpR op_lt (pv 3) pe_int (nomark _)) (pss_cons (ps_set (i := 5) sc_law.nd rfl (Or.inl rfl) (pe_tup pa_nil))
  (pss_cons (ps_for PassesOwn.never rfl (pi_range1 rfl T.n_range (pa_cons (pv 4) pa_nil)) (pg_name (i := 6) sc_law.nd rfl (Or.inr rfl)) (pss_one (ps_set (i := 5) sc_law.nd rfl (Or.inl rfl) (pe_op (r := rCatA K) op_catA (pv 5) (pe_callTy (r := rTupOf K) call_tuple_of rfl T.n_tuple bo_tuple (pa_cons (pe_lc (own := [("b", 7)]) rfl sc_law.nd (pi_range2 rfl T.n_range (pa_cons (pe_op op_add (pv 6) pe_int) (pa_cons (pv 4) pa_nil))) (blkOk_by (own := [("b", 7)]) (N := N_law) (sc := defScope s_law) (by decide +kernel)) (fun _ _ _ _ _ => (pg_name (i := 7) sc_law.nd rfl (Or.inl rfl))) (fun _ _ _ _ _ => pts_nil) (fun _ _ _ _ _ => (pe_tup (pa_cons (pv 6) (pa_cons (pv 7) pa_nil))))) pa_nil))))))
  (pss_cons (ps_set (i := 8) sc_law.nd rfl (Or.inl rfl) (pe_op op_cat (pe_lst (pa_cons (pe_tup (pa_cons pe_int (pa_cons pe_int (pa_cons pe_int pa_nil)))) pa_nil)) (pe_lc (own := [("k", 9)]) rfl sc_law.nd (pi_range2 rfl T.n_range (pa_cons pe_int (pa_cons (pv 4) pa_nil))) (blkOk_by (own := [("k", 9)]) (N := N_law) (sc := defScope s_law) (by decide +kernel)) (fun _ _ _ _ _ => (pg_name (i := 9) sc_law.nd rfl (Or.inl rfl))) (fun _ _ _ _ _ => pts_nil) (fun _ _ _ _ _ => (pe_tup (pa_cons (pv 9) (pa_cons (pe_op op_add (pv 9) pe_int) (pa_cons (pe_op op_mulW (pv 9) (pe_call (ok_law_comb T) (hr.mono (by decide)) rfl T.law_comb.g T.law_comb.F.kp (b_law_comb T) .nil pass0 (pa_cons (pv 4) (pa_cons (pe_op op_add (pv 9) pe_int) pa_nil)))) pa_nil))))))))
  (pss_one (ps_ret (pe_call (ok_law_alike T) (hr.mono (by decide)) rfl T.law_alike.g T.law_alike.F.kp (b_law_alike T) .nil pass0 (pa_cons (pe_call (ok_square_betti T B) (hr.mono (by decide)) rfl T.square_betti.g T.square_betti.F.kp (b_square_betti T) .nil pass0 (pa_cons (pv 2) (pa_cons (pv 4) (pa_cons (pv 5) pa_nil)))) (pa_cons (pv 8) pa_nil)))))))) pss_nil)
  (pss_cons (ps_if (pt_cmpR op_lt (pv 3) pe_int (nomark _)) (pss_cons (ps_set (i := 10) sc_law.nd rfl (Or.inr rfl) (pe_callTy (r := rTupOf K) call_tuple_of rfl T.n_tuple bo_tuple (pa_cons (pe_lc (own := [("vertex", 11)]) rfl sc_law.nd (pi_range1 rfl T.n_range (pa_cons (pe_op op_add pe_int (pe_call (ok_law_taken T) (hr.mono (by decide)) rfl T.law_taken.g T.law_taken.F.kp (b_law_taken T) .nil pass0 (pa_cons (pv 1) (pa_cons (pv 4) pa_nil)))) pa_nil)) (blkOk_by (own := [("vertex", 11)]) (N := N_law) (sc := defScope s_law) (by decide +kernel)) (fun _ _ _ _ _ => (pg_name (i := 11) sc_law.nd rfl (Or.inl rfl))) (fun _ _ _ _ _ => pts_nil) (fun _ _ _ _ _ => (pe_tup (pa_cons (pv 11) pa_nil)))) pa_nil)))
  (pss_cons (ps_setLc (i := 8) (own := [("k", 9)]) rfl sc_law.nd rfl rfl (sw_true rfl rfl rfl (by decide +kernel)) (pi_range1 rfl T.n_range (pa_cons (pe_op op_add (pe_callB (r := rLenS K) call_len_seq rfl T.n_len bo_len (pa_cons (pv 10) pa_nil)) pe_int) pa_nil)) (blkOk_by (own := [("k", 9)]) (N := N_law) (sc := defScope s_law) (by decide +kernel)) (fun _ _ _ _ _ => (pg_name (i := 9) sc_law.nd rfl (Or.inl rfl))) (fun _ _ _ _ _ => pts_nil) (fun _ _ _ _ _ => (pe_tup (pa_cons (pv 9) (pa_cons (pv 9) (pa_cons (pe_call (ok_law_comb T) (hr.mono (by decide)) rfl T.law_comb.g T.law_comb.F.kp (b_law_comb T) .nil pass0 (pa_cons (pe_callB (r := rLenS K) call_len_seq rfl T.n_len bo_len (pa_cons (pv 10) pa_nil)) (pa_cons (pv 9) pa_nil))) pa_nil))))))
  (pss_one (ps_ret (pe_call (ok_law_alike T) (hr.mono (by decide)) rfl T.law_alike.g T.law_alike.F.kp (b_law_alike T) .nil pass0 (pa_cons (pe_call (ok_square_betti T B) (hr.mono (by decide)) rfl T.square_betti.g T.square_betti.F.kp (b_square_betti T) .nil pass0 (pa_cons (pv 2) (pa_cons (pv 4) (pa_cons (pv 10) pa_nil)))) (pa_cons (pv 8) pa_nil))))))) pss_nil)
  (pss_cons (ps_if (pt_cmpR op_lt (pv 3) pe_int (nomark _)) (pss_cons (ps_set (i := 12) sc_law.nd rfl (Or.inl rfl) (pe_tup (pa_cons (pe_tup (pa_cons pe_int (pa_cons pe_int pa_nil))) (pa_cons (pe_tup (pa_cons pe_int (pa_cons pe_int pa_nil))) (pa_cons (pe_tup (pa_cons pe_int (pa_cons pe_int pa_nil))) (pa_cons (pe_tup (pa_cons pe_int (pa_cons pe_int pa_nil))) (pa_cons (pe_tup (pa_cons pe_int (pa_cons pe_int pa_nil))) pa_nil)))))))
  (pss_cons (ps_set (i := 8) sc_law.nd rfl (Or.inl rfl) (pe_lst (pa_cons (pe_tup (pa_cons pe_int (pa_cons pe_int (pa_cons pe_int pa_nil)))) (pa_cons (pe_tup (pa_cons pe_int (pa_cons pe_int (pa_cons pe_int pa_nil)))) (pa_cons (pe_tup (pa_cons pe_int (pa_cons pe_int (pa_cons pe_int pa_nil)))) (pa_cons (pe_tup (pa_cons pe_int (pa_cons pe_int (pa_cons pe_int pa_nil)))) pa_nil))))))
  (pss_one (ps_ret (pe_call (ok_law_alike T) (hr.mono (by decide)) rfl T.law_alike.g T.law_alike.F.kp (b_law_alike T) .nil pass0 (pa_cons (pe_call (ok_square_betti T B) (hr.mono (by decide)) rfl T.square_betti.g T.square_betti.F.kp (b_square_betti T) .nil pass0 (pa_cons (pv 2) (pa_cons pe_int (pa_cons (pe_call (ok_nonfaces T B) (hr.mono (by decide)) rfl T.nonfaces.g T.nonfaces.F.kp (b_nonfaces T) .nil pass0 (pa_cons pe_int (pa_cons (pv 12) pa_nil))) pa_nil)))) (pa_cons (pv 8) pa_nil))))))) pss_nil)
  (pss_cons (ps_set (i := 13) sc_law.nd rfl (Or.inl rfl) (pe_tup (pa_cons (pe_tup (pa_cons pe_int (pa_cons pe_int (pa_cons pe_int pa_nil)))) (pa_cons (pe_tup (pa_cons pe_int (pa_cons pe_int (pa_cons pe_int pa_nil)))) (pa_cons (pe_tup (pa_cons pe_int (pa_cons pe_int (pa_cons pe_int pa_nil)))) (pa_cons (pe_tup (pa_cons pe_int (pa_cons pe_int (pa_cons pe_int pa_nil)))) (pa_cons (pe_tup (pa_cons pe_int (pa_cons pe_int (pa_cons pe_int pa_nil)))) (pa_cons (pe_tup (pa_cons pe_int (pa_cons pe_int (pa_cons pe_int pa_nil)))) (pa_cons (pe_tup (pa_cons pe_int (pa_cons pe_int (pa_cons pe_int pa_nil)))) (pa_cons (pe_tup (pa_cons pe_int (pa_cons pe_int (pa_cons pe_int pa_nil)))) pa_nil))))))))))
  (pss_cons (ps_set (i := 13) sc_law.nd rfl (Or.inl rfl) (pe_op (r := rCatA K) op_catA (pv 13) (pe_tup (pa_cons (pe_tup (pa_cons pe_int (pa_cons pe_int (pa_cons pe_int pa_nil)))) (pa_cons (pe_tup (pa_cons pe_int (pa_cons pe_int (pa_cons pe_int pa_nil)))) pa_nil)))))
  (pss_cons (ps_set (i := 8) sc_law.nd rfl (Or.inl rfl) (pe_lst (pa_cons (pe_tup (pa_cons pe_int (pa_cons pe_int (pa_cons pe_int pa_nil)))) (pa_cons (pe_tup (pa_cons pe_int (pa_cons pe_int (pa_cons pe_int pa_nil)))) (pa_cons (pe_tup (pa_cons pe_int (pa_cons pe_int (pa_cons pe_int pa_nil)))) (pa_cons (pe_tup (pa_cons pe_int (pa_cons pe_int (pa_cons pe_int pa_nil)))) pa_nil))))))
  (pss_cons (ps_if (pt_cmpR op_eq (pv 2) pe_int (nomark _)) (pss_one (ps_set (i := 8) sc_law.nd rfl (Or.inl rfl) (pe_op op_cat (pv 8) (pe_lst (pa_cons (pe_tup (pa_cons pe_int (pa_cons pe_int (pa_cons pe_int pa_nil)))) (pa_cons (pe_tup (pa_cons pe_int (pa_cons pe_int (pa_cons pe_int pa_nil)))) pa_nil)))))) pss_nil)
  (pss_one (ps_ret (pe_call (ok_law_alike T) (hr.mono (by decide)) rfl T.law_alike.g T.law_alike.F.kp (b_law_alike T) .nil pass0 (pa_cons (pe_call (ok_square_betti T B) (hr.mono (by decide)) rfl T.square_betti.g T.square_betti.F.kp (b_square_betti T) .nil pass0 (pa_cons (pv 2) (pa_cons pe_int (pa_cons (pe_call (ok_nonfaces T B) (hr.mono (by decide)) rfl T.nonfaces.g T.nonfaces.F.kp (b_nonfaces T) .nil pass0 (pa_cons pe_int (pa_cons (pv 13) pa_nil))) pa_nil)))) (pa_cons (pv 8) pa_nil))))))))))))))), ?_⟩
    walk_at "rd"
    refine ⟨(show 4 ≤ sizeLine by decide), fun r hrn => ?_⟩
    have s0 := same_upd (o := .lst [.ref sa, .int 0, .int 4169, .int 0]) hrn
    have row0 : RowAt K (upd H r (.lst [.ref sa, .int 0, .int 4169, .int 0])) r sa ns := by
      refine .of (ns := ns) rfl ?_ (by decide) (by decide) (by decide) (by decide)
      rcases hS with hS | hS
      · refine .inl ⟨hS, ?_⟩
        rcases hS with h | ⟨u, h⟩ <;> exact ne_of_none h hrn
      · exact .inr hS
    have ts0 := hT.same s0
    generalize upd H r (.lst [.ref sa, .int 0, .int 4169, .int 0]) = Hs at *
    walk_at "rd"
    refine ⟨(show 5 ≤ sizeLine by decide), fun pf npf => ?_⟩
    have s1 := same_upd (o := .lst [.int 0, .int 2, .int 3, .int 5, .int 7]) npf
    have K1 : LK t K r sa ns Hs (upd Hs pf (.lst [.int 0, .int 2, .int 3, .int 5, .int 7])) := LK.same row0 ts0 s1
    have e1 : (upd Hs pf (.lst [.int 0, .int 2, .int 3, .int 5, .int 7])) pf = some (.lst ([0, 2, 3, 5, 7].map V.int)) := upd_same
    have npr : pf ≠ r := fun z => by
      obtain ⟨xs, hx⟩ := row_lst row0
      rw [z, hx] at npf; cases npf
    generalize upd Hs pf (.lst [.int 0, .int 2, .int 3, .int 5, .int 7]) = H1 at *
    refine ⟨r, sa, pf, ns, _, rfl, K1.row, .inl (.inl e1), npr, by decide, by decide, fun v H2 hv row2 b2 => ?_⟩
    obtain ⟨f, hfm, rfl⟩ := List.mem_map.mp hv
    have K2 := K1.trans (LK.rk K1.row K1.ts (.draw row2 b2))
    have hf : FldOk f := by
      rcases List.mem_cons.mp hfm with h | hfm
      · exact .inl h
      rcases List.mem_cons.mp hfm with h | hfm
      · exact .inr (.inl h)
      rcases List.mem_cons.mp hfm with h | hfm
      · exact .inr (.inr (.inl h))
      rcases List.mem_cons.mp hfm with h | hfm
      · exact .inr (.inr (.inr (.inl h)))
      · exact .inr (.inr (.inr (.inr (List.mem_singleton.mp hfm))))
    walk_at "rd"
    refine ⟨r, sa, ns, 8, rfl, K2.row, by decide, by decide, fun way H3 w0 w1 row3 b3 => ?_⟩
    have K3 := K2.trans (LK.rk K2.row K2.ts (.draw row3 b3))
    walk_at "rd"
    refine ⟨r, sa, ns, 5, rfl, K3.row, by decide, by decide, fun c H4 c0 c1 row4 b4 => ?_⟩
    have K4 := K3.trans (LK.rk K3.row K3.ts (.draw row4 b4))
    obtain ⟨c, rfl⟩ := Int.eq_ofNat_of_zero_le c0
    obtain ⟨n, hn⟩ : ∃ n, n = c + 2 := ⟨_, rfl⟩
    walk_at "rd"
    dsimp only
    rw [show (2 : Int) + (c : Int) = ((n : Nat) : Int) by omega]
    have hn2 : 2 ≤ n := by omega
    have hn6 : n ≤ 6 := by omega
    clear hn c0 c1
    walk_at "rd"
    refine iteD (fun hw => ?_) (fun hw3 => ?_)
    · refine ⟨Nat.zero_le _, fun q0 hq0 => ?_⟩
      have s5 := same_upd (o := .tup []) hq0
      have K5 := K4.trans (LK.same K4.row K4.ts s5)
      have d5 : Dp K (upd H4 q0 (.tup [])) (.ref q0) (rsD ((List.range 0).flatMap (pairsA n))) := .tup (.inl (.inl upd_same)) .nil
      generalize upd H4 q0 (.tup []) = H5 at *
      walk_at "rd"
      refine ⟨by omega, by omega, ?_⟩
      rw [Int.toNat_natCast]
      refine for_it walk_range (fun j σ H' => ∃ (q : Addr) (y6 : Option V), σ = [some (.ref sa), some (.ref r), some (.int f), some (.int way), some (.int n), some (.ref q), y6, none, none, none, none, none, none, none] ∧ Same H5 H' ∧ Dp K H' (.ref q) (rsD ((List.range j).flatMap (pairsA n)))) ⟨q0, none, rfl, Same.refl _, d5⟩ (fun j σ H' _ q => trivial) (fun j x σ H' H6 hj q y => ?_) (fun σ H' q => ?_)
      · obtain ⟨q, y6, rfl, s6, d6⟩ := q
        obtain ⟨rfl, rfl⟩ := y
        have e0 : (0 : Int) + (j : Int) = ((j : Nat) : Int) := Int.zero_add _
        dsimp only
        rw [e0]
        walk_at "rd"
        refine ⟨⟨by omega, by omega, by omega, by omega⟩, fun D hD => ?_⟩
        rw [show ((n : Int) - ((j : Int) + 1)).toNat = n - (j + 1) by omega]
        have hpl : (pairsA n j).length = n - (j + 1) := by unfold pairsA; rw [List.length_map, List.length_range]
        refine lc_gen walk_range (pairsA n j) (fun _ => true) id (fun row v H' => Dp K H' v (rD row)) hpl (fun _ _ => trivial) hD (by omega) (fun row v _ _ kp h => Dp.tp kp.tp _ _ (tOnly_rD row) h) (fun i row x Ha Hb Qn Qy hrow sa' y _ ht => ?_) (fun H7 zs s7 e7 fz => ?_)
        · obtain ⟨rfl, rfl⟩ := y
          unfold pairsA at hrow
          rw [List.getElem?_map] at hrow
          obtain ⟨i', hi', rfl⟩ := Option.map_eq_some_iff.mp hrow
          obtain ⟨_, rfl⟩ := fst_range hi'
          walk_at "rd"
          refine ⟨(show 2 ≤ sizeLine by decide), fun p hp => ht rfl _ _ (same_upd hp) (dp_ints (.inl (.inl upd_same)))⟩
        · rw [filterT, List.map_id] at fz
          have dz := fits_rows fz
          obtain ⟨a', xs, e', hx, hd⟩ := rows_tup d6
          cases e'
          have hxl := rows_list hd
          have hzl := rows_list dz
          have hpl2 := pairs_len (j := j) hn6 (by omega)
          have hline : 1000 ≤ sizeLine := by decide
          walk_at "rd"
          refine ⟨D, zs, rfl, .inl ⟨.inl (.inl e7), fun l hl => ?_⟩⟩
          have s8 := same_upd (o := .tup zs) hl
          have e8 : (upd H7 l (.tup zs)) l = some (.tup zs) := upd_same
          generalize upd H7 l (.tup zs) = H8 at *
          have s78 := Same.trans s7 s8
          refine catA (Toy.Same.tup s78 hx) (.inl (.inl e8)) (by omega) fun p H9 s9 e9 => ?_
          have s79 := Same.trans s78 s9
          refine ⟨p, _, rfl, Same.trans s6 s79, ?_⟩
          rw [List.range_succ, List.flatMap_append, List.flatMap_singleton]
          refine .tup e9 ?_
          rw [List.map_append]
          exact dpAll_app (DpAll.same s79 _ _ hd) (DpAll.same (Same.trans s8 s9) _ _ dz)
      · obtain ⟨q, y6, rfl, s6, d6⟩ := q
        dsimp only
        refine seq_asg (op_step (lst_step ?_))
        rw [ta_one]
        refine rowsTA_rd (K := K) (rs := [[0, 0, 1]]) (by decide) fun xs0 H7 s7 d7 => ?_
        refine ⟨by rw [rows_list d7]; decide, fun p hp => ?_⟩
        have s8 := same_upd (o := .lst xs0) hp
        have e8 : (upd H7 p (.lst xs0)) p = some (.lst xs0) := upd_same
        generalize upd H7 p (.lst xs0) = H8 at *
        walk_at "rd"
        refine ⟨⟨by omega, by omega, by omega, by omega⟩, fun D hD => ?_⟩
        rw [show ((n : Int) - 1).toNat = n - 1 by omega]
        refine lc_gen walk_range ((List.range (n - 1)).map fun (i : Nat) => [1 + (i : Int), 1 + (i : Int) + 1, (1 + (i : Int)) * combF n (i + 2)]) (fun _ => true) id (fun row v H' => Dp K H' v (rD row)) (by rw [List.length_map, List.length_range]) (fun _ _ => trivial) hD (by omega) (fun row v _ _ kp h => Dp.tp kp.tp _ _ (tOnly_rD row) h) (fun i row x Ha Hb Qn Qy hrow sa' y _ ht => ?_) (fun H9 zs s9 e9 fz => ?_)
        · obtain ⟨rfl, rfl⟩ := y
          rw [List.getElem?_map] at hrow
          obtain ⟨i', hi', rfl⟩ := Option.map_eq_some_iff.mp hrow
          obtain ⟨hi, rfl⟩ := fst_range hi'
          have hcb := combF_small (t := n) (j := i' + 2) (by omega) (by omega)
          walk_at "rd"
          rw [show 1 + i' + 1 = i' + 2 by omega]
          refine ⟨by omega, by omega, ?_⟩
          walk_at "rd"
          refine ⟨(show 3 ≤ sizeLine by decide), fun p hp => ht rfl _ _ (same_upd hp) (dp_ints (.inl (.inl upd_same)))⟩
        · rw [filterT, List.map_id] at fz
          have dz := fits_rows fz
          have hzl := fz.1
          rw [List.length_map, List.length_range] at hzl
          have hline : 1000 ≤ sizeLine := by decide
          have hx0 := rows_list d7
          refine ⟨p, D, xs0, zs, rfl, rfl, s9 _ _ e8, e9, by rw [hx0]; show 1 + zs.length ≤ sizeLine; omega, fun p3 hp3 => ?_⟩
          have s10 := same_upd (o := .lst (xs0 ++ zs)) hp3
          have e10 : (upd H9 p3 (.lst (xs0 ++ zs))) p3 = some (.lst (xs0 ++ zs)) := upd_same
          generalize upd H9 p3 (.lst (xs0 ++ zs)) = H10 at *
          have sT := Same.trans s7 (Same.trans s8 (Same.trans s9 s10))
          have dd : DpAll K H10 (xs0 ++ zs) ((dueP n).map rD) := dpAll_app (DpAll.same (Same.trans s8 (Same.trans s9 s10)) _ _ d7) (DpAll.same s10 _ _ dz)
          have hok := List.all_eq_true.mp (List.all_eq_true.mp pairs_all f (f_mem hf)) n (n_mem hn2 hn6)
          walk_at "rd"
          dsimp only [tNil]
          refine ends (L := dueP n) (rs := pairsL n) hf (by omega) (by omega) (Dp.same sT _ _ d6) (pairs_row hn2 hn6) (pairs_len hn6 hn6) hok (K5.ts.same (Same.trans s6 sT)) e10 dd (by unfold dueP; rw [List.length_cons, List.length_map, List.length_range]; omega) (fun l hl => ?_) fun p' H' al => ?_
          · unfold dueP at hl
            rcases List.mem_cons.mp hl with z | z
            · rw [z]; decide
            · obtain ⟨i, _, rfl⟩ := List.mem_map.mp z
              show 3 ≤ 100
              decide
          · walk_at "rd"
            exact ⟨al, fun H'' s => k _⟩
    · walk_at "rd"
      refine iteD (fun hw5 => ?_) (fun hw5 => ?_)
      · walk_at "rd"
        refine ⟨r, sa, ns, n, rfl, K4.row, by omega, by omega, fun m H5 m0 m1 row5 b5 => ?_⟩
        have K5 := K4.trans (LK.rk K4.row K4.ts (.draw row5 b5))
        obtain ⟨m, rfl⟩ := Int.eq_ofNat_of_zero_le m0
        walk_at "rd"
        refine ⟨by omega, by omega, fun D hD => ?_⟩
        rw [show ((1 : Int) + (m : Int)).toNat = m + 1 by omega]
        have hcl : (chosenL (m + 1)).length = m + 1 := by unfold chosenL; rw [List.length_map, List.length_range]
        refine lc_gen walk_range (chosenL (m + 1)) (fun _ => true) id (fun row v H' => Dp K H' v (rD row)) hcl (fun _ _ => trivial) hD (by omega) (fun row v _ _ kp h => Dp.tp kp.tp _ _ (tOnly_rD row) h) (fun i row x Ha Hb Qn Qy hrow sa' y _ ht => ?_) (fun H6 zs s6 e6 fz => ?_)
        · obtain ⟨rfl, rfl⟩ := y
          unfold chosenL at hrow
          rw [List.getElem?_map] at hrow
          obtain ⟨i', hi', rfl⟩ := Option.map_eq_some_iff.mp hrow
          obtain ⟨_, rfl⟩ := fst_range hi'
          dsimp only
          rw [show (0 : Int) + (i' : Int) = ((i' : Nat) : Int) from Int.zero_add _]
          walk_at "rd"
          refine ⟨(show 1 ≤ sizeLine by decide), fun p hp => ht rfl _ _ (same_upd hp) (dp_ints (.inl (.inl upd_same)))⟩
        · rw [filterT, List.map_id] at fz
          have dz := fits_rows fz
          have hzl := rows_list dz
          rw [hcl] at hzl
          have hline : 1000 ≤ sizeLine := by decide
          walk_at "rd"
          refine ⟨D, zs, rfl, .inl ⟨.inl (.inl e6), fun l hl => ?_⟩⟩
          have s7 := same_upd (o := .tup zs) hl
          have e7 : (upd H6 l (.tup zs)) l = some (.tup zs) := upd_same
          have d7 : Dp K (upd H6 l (.tup zs)) (.ref l) (rsD (chosenL (m + 1))) := .tup (.inl (.inl upd_same)) (DpAll.same s7 _ _ dz)
          generalize upd H6 l (.tup zs) = H7 at *
          walk_at "rd"
          rw [hzl]
          refine ⟨by omega, by omega, fun D2 hD2 => ?_⟩
          rw [show (((m + 1 : Nat) : Int) + 1).toNat = m + 2 by omega]
          have hdl : (dueC (m + 1)).length = m + 2 := by unfold dueC; rw [List.length_map, List.length_range]
          refine lc_gen walk_range (dueC (m + 1)) (fun _ => true) id (fun row v H' => Dp K H' v (rD row)) hdl (fun _ _ => trivial) hD2 (by omega) (fun row v _ _ kp h => Dp.tp kp.tp _ _ (tOnly_rD row) h) (fun i row x Ha Hb Qn Qy hrow sa' y _ ht => ?_) (fun H8 ds s8 e8 fz8 => ?_)
          · obtain ⟨rfl, rfl⟩ := y
            unfold dueC at hrow
            rw [List.getElem?_map] at hrow
            obtain ⟨i', hi', rfl⟩ := Option.map_eq_some_iff.mp hrow
            obtain ⟨hi, rfl⟩ := fst_range hi'
            have e7b := sa' _ _ e7
            dsimp only
            rw [show (0 : Int) + (i' : Int) = ((i' : Nat) : Int) from Int.zero_add _]
            walk_at "rd"
            rw [hzl]
            refine ⟨by omega, by omega, ?_⟩
            walk_at "rd"
            refine ⟨(show 3 ≤ sizeLine by decide), fun p hp => ht rfl _ _ (same_upd hp) (dp_ints (.inl (.inl upd_same)))⟩
          · rw [filterT, List.map_id] at fz8
            have dd := fits_rows fz8
            have hm : m < n := by omega
            have hok := List.all_eq_true.mp (List.all_eq_true.mp (List.all_eq_true.mp chosen_all f (f_mem hf)) n (n_mem hn2 hn6)) m (List.mem_range.mpr hm)
            walk_at "rd"
            dsimp only [tNil]
            refine ends (L := dueC (m + 1)) (rs := chosenL (m + 1)) hf (by omega) (by omega) (Dp.same s8 _ _ d7) (fun r hr => ?_) (by omega) hok (K5.ts.same (Same.trans s6 (Same.trans s7 s8))) e8 dd (by omega) (fun l hl => ?_) fun p' H' al => ?_
            · unfold chosenL at hr
              obtain ⟨v, hv, rfl⟩ := List.mem_map.mp hr
              have := List.mem_range.mp hv
              refine ⟨⟨List.pairwise_singleton _ _, fun p hp => ?_⟩, fun z => nomatch z⟩
              rw [List.mem_singleton.mp hp]
              omega
            · unfold dueC at hl
              obtain ⟨v, hv, rfl⟩ := List.mem_map.mp hl
              show 3 ≤ 100
              decide
            · walk_at "rd"
              exact ⟨al, fun H'' s => k _⟩
      · walk_at "rd"
        refine iteD (fun hw7 => ?_) (fun hw7 => ?_)
        · refine seq_asg (tup_step ?_)
          rw [ta_ring]
          refine rowsTA_rd (K := K) (rs := ring) (by decide) fun xs5 H5 s5 d5 => ?_
          refine ⟨by rw [rows_list d5]; decide, fun p5 hp5 => ?_⟩
          have s6 := same_upd (o := .tup xs5) hp5
          have d6 : Dp K (upd H5 p5 (.tup xs5)) (.ref p5) (rsD ring) := .tup (.inl (.inl upd_same)) (DpAll.same s6 _ _ d5)
          have s46 := Same.trans s5 s6
          generalize upd H5 p5 (.tup xs5) = H6 at *
          refine seq_asg (lst_step ?_)
          rw [ta_dueR]
          refine rowsTA_rd (K := K) (rs := dueR) (by decide) fun xs7 H7 s7 d7 => ?_
          refine ⟨by rw [rows_list d7]; decide, fun p7 hp7 => ?_⟩
          have s8 := same_upd (o := .lst xs7) hp7
          have e8 : (upd H7 p7 (.lst xs7)) p7 = some (.lst xs7) := upd_same
          have d8 := DpAll.same s8 _ _ d7
          have s48 := Same.trans s46 (Same.trans s7 s8)
          have d68 := Dp.same (Same.trans s7 s8) _ _ d6
          generalize upd H7 p7 (.lst xs7) = H8 at *
          obtain ⟨g1, g2, g3⟩ := ring_non
          have hok := List.all_eq_true.mp ring_all f (f_mem hf)
          walk_at "rd"
          refine ⟨5, p5, ring, rfl, by decide, by decide, d68, ring_good, g1, K4.ts.same s48, fun p9 H9 x9 d9 => ?_⟩
          dsimp only [tNil]
          refine ends (n := 5) (L := dueR) (rs := nonR 5 ring) hf (by decide) (by decide) d9 g2 g3 hok x9.ts (x9.keep _ _ e8 fun ps z => nomatch z) (DpAll.tp (tp_ext x9.keep) _ _ (tOnly_rows _) d8) (by decide) (by decide) fun p' H' al => ?_
          walk_at "rd"
          exact ⟨al, fun H'' s => k _⟩
        · dsimp only [tNext]
          refine seq_asg (tup_step ?_)
          rw [ta_pl1]
          refine rowsTA_rd (K := K) (rs := [[0, 1, 3], [0, 1, 4], [0, 2, 3], [0, 2, 5], [0, 4, 5], [1, 2, 4], [1, 2, 5], [1, 3, 5]]) (by decide) fun xs5 H5 s5 d5 => ?_
          refine ⟨by rw [rows_list d5]; decide, fun p5 hp5 => ?_⟩
          have s6 := same_upd (o := .tup xs5) hp5
          have e6 : (upd H5 p5 (.tup xs5)) p5 = some (.tup xs5) := upd_same
          have d6 := DpAll.same s6 _ _ d5
          have s46 := Same.trans s5 s6
          generalize upd H5 p5 (.tup xs5) = H6 at *
          walk_at "rd"
          refine tup_step ?_
          rw [ta_pl2]
          refine rowsTA_rd (K := K) (rs := [[2, 3, 4], [3, 4, 5]]) (by decide) fun xs7 H7 s7 d7 => ?_
          refine ⟨by rw [rows_list d7]; decide, fun p7 hp7 => ?_⟩
          have s8 := same_upd (o := .tup xs7) hp7
          have e8 : (upd H7 p7 (.tup xs7)) p7 = some (.tup xs7) := upd_same
          have d8 := DpAll.same s8 _ _ d7
          have s68 := Same.trans s7 s8
          generalize upd H7 p7 (.tup xs7) = H8 at *
          refine catP (s68 _ _ e6) e8 (by rw [rows_list d6, rows_list d7]; decide) fun pp H9 s9 e9 => ?_
          have d9 : Dp K H9 (.ref pp) (rsD plane) := .tup (.inl (.inl e9)) (by
            have := dpAll_app (DpAll.same (Same.trans s68 s9) _ _ d6) (DpAll.same s9 _ _ d8)
            rw [← List.map_append] at this
            exact this)
          have s49 := Same.trans s46 (Same.trans s68 s9)
          obtain ⟨g1, g2, g3⟩ := plane_non
          have hok := List.all_eq_true.mp plane_all f (f_mem hf)
          dsimp only [gName]
          refine seq_asg (lst_step ?_)
          rw [ta_dueQ]
          refine rowsTA_rd (K := K) (rs := dueQ) (by decide) fun xsa Ha sa' da => ?_
          refine ⟨by rw [rows_list da]; decide, fun pa hpa => ?_⟩
          have sb := same_upd (o := .lst xsa) hpa
          have eb : (upd Ha pa (.lst xsa)) pa = some (.lst xsa) := upd_same
          have db := DpAll.same sb _ _ da
          have s4b := Same.trans s49 (Same.trans sa' sb)
          have d9b := Dp.same (Same.trans sa' sb) _ _ d9
          generalize upd Ha pa (.lst xsa) = Hb at *
          walk_at "rd"
          refine iteV (fun h2 => ?_) (fun h2 => ?_)
          · rw [if_pos h2] at hok
            walk_at "rd"
            refine lst_step ?_
            rw [ta_q2]
            refine rowsTA_rd (K := K) (rs := [[3, 6, 1], [4, 6, 1]]) (by decide) fun xsc Hc sc dc => ?_
            refine ⟨by rw [rows_list dc]; decide, fun pc hpc => ?_⟩
            have sd := same_upd (o := .lst xsc) hpc
            have ed : (upd Hc pc (.lst xsc)) pc = some (.lst xsc) := upd_same
            have dd := DpAll.same sd _ _ dc
            have scd := Same.trans sc sd
            generalize upd Hc pc (.lst xsc) = Hd at *
            refine ⟨pa, pc, xsa, xsc, rfl, rfl, scd _ _ eb, ed, by rw [rows_list da, rows_list dc]; decide, fun pe hpe => ?_⟩
            have se := same_upd (o := .lst (xsa ++ xsc)) hpe
            have ee : (upd Hd pe (.lst (xsa ++ xsc))) pe = some (.lst (xsa ++ xsc)) := upd_same
            have de : DpAll K (upd Hd pe (.lst (xsa ++ xsc))) (xsa ++ xsc) ((dueQ ++ [[3, 6, 1], [4, 6, 1]]).map rD) := by
              rw [List.map_append]
              exact dpAll_app (DpAll.same (Same.trans scd se) _ _ db) (DpAll.same se _ _ dd)
            have s4e := Same.trans s4b (Same.trans scd se)
            have d9e := Dp.same (Same.trans scd se) _ _ d9b
            generalize upd Hd pe (.lst (xsa ++ xsc)) = He at *
            walk_at "rd"
            refine ⟨6, pp, plane, rfl, by decide, by decide, d9e, plane_good, g1, K4.ts.same s4e, fun pg Hg xg dg => ?_⟩
            dsimp only [tNil]
            refine ends (n := 6) (L := dueQ ++ [[3, 6, 1], [4, 6, 1]]) (rs := nonR 6 plane) hf (by decide) (by decide) dg g2 g3 hok xg.ts (xg.keep _ _ ee fun ps z => nomatch z) (DpAll.tp (tp_ext xg.keep) _ _ (tOnly_rows _) de) (by decide) (by decide) fun p' H' al => ?_
            walk_at "rd"
            exact ⟨al, fun H'' s => k _⟩
          · rw [if_neg h2, List.append_nil] at hok
            dsimp only [tNext]
            walk_at "rd"
            refine ⟨6, pp, plane, rfl, by decide, by decide, d9b, plane_good, g1, K4.ts.same s4b, fun pg Hg xg dg => ?_⟩
            dsimp only [tNil]
            refine ends (n := 6) (L := dueQ) (rs := nonR 6 plane) hf (by decide) (by decide) dg g2 g3 hok xg.ts (xg.keep _ _ eb fun ps z => nomatch z) (DpAll.tp (tp_ext xg.keep) _ _ (tOnly_rows _) db) (by decide) (by decide) fun p' H' al => ?_
            walk_at "rd"
            exact ⟨al, fun H'' s => k _⟩
end

/-! ### the end -/
section
open PySem.Spec PyProof.Rows LamX
/-- as the layer's end with tables; handed on besides: the whole top -/
theorem walk_top {l : PySem.W.OpenLaw} {n k : Nat} {q : Program} {loose : List Str} {XP : (Str → Option Value) → Heap → Prop} {YP : World → Heap → Prop} {d : DefRec} {K : Params → PySem.W.Frag} {CX : World → CXT} {x : Str}
    (hn : l.most = some n) (hn2 : n ≤ sizeLine) (hdf : d.params.defaults = []) (hr : Room k callerA) (hY : ∀ (w : World) (h : Heap), YP w h → (K w.params).In h)
    (F : ∀ (w : World) (s₀ : Shared) (mg mb : Str → Option Value) (fa : Addr) (h : Heap), PySem.W.Ground q loose [] XP w s₀ mg mb h → (K w.params).In h → h.Ns mainGlobals mg → mg d.name = some (.ref fa) → LawAtS l w (K w.params) (CX w) k n x mg fa h)
    (hCX : ∀ (w : World) (H : Hp) (s : Shared) (e : Value) (s' : Shared), CX w [] H s (fun _ _ _ => False) e s' → False) :
    PySem.W.WalkO q loose XP YP l.row.toRowW d [] (fun f vs => PySem.call f vs) := by
  refine Att.attach_callB hn hdf fun w s₀ s₁ mg mb fa o pm cd doc a vs ns G Y ho hd hcd hmg hobj hints hlen hbits hg => ?_
  have KX := hY w _ Y
  obtain ⟨fd, cs, sp, hT, nT, C, hb, hsp, hF⟩ := F w s₀ mg mb fa _ G KX G.T.g hmg
  exact law_callTs KX G.T.g G.T.b G.T.builtins G.T.nolimit hg hT nT C G.T.bmain hobj hints (Nat.le_trans hlen hn2) hr hF hb (fun H hH hS => hsp H a ns hlen hbits hH hS) fun H e s' => hCX w H s₁ e s'
/-- the code object and its table of a def, by the written part -/
theorem tab_in {K : PySem.W.Frag} {x : Str} {f c P : Addr} {oc e : Value} {od dd : Option Addr} {fd : FuncData} {vs : Array Value} {s1 s2 : Array (Option Value)} (a : PySem.W.nsIn K mainGlobals x = some (some (.ref f))) (l : K.lookup f = some ⟨oc, od, .func fd, s1⟩) (hc : fd.code = .ref c)
    (lc : K.lookup c = some ⟨e, dd, .fields vs, s2⟩) (hv : vs[11]? = some (.ref P)) : PySem.W.tabIn K x = some (c, P) := by
  unfold PySem.W.tabIn
  rw [a]
  simp only [l, hc, lc, hv]
/-- a whole number of the top that the head does not write out -/
theorem loose_int {q : Program} {lv : List (Str × PySem.W.WData)} {mg : Str → Option Value} {h : Heap} {x : Str} {i : Int} (X : PySem.W.XL q lv mg h) (hm : (x, PySem.W.WData.int i) ∈ lv) : ∃ t, mg x = some (.int i t) := by
  obtain ⟨v, a, r⟩ := X.2.val _ hm
  cases r
  exact ⟨_, a⟩
end

section
open PyProof.Rows
theorem code_of {K : PySem.W.Frag} {mg : Str → Option Value} {h : Heap} {x : Str} {st : Stmt} {c P : Addr} (D : DefAt K mg x st) (X : K.In h) (G : h.Ns mainGlobals mg) (ht : PySem.W.tabIn K x = some (c, P)) : D.fd.code = .ref c := by
  obtain ⟨oc, od, kV, doc, pm, an, cdv, ct, osl, e, lk, hcd⟩ := D.F.ex
  exact PySem.W.law_code X G ht D.g (X _ _ lk) rfl
theorem mem_n {α : Type} {p : α → Prop} : ∀ x ∈ ([] : List α), p x := fun _ h => by cases h
theorem mem_c {α : Type} {p : α → Prop} {a : α} {l : List α} (ha : p a) (hl : ∀ x ∈ l, p x) : ∀ x ∈ a :: l, p x := fun x hx => by
  rcases List.mem_cons.mp hx with rfl | h
  · exact ha
  · exact hl x h
theorem gx_of {base : Heap} {mg : Str → Option Value} {c P : Addr} (h : LamX.TabB base mg c P) : GxR.TabB base mg c P := ⟨h.code, h.bm, h.gP⟩
/-- addresses told by names -/
def nmA (l : List (Str × Addr)) (x : Str) : Addr := (l.lookup x).getD 0
theorem law_at {l : PySem.W.OpenLaw} {w : World} {K : PySem.W.Frag} {mg mb : Str → Option Value} {q : Program} {loose : List Str} {mean : ExcName → Option Value} {fa : Addr} {c : Str → Addr} {t : TabsAt} {h : Heap} { d1 d2 : DefRec} (TT : PyProof.Rows.Top q loose mean mg mb h) (X : K.In h) (G : h.Ns mainGlobals mg) (hfa : mg "law" = some (.ref fa))
    (r1 : (PyProof.Rows.recsOf q).find? (fun e => e.name == ("is_row_of_indexes" : Str)) = some d1) (r2 : (PyProof.Rows.recsOf q).find? (fun e => e.name == ("is_complex" : Str)) = some d2)
    (t1 : PySem.W.tabIn K "is_row_of_indexes" = some (c "is_row_of_indexes", t.a "is_row_of_indexes")) (t2 : PySem.W.tabIn K "is_complex" = some (c "is_complex", t.a "is_complex"))
    (n1 : K.lookup (t.a "is_row_of_indexes") = none) (n2 : K.lookup (t.a "is_complex") = none) (T : Txt K mg) : LamX.LawAtS l w K CX0 22 63 "script" mg fa h := by
  obtain ⟨C1, p1⟩ := PySem.W.tab_of TT X r1 t1; obtain ⟨C2, p2⟩ := PySem.W.tab_of TT X r2 t2
  have e := hfa.symm.trans T.law.g
  cases e
  refine ⟨T.law.fd, [(c "is_row_of_indexes", t.a "is_row_of_indexes"), (c "is_complex", t.a "is_complex")], sp_law t K, (mem_c p1 (mem_c p2 mem_n) ), (mem_c n1 (mem_c n2 mem_n) ), (mem_c C1 (mem_c C2 mem_n) ), fun s u => ?_, fun H a ns hl hbits hT hS => ?_, fun base hb hn hT => ok_law T (t := t) { c := c, h_is_row_of_indexes := code_of T.is_row_of_indexes X G t1, b_is_row_of_indexes := gx_of (hT (c "is_row_of_indexes", t.a "is_row_of_indexes") (by simp)), h_is_complex := code_of T.is_complex X G t2, b_is_complex := gx_of (hT (c "is_complex", t.a "is_complex") (by simp)) }⟩
  · obtain ⟨oc, od, kV, doc, pm, an, cdv, ct, osl, e, lk, hcd⟩ := T.law.F.ex
    rw [e]
    exact .of_eq rfl
  · refine ⟨a, ns, rfl, hS, ⟨fun x hx => ?_, fun x hx => ?_⟩, fun _ => rfl⟩
    · revert x
      exact (mem_c ⟨_, hT (c "is_row_of_indexes", t.a "is_row_of_indexes") (by simp), True.intro⟩ (mem_c ⟨_, hT (c "is_complex", t.a "is_complex") (by simp), True.intro⟩ mem_n) )
    · revert x
      exact  mem_n
theorem tup_written {K : PySem.W.Frag} {a : Addr} {xs : List Int} {dd : Option Addr} {its : Array Value} {n : Nat} {sl : Array (Option Value)} (l : K.lookup a = some ⟨.type "tuple", dd, .seq its n, sl⟩) (hz : its.size ≤ sizeLine) (hv : Vals (xs.map V.int) its.toList) : ∀ H, SqT K H a (xs.map V.int) := fun _ => .inr ⟨_, its, n, l, rfl, rfl, hz, hv⟩
noncomputable def echI {K : PySem.W.Frag} {h : Heap} {mg : Str → Option Value} (X : K.In h) (G : h.Ns mainGlobals mg) {C f1 f2 f3 f4 : Addr}
    {od1 an1 od2 an2 od3 an3 od4 an4 : Option Addr} {sl1 sl2 sl3 sl4 : Array (Option Value)} {oc1 kV1 dc1 pm1 cd1 ct1 oc2 kV2 dc2 pm2 cd2 ct2 oc3 kV3 dc3 pm3 cd3 ct3 oc4 kV4 dc4 pm4 cd4 ct4 : Value}
    (aC : PySem.W.nsIn K mainGlobals "Echelon" = some (some (.ref C)))
    (a1 : PySem.W.findIn K (.ref C) "__init__" = some (some (.ref f1))) (i1 : PySem.W.isFn K (.ref f1) = true) (l1 : K.lookup f1 = some ⟨oc1, od1, .func (PySem.W.fnOf "__init__" "Echelon.__init__" (defArgs s_Echelon___init__) (defBody s_Echelon___init__) (defScope s_Echelon___init__) .none kV1 dc1 pm1 an1 cd1 ct1), sl1⟩) (e1 : PySem.W.codeIn K cd1 "Echelon.__init__" = true) (k1 : PySem.W.keepIn K (.ref f1) = true)
    (a2 : PySem.W.findIn K (.ref C) "put" = some (some (.ref f2))) (i2 : PySem.W.isFn K (.ref f2) = true) (l2 : K.lookup f2 = some ⟨oc2, od2, .func (PySem.W.fnOf "put" "Echelon.put" (defArgs s_Echelon_put) (defBody s_Echelon_put) (defScope s_Echelon_put) .none kV2 dc2 pm2 an2 cd2 ct2), sl2⟩) (e2 : PySem.W.codeIn K cd2 "Echelon.put" = true) (k2 : PySem.W.keepIn K (.ref f2) = true)
    (a3 : PySem.W.findIn K (.ref C) "rest" = some (some (.ref f3))) (i3 : PySem.W.isFn K (.ref f3) = true) (l3 : K.lookup f3 = some ⟨oc3, od3, .func (PySem.W.fnOf "rest" "Echelon.rest" (defArgs s_Echelon_rest) (defBody s_Echelon_rest) (defScope s_Echelon_rest) .none kV3 dc3 pm3 an3 cd3 ct3), sl3⟩) (e3 : PySem.W.codeIn K cd3 "Echelon.rest" = true) (k3 : PySem.W.keepIn K (.ref f3) = true)
    (a4 : PySem.W.findIn K (.ref C) "rest_modulo" = some (some (.ref f4))) (i4 : PySem.W.isFn K (.ref f4) = true) (l4 : K.lookup f4 = some ⟨oc4, od4, .func (PySem.W.fnOf "rest_modulo" "Echelon.rest_modulo" (defArgs s_Echelon_rest_modulo) (defBody s_Echelon_rest_modulo) (defScope s_Echelon_rest_modulo) .none kV4 dc4 pm4 an4 cd4 ct4), sl4⟩) (e4 : PySem.W.codeIn K cd4 "Echelon.rest_modulo" = true) (k4 : PySem.W.keepIn K (.ref f4) = true)
    (pg : PySem.W.plainGet K C Str.empty = true) (hd : PySem.W.hasDictIn K C = true) (po : PySem.W.plainOver K C = true) (sa : PySem.W.findIn K (.ref C) "__setattr__" = some (some (.builtin "object.__setattr__"))) (mk : PySem.W.makesIn K C = true) (kc : PySem.W.keepIn K (.ref C) = true)
    (m1 : PySem.W.findIn K (.ref C) "field" = some none) (m2 : PySem.W.findIn K (.ref C) "rows" = some none) : EchAt K mg :=
  { C := C, g := PySem.W.mg_of X G aC, cls := ⟨pg, hd, po, sa⟩, fi := f1, fdi := _, Fi := fun_mk (st := s_Echelon___init__) l1 e1 k1, mkr := ⟨mk, a1, i1, kc⟩, fp := f2, fdp := _, Fp := fun_mk (st := s_Echelon_put) l2 e2 k2, m_put := ⟨a2, i2, k2⟩,
    fr := f3, fdr := _, Fr := fun_mk (st := s_Echelon_rest) l3 e3 k3, m_rest := ⟨a3, i3, k3⟩, fm := f4, fdm := _, Fm := fun_mk (st := s_Echelon_rest_modulo) l4 e4 k4, m_rest_modulo := ⟨a4, i4, k4⟩, n_field := m1, n_rows := m2 }
/-- as the end asks it: names, addresses -/
theorem fin {l : PySem.W.OpenLaw} {w : World} {K : PySem.W.Frag} {mg mb : Str → Option Value} {q : Program} {loose : List Str} {mean : ExcName → Option Value} {fa c1 p1 c2 p2 aP : Addr} {h : Heap} { d1 d2 : DefRec} { t_MOST_SETS t_MOST_MONO_VARIABLES t_WIDTH t_MASK t_LOT t_LOT_MASK : Tok}
    (TT : PyProof.Rows.Top q loose mean mg mb h) (X : K.In h) (G : h.Ns mainGlobals mg) (hfa : mg "law" = some (.ref fa))
    (r1 : (PyProof.Rows.recsOf q).find? (fun e => e.name == ("is_row_of_indexes" : Str)) = some d1) (r2 : (PyProof.Rows.recsOf q).find? (fun e => e.name == ("is_complex" : Str)) = some d2)
    (t1 : PySem.W.tabIn K "is_row_of_indexes" = some (c1, p1)) (t2 : PySem.W.tabIn K "is_complex" = some (c2, p2))
    (n1 : K.lookup p1 = none) (n2 : K.lookup p2 = none)
    (ne : ∀ x ∈ gensL ++ lamsL, ∀ y ∈ gensL ++ lamsL, x ≠ y → nmA [("is_row_of_indexes", p1), ("is_complex", p2)] x ≠ nmA [("is_row_of_indexes", p1), ("is_complex", p2)] y)
    (inverse_modulo : DefAt K mg "inverse_modulo" s_inverse_modulo)
    (is_integer : DefAt K mg "is_integer" s_is_integer)
    (is_integer_in : DefAt K mg "is_integer_in" s_is_integer_in)
    (is_tuple_up_to : DefAt K mg "is_tuple_up_to" s_is_tuple_up_to)
    (is_field : DefAt K mg "is_field" s_is_field)
    (is_row_of_indexes : DefAt K mg "is_row_of_indexes" s_is_row_of_indexes)
    (check_field : DefAt K mg "check_field" s_check_field)
    (check_integer_in : DefAt K mg "check_integer_in" s_check_integer_in)
    (check_many : DefAt K mg "check_many" s_check_many)
    (settled : DefAt K mg "settled" s_settled)
    (common_divisor : DefAt K mg "common_divisor" s_common_divisor)
    (slot_of : DefAt K mg "slot_of" s_slot_of)
    (bits_of : DefAt K mg "bits_of" s_bits_of)
    (row_of_bits : DefAt K mg "row_of_bits" s_row_of_bits)
    (cancelled : DefAt K mg "cancelled" s_cancelled)
    (rank : DefAt K mg "rank" s_rank)
    (check_sets : DefAt K mg "check_sets" s_check_sets)
    (check_complex : DefAt K mg "check_complex" s_check_complex)
    (is_complex : DefAt K mg "is_complex" s_is_complex)
    (mask_of : DefAt K mg "mask_of" s_mask_of)
    (set_of : DefAt K mg "set_of" s_set_of)
    (sets_of : DefAt K mg "sets_of" s_sets_of)
    (holds : DefAt K mg "holds" s_holds)
    (least : DefAt K mg "least" s_least)
    (greatest : DefAt K mg "greatest" s_greatest)
    (free_masks : DefAt K mg "free_masks" s_free_masks)
    (nonface_masks : DefAt K mg "nonface_masks" s_nonface_masks)
    (levels_of : DefAt K mg "levels_of" s_levels_of)
    (nonfaces : DefAt K mg "nonfaces" s_nonfaces)
    (border : DefAt K mg "border" s_border)
    (border_rank : DefAt K mg "border_rank" s_border_rank)
    (dimensions : DefAt K mg "dimensions" s_dimensions)
    (betti_triples : DefAt K mg "betti_triples" s_betti_triples)
    (square_betti : DefAt K mg "square_betti" s_square_betti)
    (law_taken : DefAt K mg "_law_taken" s_law_taken)
    (law_pick : DefAt K mg "_law_pick" s_law_pick)
    (law_comb : DefAt K mg "_law_comb" s_law_comb)
    (law_alike : DefAt K mg "_law_alike" s_law_alike)
    (law : DefAt K mg "law" s_law)
    (Cd : EchAt K mg)
    (z_len : PySem.W.nsIn K mainGlobals "len" = some none) (z_isinstance : PySem.W.nsIn K mainGlobals "isinstance" = some none) (z_int : PySem.W.nsIn K mainGlobals "int" = some none) (z_bool : PySem.W.nsIn K mainGlobals "bool" = some none) (z_str : PySem.W.nsIn K mainGlobals "str" = some none) (z_tuple : PySem.W.nsIn K mainGlobals "tuple" = some none) (z_list : PySem.W.nsIn K mainGlobals "list" = some none) (z_range : PySem.W.nsIn K mainGlobals "range" = some none) (z_zip : PySem.W.nsIn K mainGlobals "zip" = some none) (z_sum : PySem.W.nsIn K mainGlobals "sum" = some none) (z_max : PySem.W.nsIn K mainGlobals "max" = some none) (z_min : PySem.W.nsIn K mainGlobals "min" = some none) (z_all : PySem.W.nsIn K mainGlobals "all" = some none) (z_any : PySem.W.nsIn K mainGlobals "any" = some none) (z_sorted : PySem.W.nsIn K mainGlobals "sorted" = some none) (z_enumerate : PySem.W.nsIn K mainGlobals "enumerate" = some none) (z_divmod : PySem.W.nsIn K mainGlobals "divmod" = some none) (z_abs : PySem.W.nsIn K mainGlobals "abs" = some none)
    (y2 : PySem.W.nsIn K mainGlobals "PRIMES" = some (some (.ref aP))) (y3 : ∀ H, SqT K H aP ([2, 3, 5, 7, 11, 13, 17, 19, 23, 29, 31].map V.int))
    (g_MOST_SETS : mg "MOST_SETS" = some (.int 70 t_MOST_SETS)) (g_MOST_MONO_VARIABLES : mg "MOST_MONO_VARIABLES" = some (.int 8 t_MOST_MONO_VARIABLES)) (g_WIDTH : mg "WIDTH" = some (.int 32 t_WIDTH)) (g_MASK : mg "MASK" = some (.int MK32 t_MASK)) (g_LOT : mg "LOT" = some (.int 32 t_LOT)) (g_LOT_MASK : mg "LOT_MASK" = some (.int MK1024 t_LOT_MASK)) (yG : PySem.W.nsIn K mainGlobals "gcd" = some (some (.builtin "math.gcd"))) : LamX.LawAtS l w K CX0 22 63 "script" mg fa h :=
  law_at (c := nmA [("is_row_of_indexes", c1), ("is_complex", c2)]) (t := ⟨nmA [("is_row_of_indexes", p1), ("is_complex", p2)], ne⟩) TT X G hfa r1 r2 t1 t2 n1 n2
    { inverse_modulo := inverse_modulo, is_integer := is_integer, is_integer_in := is_integer_in, is_tuple_up_to := is_tuple_up_to, is_field := is_field, is_row_of_indexes := is_row_of_indexes, check_field := check_field, check_integer_in := check_integer_in, check_many := check_many, settled := settled, common_divisor := common_divisor, slot_of := slot_of, bits_of := bits_of, row_of_bits := row_of_bits, cancelled := cancelled, rank := rank, check_sets := check_sets, check_complex := check_complex, is_complex := is_complex, mask_of := mask_of, set_of := set_of, sets_of := sets_of, holds := holds, least := least, greatest := greatest, free_masks := free_masks, nonface_masks := nonface_masks, levels_of := levels_of, nonfaces := nonfaces, border := border, border_rank := border_rank, dimensions := dimensions, betti_triples := betti_triples, square_betti := square_betti, law_taken := law_taken, law_pick := law_pick, law_comb := law_comb, law_alike := law_alike, law := law, n_len := PySem.W.mg_none_of X G z_len, n_isinstance := PySem.W.mg_none_of X G z_isinstance, n_int := PySem.W.mg_none_of X G z_int, n_bool := PySem.W.mg_none_of X G z_bool, n_str := PySem.W.mg_none_of X G z_str, n_tuple := PySem.W.mg_none_of X G z_tuple, n_list := PySem.W.mg_none_of X G z_list, n_range := PySem.W.mg_none_of X G z_range, n_zip := PySem.W.mg_none_of X G z_zip, n_sum := PySem.W.mg_none_of X G z_sum, n_max := PySem.W.mg_none_of X G z_max, n_min := PySem.W.mg_none_of X G z_min, n_all := PySem.W.mg_none_of X G z_all, n_any := PySem.W.mg_none_of X G z_any, n_sorted := PySem.W.mg_none_of X G z_sorted, n_enumerate := PySem.W.mg_none_of X G z_enumerate, n_divmod := PySem.W.mg_none_of X G z_divmod, n_abs := PySem.W.mg_none_of X G z_abs, Echelon := Cd, aPRIMES := aP, g_PRIMES := PySem.W.mg_of X G y2, t_PRIMES := y3, t_MOST_SETS := t_MOST_SETS, g_MOST_SETS := g_MOST_SETS, t_MOST_MONO_VARIABLES := t_MOST_MONO_VARIABLES, g_MOST_MONO_VARIABLES := g_MOST_MONO_VARIABLES, t_WIDTH := t_WIDTH, g_WIDTH := g_WIDTH, t_MASK := t_MASK, g_MASK := g_MASK, t_LOT := t_LOT, g_LOT := g_LOT, t_LOT_MASK := t_LOT_MASK, g_LOT_MASK := g_LOT_MASK, g_gcd := PySem.W.mg_of X G yG }
end

end Toy
open PySem PySem.W PyProof.Rows
set_option maxRecDepth 100000 in
set_option maxHeartbeats 0 in
theorem PySem.Challenge.cw_idealcore_k69_known_betti_numbers_holds : PySem.Challenge.rw_idealcore_k69_known_betti_numbers.Holds := by
  w_on; o_law; k_head; (case hw => w_witness2)
  k_fill
  refine Toy.walk_top (l := PySem.Challenge.rw_idealcore_k69_known_betti_numbers) (n := 63) (k := 22) (x := "script") (CX := fun _ => L2.CX0) rfl (by decide) rfl ⟨rfl, by decide, by decide⟩ (fun w h Y => PySem.W.kIn_of Y) ?F (fun _ _ _ _ _ z => z)
  case F =>
    intro w s0 mg mb fa h GG KX G hmg
    obtain ⟨t_MASK, h_MASK⟩ := Toy.loose_int (x := "MASK") GG.X (by first | exact List.mem_cons_self | exact .tail _ List.mem_cons_self | exact .tail _ (.tail _ List.mem_cons_self) | exact .tail _ (.tail _ (.tail _ List.mem_cons_self)) | exact .tail _ (.tail _ (.tail _ (.tail _ List.mem_cons_self)))); obtain ⟨t_LOT_MASK, h_LOT_MASK⟩ := Toy.loose_int (x := "LOT_MASK") GG.X (by first | exact List.mem_cons_self | exact .tail _ List.mem_cons_self | exact .tail _ (.tail _ List.mem_cons_self) | exact .tail _ (.tail _ (.tail _ List.mem_cons_self)) | exact .tail _ (.tail _ (.tail _ (.tail _ List.mem_cons_self))))
    have h_MASK : mg "MASK" = some (.int Toy.MK32 t_MASK) := h_MASK.trans (congrArg (fun i => some (Value.int i t_MASK)) (by decide +kernel))
    have h_LOT_MASK : mg "LOT_MASK" = some (.int Toy.MK1024 t_LOT_MASK) := h_LOT_MASK.trans (congrArg (fun i => some (Value.int i t_LOT_MASK)) (by decide +kernel))
    refine' Toy.fin GG.T KX G hmg ?hr1 ?hr2 (Toy.tab_in ?ta1 ?tb1 ?tc1 ?td1 ?te1) (Toy.tab_in ?ta2 ?tb2 ?tc2 ?td2 ?te2) ?n1 ?n2 ?ne
      (Toy.defI KX G ?a_inverse_modulo ?l_inverse_modulo ?c_inverse_modulo ?k_inverse_modulo)
      (Toy.defI KX G ?a_is_integer ?l_is_integer ?c_is_integer ?k_is_integer)
      (Toy.defI KX G ?a_is_integer_in ?l_is_integer_in ?c_is_integer_in ?k_is_integer_in)
      (Toy.defI KX G ?a_is_tuple_up_to ?l_is_tuple_up_to ?c_is_tuple_up_to ?k_is_tuple_up_to)
      (Toy.defI KX G ?a_is_field ?l_is_field ?c_is_field ?k_is_field)
      (Toy.defI KX G ?a_is_row_of_indexes ?l_is_row_of_indexes ?c_is_row_of_indexes ?k_is_row_of_indexes)
      (Toy.defI KX G ?a_check_field ?l_check_field ?c_check_field ?k_check_field)
      (Toy.defI KX G ?a_check_integer_in ?l_check_integer_in ?c_check_integer_in ?k_check_integer_in)
      (Toy.defI KX G ?a_check_many ?l_check_many ?c_check_many ?k_check_many)
      (Toy.defI KX G ?a_settled ?l_settled ?c_settled ?k_settled)
      (Toy.defI KX G ?a_common_divisor ?l_common_divisor ?c_common_divisor ?k_common_divisor)
      (Toy.defI KX G ?a_slot_of ?l_slot_of ?c_slot_of ?k_slot_of)
      (Toy.defI KX G ?a_bits_of ?l_bits_of ?c_bits_of ?k_bits_of)
      (Toy.defI KX G ?a_row_of_bits ?l_row_of_bits ?c_row_of_bits ?k_row_of_bits)
      (Toy.defI KX G ?a_cancelled ?l_cancelled ?c_cancelled ?k_cancelled)
      (Toy.defI KX G ?a_rank ?l_rank ?c_rank ?k_rank)
      (Toy.defI KX G ?a_check_sets ?l_check_sets ?c_check_sets ?k_check_sets)
      (Toy.defI KX G ?a_check_complex ?l_check_complex ?c_check_complex ?k_check_complex)
      (Toy.defI KX G ?a_is_complex ?l_is_complex ?c_is_complex ?k_is_complex)
      (Toy.defI KX G ?a_mask_of ?l_mask_of ?c_mask_of ?k_mask_of)
      (Toy.defI KX G ?a_set_of ?l_set_of ?c_set_of ?k_set_of)
      (Toy.defI KX G ?a_sets_of ?l_sets_of ?c_sets_of ?k_sets_of)
      (Toy.defI KX G ?a_holds ?l_holds ?c_holds ?k_holds)
      (Toy.defI KX G ?a_least ?l_least ?c_least ?k_least)
      (Toy.defI KX G ?a_greatest ?l_greatest ?c_greatest ?k_greatest)
      (Toy.defI KX G ?a_free_masks ?l_free_masks ?c_free_masks ?k_free_masks)
      (Toy.defI KX G ?a_nonface_masks ?l_nonface_masks ?c_nonface_masks ?k_nonface_masks)
      (Toy.defI KX G ?a_levels_of ?l_levels_of ?c_levels_of ?k_levels_of)
      (Toy.defI KX G ?a_nonfaces ?l_nonfaces ?c_nonfaces ?k_nonfaces)
      (Toy.defI KX G ?a_border ?l_border ?c_border ?k_border)
      (Toy.defI KX G ?a_border_rank ?l_border_rank ?c_border_rank ?k_border_rank)
      (Toy.defI KX G ?a_dimensions ?l_dimensions ?c_dimensions ?k_dimensions)
      (Toy.defI KX G ?a_betti_triples ?l_betti_triples ?c_betti_triples ?k_betti_triples)
      (Toy.defI KX G ?a_square_betti ?l_square_betti ?c_square_betti ?k_square_betti)
      (Toy.defI KX G ?a_law_taken ?l_law_taken ?c_law_taken ?k_law_taken)
      (Toy.defI KX G ?a_law_pick ?l_law_pick ?c_law_pick ?k_law_pick)
      (Toy.defI KX G ?a_law_comb ?l_law_comb ?c_law_comb ?k_law_comb)
      (Toy.defI KX G ?a_law_alike ?l_law_alike ?c_law_alike ?k_law_alike)
      (Toy.defI KX G ?a_law ?l_law ?c_law ?k_law)
      (Toy.echI KX G ?aC ?b1 ?i1 ?l1 ?e1 ?k1 ?b2 ?i2 ?l2 ?e2 ?k2 ?b3 ?i3 ?l3 ?e3 ?k3 ?b4 ?i4 ?l4 ?e4 ?k4 ?pg ?hd ?po ?sa ?mk ?kc ?m1 ?m2)
      ?z_len ?z_isinstance ?z_int ?z_bool ?z_str ?z_tuple ?z_list ?z_range ?z_zip ?z_sum ?z_max ?z_min ?z_all ?z_any ?z_sorted ?z_enumerate ?z_divmod ?z_abs ?y2 ?y3 (PySem.W.mg_of KX G ?g_MOST_SETS) (PySem.W.mg_of KX G ?g_MOST_MONO_VARIABLES) (PySem.W.mg_of KX G ?g_WIDTH) h_MASK (PySem.W.mg_of KX G ?g_LOT) h_LOT_MASK ?yG
    (case z_len => k_is); (case z_isinstance => k_is); (case z_int => k_is); (case z_bool => k_is); (case z_str => k_is); (case z_tuple => k_is); (case z_list => k_is); (case z_range => k_is); (case z_zip => k_is); (case z_sum => k_is); (case z_max => k_is); (case z_min => k_is); (case z_all => k_is); (case z_any => k_is); (case z_sorted => k_is); (case z_enumerate => k_is); (case z_divmod => k_is); (case z_abs => k_is)
    (case a_inverse_modulo => k_is); (case l_inverse_modulo => k_is); (case c_inverse_modulo => k_is); (case k_inverse_modulo => k_is)
    (case a_is_integer => k_is); (case l_is_integer => k_is); (case c_is_integer => k_is); (case k_is_integer => k_is)
    (case a_is_integer_in => k_is); (case l_is_integer_in => k_is); (case c_is_integer_in => k_is); (case k_is_integer_in => k_is)
    (case a_is_tuple_up_to => k_is); (case l_is_tuple_up_to => k_is); (case c_is_tuple_up_to => k_is); (case k_is_tuple_up_to => k_is)
    (case a_is_field => k_is); (case l_is_field => k_is); (case c_is_field => k_is); (case k_is_field => k_is)
    (case a_is_row_of_indexes => k_is); (case l_is_row_of_indexes => k_is); (case c_is_row_of_indexes => k_is); (case k_is_row_of_indexes => k_is)
    (case a_check_field => k_is); (case l_check_field => k_is); (case c_check_field => k_is); (case k_check_field => k_is)
    (case a_check_integer_in => k_is); (case l_check_integer_in => k_is); (case c_check_integer_in => k_is); (case k_check_integer_in => k_is)
    (case a_check_many => k_is); (case l_check_many => k_is); (case c_check_many => k_is); (case k_check_many => k_is)
    (case a_settled => k_is); (case l_settled => k_is); (case c_settled => k_is); (case k_settled => k_is)
    (case a_common_divisor => k_is); (case l_common_divisor => k_is); (case c_common_divisor => k_is); (case k_common_divisor => k_is)
    (case a_slot_of => k_is); (case l_slot_of => k_is); (case c_slot_of => k_is); (case k_slot_of => k_is)
    (case a_bits_of => k_is); (case l_bits_of => k_is); (case c_bits_of => k_is); (case k_bits_of => k_is)
    (case a_row_of_bits => k_is); (case l_row_of_bits => k_is); (case c_row_of_bits => k_is); (case k_row_of_bits => k_is)
    (case a_cancelled => k_is); (case l_cancelled => k_is); (case c_cancelled => k_is); (case k_cancelled => k_is)
    (case a_rank => k_is); (case l_rank => k_is); (case c_rank => k_is); (case k_rank => k_is)
    (case a_check_sets => k_is); (case l_check_sets => k_is); (case c_check_sets => k_is); (case k_check_sets => k_is)
    (case a_check_complex => k_is); (case l_check_complex => k_is); (case c_check_complex => k_is); (case k_check_complex => k_is)
    (case a_is_complex => k_is); (case l_is_complex => k_is); (case c_is_complex => k_is); (case k_is_complex => k_is)
    (case a_mask_of => k_is); (case l_mask_of => k_is); (case c_mask_of => k_is); (case k_mask_of => k_is)
    (case a_set_of => k_is); (case l_set_of => k_is); (case c_set_of => k_is); (case k_set_of => k_is)
    (case a_sets_of => k_is); (case l_sets_of => k_is); (case c_sets_of => k_is); (case k_sets_of => k_is)
    (case a_holds => k_is); (case l_holds => k_is); (case c_holds => k_is); (case k_holds => k_is)
    (case a_least => k_is); (case l_least => k_is); (case c_least => k_is); (case k_least => k_is)
    (case a_greatest => k_is); (case l_greatest => k_is); (case c_greatest => k_is); (case k_greatest => k_is)
    (case a_free_masks => k_is); (case l_free_masks => k_is); (case c_free_masks => k_is); (case k_free_masks => k_is)
    (case a_nonface_masks => k_is); (case l_nonface_masks => k_is); (case c_nonface_masks => k_is); (case k_nonface_masks => k_is)
    (case a_levels_of => k_is); (case l_levels_of => k_is); (case c_levels_of => k_is); (case k_levels_of => k_is)
    (case a_nonfaces => k_is); (case l_nonfaces => k_is); (case c_nonfaces => k_is); (case k_nonfaces => k_is)
    (case a_border => k_is); (case l_border => k_is); (case c_border => k_is); (case k_border => k_is)
    (case a_border_rank => k_is); (case l_border_rank => k_is); (case c_border_rank => k_is); (case k_border_rank => k_is)
    (case a_dimensions => k_is); (case l_dimensions => k_is); (case c_dimensions => k_is); (case k_dimensions => k_is)
    (case a_betti_triples => k_is); (case l_betti_triples => k_is); (case c_betti_triples => k_is); (case k_betti_triples => k_is)
    (case a_square_betti => k_is); (case l_square_betti => k_is); (case c_square_betti => k_is); (case k_square_betti => k_is)
    (case a_law_taken => k_is); (case l_law_taken => k_is); (case c_law_taken => k_is); (case k_law_taken => k_is)
    (case a_law_pick => k_is); (case l_law_pick => k_is); (case c_law_pick => k_is); (case k_law_pick => k_is)
    (case a_law_comb => k_is); (case l_law_comb => k_is); (case c_law_comb => k_is); (case k_law_comb => k_is)
    (case a_law_alike => k_is); (case l_law_alike => k_is); (case c_law_alike => k_is); (case k_law_alike => k_is)
    (case a_law => k_is); (case l_law => k_is); (case c_law => k_is); (case k_law => k_is)
    (case hr1 => rfl); (case hr2 => rfl)
    (case ta1 => k_is); (case tb1 => k_is); (case tc1 => rfl); (case td1 => k_is); (case te1 => rfl); (case ta2 => k_is); (case tb2 => k_is); (case tc2 => rfl); (case td2 => k_is); (case te2 => rfl)
    (case n1 => kernel_rfl); (case n2 => kernel_rfl)
    (case ne => decide)
    (case aC => k_is); (case b1 => k_is); (case i1 => k_is); (case l1 => k_is); (case e1 => k_is); (case k1 => k_is); (case b2 => k_is); (case i2 => k_is); (case l2 => k_is); (case e2 => k_is); (case k2 => k_is); (case b3 => k_is); (case i3 => k_is); (case l3 => k_is); (case e3 => k_is); (case k3 => k_is); (case b4 => k_is); (case i4 => k_is); (case l4 => k_is); (case e4 => k_is); (case k4 => k_is)
    (case pg => k_is); (case hd => k_is); (case po => k_is); (case sa => k_is); (case mk => k_is); (case kc => k_is); (case m1 => k_is); (case m2 => k_is)
    (case y2 => k_is)
    (case y3 =>
      refine' Toy.tup_written ?l ?z ?v
      (case l => k_is)
      (case z => decide)
      (case v => exact (.cons ⟨_, rfl⟩ (.cons ⟨_, rfl⟩ (.cons ⟨_, rfl⟩ (.cons ⟨_, rfl⟩ (.cons ⟨_, rfl⟩ (.cons ⟨_, rfl⟩ (.cons ⟨_, rfl⟩ (.cons ⟨_, rfl⟩ (.cons ⟨_, rfl⟩ (.cons ⟨_, rfl⟩ (.cons ⟨_, rfl⟩ .nil)))))))))))))
    (case g_MOST_SETS => k_is); (case g_MOST_MONO_VARIABLES => k_is); (case g_WIDTH => k_is); (case g_LOT => k_is)
    (case yG => k_is)
#print axioms PySem.Challenge.cw_idealcore_k69_known_betti_numbers_holds
namespace Toy


end Toy
