import PyProof.Rows.All
import Wide.All
import OpenK.AllK
import Wide.FinOn
import HandS.ForMost
import HandS.ForExc
import HandS.IsInst
import HandS.Wide
import HandS.WideBits
import HandS.Nested
import HandS.Lambda
import HandS.LawCells
import HandS.EndTab
import HandS.EndOwn
import HandS.AnyAll
import HandS.Zip
import HandS.TupMul
import HandS.TupLe
import HandS.TupAny
import HandS.SortKw
import HandS.RevRange
import HandS.Walk
import HandS.Conv
import HandS.Defaults
import HandS.GenList
import KE.KTupSum
import KE.GoesZip
import KE.GoesMore
import KE.DataCmp
import KE.SortData
import KE.SortKeyHeap
import PyProof.GenCompD
import HandS.Style
import HandS.TupSets
import KE.GoesEnum
import KE.DataMinMax
import HandS.SetKeys
import HandS.DictTup
import PyProof.DictMoreH
import PySem.Challenge.RW_idealcore_k64_whole_primary_parts

set_option Elab.async false
set_option linter.all false
set_option maxRecDepth 100000
set_option maxHeartbeats 4000000
namespace Toy
open PySem L2
/-! ### the text by places -/
def topS (i : Nat) : Stmt := PySem.Challenge.pw_idealcore_k64_whole_primary_parts.main.body.getD i (.Pass ⟨0, 0, 0, 0⟩)
/-! ### what a def of the top is -/
structure DefAt (K : PySem.W.Frag) (mg : Str → Option Value) (x : Str) (st : Stmt) where
  f : Addr
  fd : FuncData
  F : Fun K x x st f fd
  g : mg x = some (.ref f)
noncomputable def defI {K : PySem.W.Frag} {h : Heap} {mg : Str → Option Value} (X : K.In h) (G : h.Ns mainGlobals mg) {x : Str} {st : Stmt} {f : Addr} {oc : Value} {od an : Option Addr} {osl : Array (Option Value)} {kV doc pm cdv ct : Value}
    (a : PySem.W.nsIn K mainGlobals x = some (some (.ref f))) (l : K.lookup f = some ⟨oc, od, .func (PySem.W.fnOf x x (defArgs st) (defBody st) (defScope st) .none kV doc pm an cdv ct), osl⟩)
    (c : PySem.W.codeIn K cdv x = true) (k : PySem.W.keepIn K (.ref f) = true) : DefAt K mg x st :=
  ⟨f, _, fun_mk (st := st) l c k, PySem.W.mg_of X G a⟩
/-! ### rules of my own -/
section
variable {X : Cx}
/-- // by any divisor but 0, below 2 ^ 9000 in size -/
def CDivZ (_ j : Int) : Prop := j ≠ 0 ∧ j.natAbs.log2 < 9000
theorem op_fdivZ : OpR X (binaryOp .FloorDiv) (rI CDivZ fun i j => .int (i.fdiv j)) := opI fun _ _ _ _ _ _ _ hc q =>
  PyProof.Rows.floordiv_int hc.1 q (.inl (PyProof.noPylong_of_log2 hc.2))
theorem cdivZ {i j : Int} {b : Nat} (h : j ≠ 0) (hb : j.natAbs < 2 ^ b) (h0 : 0 < b) (h9 : b ≤ 9000) : CDivZ i j := ⟨h, Nat.lt_of_lt_of_le (PySem.Flt.log2_lt_of h0 hb) h9⟩
/-- ** with a small exponent -/
def CPowW (i j : Int) : Prop := 0 ≤ j ∧ (Builtin.Int.intBits i : Int) * j ≤ 2 ^ 27
theorem op_powW : OpR X (binaryOp .Pow) (rI CPowW fun i j => .int (i ^ j.toNat)) := opI fun _ _ _ _ _ _ _ hc q =>
  PyProof.Rows.pow_int hc.1 hc.2 q
end
def rLenS (K : PySem.W.Frag) : List V → Hp → VK → Prop := fun xs H Q => ∃ p ys, xs = [.ref p] ∧ (SqL K H p ys ∨ SqT K H p ys) ∧ Q (.int ys.length) H
theorem bo_len : bootBuiltins "len" = some (.builtin "len") := by decide +kernel
theorem bo_isinstance : bootBuiltins "isinstance" = some (.builtin "isinstance") := by decide +kernel
theorem bo_abs : bootBuiltins "abs" = some (.builtin "abs") := by decide +kernel
theorem bo_int : bootBuiltins "int" = some (.type "int") := by decide +kernel
theorem bo_bool : bootBuiltins "bool" = some (.type "bool") := by decide +kernel
theorem bo_str : bootBuiltins "str" = some (.type "str") := by decide +kernel
theorem bo_tuple : bootBuiltins "tuple" = some (.type "tuple") := by decide +kernel
theorem bo_list : bootBuiltins "list" = some (.type "list") := by decide +kernel
/-! ### heaps -/
/-- all but what stands at r is as it was -/
def KeepBut (r : Addr) (H H' : Hp) : Prop := ∀ b o, b ≠ r → H b = some o → H' b = some o
theorem KeepBut.of {r : Addr} {H H' : Hp} (h : Same H H') : KeepBut r H H' := fun b o _ e => h b o e
theorem KeepBut.trans {r : Addr} {H H1 H2 : Hp} (a : KeepBut r H H1) (b : KeepBut r H1 H2) : KeepBut r H H2 := fun c o n e => b c o n (a c o n e)
theorem same_upd {H : Hp} {p : Addr} {o : HO} (h : H p = none) : Same H (upd H p o) := fun b u e => by
  rw [upd_ne (ne_of_none e h)]; exact e
theorem Same.upd' {H H' : Hp} {p : Addr} {o : HO} (s : Same H H') (h : H' p = none) : Same H (upd H' p o) := Same.trans s (same_upd h)
theorem Same.tup {K : PySem.W.Frag} {H H' : Hp} {a : Addr} {xs : List V} (e : Same H H') (h : SqT K H a xs) : SqT K H' a xs := by
  rcases h with (h | ⟨o, h⟩) | h
  · exact .inl (.inl (e _ _ h))
  · exact .inl (.inr ⟨o, e _ _ h⟩)
  · exact .inr h
/-- an own exception class over ValueError, without an __init__ of its own -/
structure ExcAt (K : PySem.W.Frag) (mg : Str → Option Value) (x : Str) where
  C : Addr
  g : mg x = some (.ref C)
  x : PySem.W.excIn K C [.type "ValueError", .type "Exception", .type "BaseException", .type "object"] "ValueError.__new__" = true
  k : PySem.W.keepIn K (.ref C) = true
  be : PySem.W.subIn K (.ref C) (.type "BaseException") = some true
  ty : PySem.W.typeIn K (.ref C) = some (.type "type")
  is : PySem.W.isClsIn K C = true
  se : PySem.W.subIn K (.ref C) (.ref C) = some true
def NBn : Nat := 10 ^ 200
def NBi : Int := 10 ^ 200
theorem nb_eq : NBi = (NBn : Int) := by decide +kernel

theorem bo_sum : bootBuiltins "sum" = some (.builtin "sum") := by decide +kernel
theorem bo_max : bootBuiltins "max" = some (.builtin "max") := by decide +kernel
theorem bo_min : bootBuiltins "min" = some (.builtin "min") := by decide +kernel
theorem bo_all : bootBuiltins "all" = some (.builtin "all") := by decide +kernel
theorem bo_any : bootBuiltins "any" = some (.builtin "any") := by decide +kernel
theorem bo_sorted : bootBuiltins "sorted" = some (.builtin "sorted") := by decide +kernel
theorem bo_set : bootBuiltins "set" = some (.type "set") := by decide +kernel
/-! ### the defs of the text: places, slots, scopes -/
def inClass (s : Stmt) (j : Nat) : Stmt := match s with
  | .ClassDef (body := b) .. => b.getD j (.Pass ⟨0, 0, 0, 0⟩)
  | _ => .Pass ⟨0, 0, 0, 0⟩
abbrev s_is_integer : Stmt := topS 8
abbrev N_is_integer : List Str := ["value"]
abbrev P_is_integer : List Str := ["value"]
theorem sc_is_integer : FnScope N_is_integer P_is_integer (defScope s_is_integer) := ⟨rfl, rfl, rfl, by decide +kernel, rfl, by decide +kernel, by decide +kernel⟩

abbrev s_is_integer_in : Stmt := topS 9
abbrev N_is_integer_in : List Str := ["value", "low", "high"]
abbrev P_is_integer_in : List Str := ["value", "low", "high"]
theorem sc_is_integer_in : FnScope N_is_integer_in P_is_integer_in (defScope s_is_integer_in) := ⟨rfl, rfl, rfl, by decide +kernel, rfl, by decide +kernel, by decide +kernel⟩

abbrev s_is_tuple_of : Stmt := topS 10
abbrev N_is_tuple_of : List Str := ["value", "many"]
abbrev P_is_tuple_of : List Str := ["value", "many"]
theorem sc_is_tuple_of : FnScope N_is_tuple_of P_is_tuple_of (defScope s_is_tuple_of) := ⟨rfl, rfl, rfl, by decide +kernel, rfl, by decide +kernel, by decide +kernel⟩

abbrev s_is_tuple_up_to : Stmt := topS 11
abbrev N_is_tuple_up_to : List Str := ["value", "most"]
abbrev P_is_tuple_up_to : List Str := ["value", "most"]
theorem sc_is_tuple_up_to : FnScope N_is_tuple_up_to P_is_tuple_up_to (defScope s_is_tuple_up_to) := ⟨rfl, rfl, rfl, by decide +kernel, rfl, by decide +kernel, by decide +kernel⟩

abbrev s_is_row_of_integers : Stmt := topS 12
abbrev N_is_row_of_integers : List Str := ["value", "many", "low", "high"]
abbrev P_is_row_of_integers : List Str := ["value", "many", "low", "high"]
theorem sc_is_row_of_integers : FnScope N_is_row_of_integers P_is_row_of_integers (defScope s_is_row_of_integers) := ⟨rfl, rfl, rfl, by decide +kernel, rfl, by decide +kernel, by decide +kernel⟩

abbrev s_is_mono : Stmt := topS 13
abbrev N_is_mono : List Str := ["many", "value"]
abbrev P_is_mono : List Str := ["many", "value"]
theorem sc_is_mono : FnScope N_is_mono P_is_mono (defScope s_is_mono) := ⟨rfl, rfl, rfl, by decide +kernel, rfl, by decide +kernel, by decide +kernel⟩

abbrev s_check_integer_in : Stmt := topS 14
abbrev N_check_integer_in : List Str := ["value", "low", "high"]
abbrev P_check_integer_in : List Str := ["value", "low", "high"]
theorem sc_check_integer_in : FnScope N_check_integer_in P_check_integer_in (defScope s_check_integer_in) := ⟨rfl, rfl, rfl, by decide +kernel, rfl, by decide +kernel, by decide +kernel⟩

abbrev s_check_many : Stmt := topS 15
abbrev N_check_many : List Str := ["value"]
abbrev P_check_many : List Str := ["value"]
theorem sc_check_many : FnScope N_check_many P_check_many (defScope s_check_many) := ⟨rfl, rfl, rfl, by decide +kernel, rfl, by decide +kernel, by decide +kernel⟩

abbrev s_check_monos : Stmt := topS 16
abbrev N_check_monos : List Str := ["many", "value", "index", "mono"]
abbrev P_check_monos : List Str := ["many", "value"]
theorem sc_check_monos : FnScope N_check_monos P_check_monos (defScope s_check_monos) := ⟨rfl, rfl, rfl, by decide +kernel, rfl, by decide +kernel, by decide +kernel⟩

abbrev s_reaches : Stmt := topS 19
abbrev N_reaches : List Str := ["mono", "corner"]
abbrev P_reaches : List Str := ["mono", "corner"]
theorem sc_reaches : FnScope N_reaches P_reaches (defScope s_reaches) := ⟨rfl, rfl, rfl, by decide +kernel, rfl, by decide +kernel, by decide +kernel⟩

abbrev s_corners_of : Stmt := topS 20
abbrev N_corners_of : List Str := ["many", "monos", "found", "index", "mono", "kept", "corner"]
abbrev P_corners_of : List Str := ["many", "monos"]
theorem sc_corners_of : FnScope N_corners_of P_corners_of (defScope s_corners_of) := ⟨rfl, rfl, rfl, by decide +kernel, rfl, by decide +kernel, by decide +kernel⟩

abbrev s_lowered_corners : Stmt := topS 21
abbrev N_lowered_corners : List Str := ["corner", "mono", "ahead", "bounded", "place", "bound", "guards", "other", "found", "exponent", "k", "row"]
abbrev P_lowered_corners : List Str := ["corner", "mono", "ahead"]
theorem sc_lowered_corners : FnScope N_lowered_corners P_lowered_corners (defScope s_lowered_corners) := ⟨rfl, rfl, rfl, by decide +kernel, rfl, by decide +kernel, by decide +kernel⟩

abbrev s_touches : Stmt := topS 22
abbrev N_touches : List Str := ["mono", "corner", "place", "k", "exponent"]
abbrev P_touches : List Str := ["mono", "corner", "place"]
theorem sc_touches : FnScope N_touches P_touches (defScope s_touches) := ⟨rfl, rfl, rfl, by decide +kernel, rfl, by decide +kernel, by decide +kernel⟩

abbrev s_meet_of_corners : Stmt := topS 23
abbrev N_meet_of_corners : List Str := ["many", "corners", "top", "corner", "bound", "turned", "found"]
abbrev P_meet_of_corners : List Str := ["many", "corners"]
theorem sc_meet_of_corners : FnScope N_meet_of_corners P_meet_of_corners (defScope s_meet_of_corners) := ⟨rfl, rfl, rfl, by decide +kernel, rfl, by decide +kernel, by decide +kernel⟩

abbrev s_divides : Stmt := topS 25
abbrev N_divides : List Str := ["one", "other"]
abbrev P_divides : List Str := ["one", "other"]
theorem sc_divides : FnScope N_divides P_divides (defScope s_divides) := ⟨rfl, rfl, rfl, by decide +kernel, rfl, by decide +kernel, by decide +kernel⟩

abbrev s_least_ones : Stmt := topS 26
abbrev N_least_ones : List Str := ["monomials", "kept", "monomial"]
abbrev P_least_ones : List Str := ["monomials"]
theorem sc_least_ones : FnScope N_least_ones P_least_ones (defScope s_least_ones) := ⟨rfl, rfl, rfl, by decide +kernel, rfl, by decide +kernel, by decide +kernel⟩

abbrev s_check_ideal : Stmt := topS 28
abbrev N_check_ideal : List Str := ["many", "monos"]
abbrev P_check_ideal : List Str := ["many", "monos"]
theorem sc_check_ideal : FnScope N_check_ideal P_check_ideal (defScope s_check_ideal) := ⟨rfl, rfl, rfl, by decide +kernel, rfl, by decide +kernel, by decide +kernel⟩

abbrev s_ascending_least : Stmt := topS 29
abbrev N_ascending_least : List Str := ["monos"]
abbrev P_ascending_least : List Str := ["monos"]
theorem sc_ascending_least : FnScope N_ascending_least P_ascending_least (defScope s_ascending_least) := ⟨rfl, rfl, rfl, by decide +kernel, rfl, by decide +kernel, by decide +kernel⟩

abbrev s_mono_meet : Stmt := topS 30
abbrev N_mono_meet : List Str := ["many", "one", "other", "a", "b", "m", "k"]
abbrev P_mono_meet : List Str := ["many", "one", "other"]
theorem sc_mono_meet : FnScope N_mono_meet P_mono_meet (defScope s_mono_meet) := ⟨rfl, rfl, rfl, by decide +kernel, rfl, by decide +kernel, by decide +kernel⟩

abbrev s_mono_radical : Stmt := topS 31
abbrev N_mono_radical : List Str := ["many", "monos", "exponent", "mono"]
abbrev P_mono_radical : List Str := ["many", "monos"]
theorem sc_mono_radical : FnScope N_mono_radical P_mono_radical (defScope s_mono_radical) := ⟨rfl, rfl, rfl, by decide +kernel, rfl, by decide +kernel, by decide +kernel⟩

abbrev s_support : Stmt := topS 32
abbrev N_support : List Str := ["corner", "place", "bound"]
abbrev P_support : List Str := ["corner"]
theorem sc_support : FnScope N_support P_support (defScope s_support) := ⟨rfl, rfl, rfl, by decide +kernel, rfl, by decide +kernel, by decide +kernel⟩

abbrev s_associated : Stmt := topS 33
abbrev N_associated : List Str := ["many", "monos", "corner"]
abbrev P_associated : List Str := ["many", "monos"]
theorem sc_associated : FnScope N_associated P_associated (defScope s_associated) := ⟨rfl, rfl, rfl, by decide +kernel, rfl, by decide +kernel, by decide +kernel⟩

abbrev s_primary_parts : Stmt := topS 34
abbrev N_primary_parts : List Str := ["many", "monos", "lots", "corner", "places"]
abbrev P_primary_parts : List Str := ["many", "monos"]
theorem sc_primary_parts : FnScope N_primary_parts P_primary_parts (defScope s_primary_parts) := ⟨rfl, rfl, rfl, by decide +kernel, rfl, by decide +kernel, by decide +kernel⟩

abbrev s_law_taken : Stmt := topS 36
abbrev N_law_taken : List Str := ["row", "many", "found", "cell"]
abbrev P_law_taken : List Str := ["row", "many"]
theorem sc_law_taken : FnScope N_law_taken P_law_taken (defScope s_law_taken) := ⟨rfl, rfl, rfl, by decide +kernel, rfl, by decide +kernel, by decide +kernel⟩

abbrev s_law_pick : Stmt := topS 37
abbrev N_law_pick : List Str := ["row", "things"]
abbrev P_law_pick : List Str := ["row", "things"]
theorem sc_law_pick : FnScope N_law_pick P_law_pick (defScope s_law_pick) := ⟨rfl, rfl, rfl, by decide +kernel, rfl, by decide +kernel, by decide +kernel⟩

abbrev s_law_monos_drawn : Stmt := topS 38
abbrev N_law_monos_drawn : List Str := ["row", "many", "most", "top", "found", "turn", "mono", "at", "other"]
abbrev P_law_monos_drawn : List Str := ["row", "many", "most", "top"]
theorem sc_law_monos_drawn : FnScope N_law_monos_drawn P_law_monos_drawn (defScope s_law_monos_drawn) := ⟨rfl, rfl, rfl, by decide +kernel, rfl, by decide +kernel, by decide +kernel⟩

abbrev s_law_box : Stmt := topS 39
abbrev N_law_box : List Str := ["many", "top", "found", "at", "longer", "mono", "e"]
abbrev P_law_box : List Str := ["many", "top"]
theorem sc_law_box : FnScope N_law_box P_law_box (defScope s_law_box) := ⟨rfl, rfl, rfl, by decide +kernel, rfl, by decide +kernel, by decide +kernel⟩

abbrev s_law_alike : Stmt := topS 40
abbrev N_law_alike : List Str := ["found", "due", "k"]
abbrev P_law_alike : List Str := ["found", "due"]
theorem sc_law_alike : FnScope N_law_alike P_law_alike (defScope s_law_alike) := ⟨rfl, rfl, rfl, by decide +kernel, rfl, by decide +kernel, by decide +kernel⟩

abbrev s_law_divides : Stmt := topS 41
abbrev N_law_divides : List Str := ["one", "other", "at"]
abbrev P_law_divides : List Str := ["one", "other"]
theorem sc_law_divides : FnScope N_law_divides P_law_divides (defScope s_law_divides) := ⟨rfl, rfl, rfl, by decide +kernel, rfl, by decide +kernel, by decide +kernel⟩

abbrev s_law_holds : Stmt := topS 42
abbrev N_law_holds : List Str := ["monos", "mono", "one"]
abbrev P_law_holds : List Str := ["monos", "mono"]
theorem sc_law_holds : FnScope N_law_holds P_law_holds (defScope s_law_holds) := ⟨rfl, rfl, rfl, by decide +kernel, rfl, by decide +kernel, by decide +kernel⟩

abbrev s_law_least : Stmt := topS 43
abbrev N_law_least : List Str := ["monos", "found", "least", "mono", "one"]
abbrev P_law_least : List Str := ["monos"]
theorem sc_law_least : FnScope N_law_least P_law_least (defScope s_law_least) := ⟨rfl, rfl, rfl, by decide +kernel, rfl, by decide +kernel, by decide +kernel⟩

abbrev s_law : Stmt := topS 44
abbrev N_law : List Str := ["script", "row", "many", "top", "monos", "box", "found", "places", "part", "mono", "is_in", "root", "at", "place", "turn", "one", "other", "both", "whole", "k"]
abbrev P_law : List Str := ["script"]
theorem sc_law : FnScope N_law P_law (defScope s_law) := ⟨rfl, rfl, rfl, by decide +kernel, rfl, by decide +kernel, by decide +kernel⟩

structure Txt (K : PySem.W.Frag) (mg : Str → Option Value) where
  is_integer : DefAt K mg "is_integer" s_is_integer
  is_integer_in : DefAt K mg "is_integer_in" s_is_integer_in
  is_tuple_of : DefAt K mg "is_tuple_of" s_is_tuple_of
  is_tuple_up_to : DefAt K mg "is_tuple_up_to" s_is_tuple_up_to
  is_row_of_integers : DefAt K mg "is_row_of_integers" s_is_row_of_integers
  is_mono : DefAt K mg "is_mono" s_is_mono
  check_integer_in : DefAt K mg "check_integer_in" s_check_integer_in
  check_many : DefAt K mg "check_many" s_check_many
  check_monos : DefAt K mg "check_monos" s_check_monos
  reaches : DefAt K mg "reaches" s_reaches
  corners_of : DefAt K mg "corners_of" s_corners_of
  lowered_corners : DefAt K mg "lowered_corners" s_lowered_corners
  touches : DefAt K mg "touches" s_touches
  meet_of_corners : DefAt K mg "meet_of_corners" s_meet_of_corners
  divides : DefAt K mg "divides" s_divides
  least_ones : DefAt K mg "least_ones" s_least_ones
  check_ideal : DefAt K mg "check_ideal" s_check_ideal
  ascending_least : DefAt K mg "ascending_least" s_ascending_least
  mono_meet : DefAt K mg "mono_meet" s_mono_meet
  mono_radical : DefAt K mg "mono_radical" s_mono_radical
  support : DefAt K mg "support" s_support
  associated : DefAt K mg "associated" s_associated
  primary_parts : DefAt K mg "primary_parts" s_primary_parts
  law_taken : DefAt K mg "_law_taken" s_law_taken
  law_pick : DefAt K mg "_law_pick" s_law_pick
  law_monos_drawn : DefAt K mg "_law_monos_drawn" s_law_monos_drawn
  law_box : DefAt K mg "_law_box" s_law_box
  law_alike : DefAt K mg "_law_alike" s_law_alike
  law_divides : DefAt K mg "_law_divides" s_law_divides
  law_holds : DefAt K mg "_law_holds" s_law_holds
  law_least : DefAt K mg "_law_least" s_law_least
  law : DefAt K mg "law" s_law
  t_MOST_MONOS : Tok
  g_MOST_MONOS : mg "MOST_MONOS" = some (.int 12 t_MOST_MONOS)
  t_MOST_MONO_VARIABLES : Tok
  g_MOST_MONO_VARIABLES : mg "MOST_MONO_VARIABLES" = some (.int 8 t_MOST_MONO_VARIABLES)
  t_MOST_MONO_EXPONENT : Tok
  g_MOST_MONO_EXPONENT : mg "MOST_MONO_EXPONENT" = some (.int 8 t_MOST_MONO_EXPONENT)
  t_FAR : Tok
  g_FAR : mg "FAR" = some (.int 1000 t_FAR)
  n_len : mg "len" = none
  n_isinstance : mg "isinstance" = none
  n_int : mg "int" = none
  n_bool : mg "bool" = none
  n_str : mg "str" = none
  n_tuple : mg "tuple" = none
  n_list : mg "list" = none
  n_range : mg "range" = none
  n_zip : mg "zip" = none
  n_sum : mg "sum" = none
  n_max : mg "max" = none
  n_min : mg "min" = none
  n_all : mg "all" = none
  n_any : mg "any" = none
  n_sorted : mg "sorted" = none
  n_enumerate : mg "enumerate" = none
  n_set : mg "set" = none
section
variable {P : Program} {w : World} {K : PySem.W.Frag} {mg : Str → Option Value} {base : Heap}
theorem b_is_integer (T : Txt K mg) : Binds K T.is_integer.fd P_is_integer [] := T.is_integer.F.binds fun _ _ _ _ _ _ us hl => match us, hl with | [_], _ => rfl
theorem b_is_integer_in (T : Txt K mg) : Binds K T.is_integer_in.fd P_is_integer_in [] := T.is_integer_in.F.binds fun _ _ _ _ _ _ us hl => match us, hl with | [_, _, _], _ => rfl
theorem b_is_tuple_of (T : Txt K mg) : Binds K T.is_tuple_of.fd P_is_tuple_of [] := T.is_tuple_of.F.binds fun _ _ _ _ _ _ us hl => match us, hl with | [_, _], _ => rfl
theorem b_is_tuple_up_to (T : Txt K mg) : Binds K T.is_tuple_up_to.fd P_is_tuple_up_to [] := T.is_tuple_up_to.F.binds fun _ _ _ _ _ _ us hl => match us, hl with | [_, _], _ => rfl
theorem b_is_row_of_integers (T : Txt K mg) : Binds K T.is_row_of_integers.fd P_is_row_of_integers [] := T.is_row_of_integers.F.binds fun _ _ _ _ _ _ us hl => match us, hl with | [_, _, _, _], _ => rfl
theorem b_is_mono (T : Txt K mg) : Binds K T.is_mono.fd P_is_mono [] := T.is_mono.F.binds fun _ _ _ _ _ _ us hl => match us, hl with | [_, _], _ => rfl
theorem b_check_integer_in (T : Txt K mg) : Binds K T.check_integer_in.fd P_check_integer_in [] := T.check_integer_in.F.binds fun _ _ _ _ _ _ us hl => match us, hl with | [_, _, _], _ => rfl
theorem b_check_many (T : Txt K mg) : Binds K T.check_many.fd P_check_many [] := T.check_many.F.binds fun _ _ _ _ _ _ us hl => match us, hl with | [_], _ => rfl
theorem b_check_monos (T : Txt K mg) : Binds K T.check_monos.fd P_check_monos [] := T.check_monos.F.binds fun _ _ _ _ _ _ us hl => match us, hl with | [_, _], _ => rfl
theorem b_reaches (T : Txt K mg) : Binds K T.reaches.fd P_reaches [] := T.reaches.F.binds fun _ _ _ _ _ _ us hl => match us, hl with | [_, _], _ => rfl
theorem b_corners_of (T : Txt K mg) : Binds K T.corners_of.fd P_corners_of [] := T.corners_of.F.binds fun _ _ _ _ _ _ us hl => match us, hl with | [_, _], _ => rfl
theorem b_lowered_corners (T : Txt K mg) : Binds K T.lowered_corners.fd P_lowered_corners [] := T.lowered_corners.F.binds fun _ _ _ _ _ _ us hl => match us, hl with | [_, _, _], _ => rfl
theorem b_touches (T : Txt K mg) : Binds K T.touches.fd P_touches [] := T.touches.F.binds fun _ _ _ _ _ _ us hl => match us, hl with | [_, _, _], _ => rfl
theorem b_meet_of_corners (T : Txt K mg) : Binds K T.meet_of_corners.fd P_meet_of_corners [] := T.meet_of_corners.F.binds fun _ _ _ _ _ _ us hl => match us, hl with | [_, _], _ => rfl
theorem b_divides (T : Txt K mg) : Binds K T.divides.fd P_divides [] := T.divides.F.binds fun _ _ _ _ _ _ us hl => match us, hl with | [_, _], _ => rfl
theorem b_least_ones (T : Txt K mg) : Binds K T.least_ones.fd P_least_ones [] := T.least_ones.F.binds fun _ _ _ _ _ _ us hl => match us, hl with | [_], _ => rfl
theorem b_check_ideal (T : Txt K mg) : Binds K T.check_ideal.fd P_check_ideal [] := T.check_ideal.F.binds fun _ _ _ _ _ _ us hl => match us, hl with | [_, _], _ => rfl
theorem b_ascending_least (T : Txt K mg) : Binds K T.ascending_least.fd P_ascending_least [] := T.ascending_least.F.binds fun _ _ _ _ _ _ us hl => match us, hl with | [_], _ => rfl
theorem b_mono_meet (T : Txt K mg) : Binds K T.mono_meet.fd P_mono_meet [] := T.mono_meet.F.binds fun _ _ _ _ _ _ us hl => match us, hl with | [_, _, _], _ => rfl
theorem b_mono_radical (T : Txt K mg) : Binds K T.mono_radical.fd P_mono_radical [] := T.mono_radical.F.binds fun _ _ _ _ _ _ us hl => match us, hl with | [_, _], _ => rfl
theorem b_support (T : Txt K mg) : Binds K T.support.fd P_support [] := T.support.F.binds fun _ _ _ _ _ _ us hl => match us, hl with | [_], _ => rfl
theorem b_associated (T : Txt K mg) : Binds K T.associated.fd P_associated [] := T.associated.F.binds fun _ _ _ _ _ _ us hl => match us, hl with | [_, _], _ => rfl
theorem b_primary_parts (T : Txt K mg) : Binds K T.primary_parts.fd P_primary_parts [] := T.primary_parts.F.binds fun _ _ _ _ _ _ us hl => match us, hl with | [_, _], _ => rfl
theorem b_law_taken (T : Txt K mg) : Binds K T.law_taken.fd P_law_taken [] := T.law_taken.F.binds fun _ _ _ _ _ _ us hl => match us, hl with | [_, _], _ => rfl
theorem b_law_pick (T : Txt K mg) : Binds K T.law_pick.fd P_law_pick [] := T.law_pick.F.binds fun _ _ _ _ _ _ us hl => match us, hl with | [_, _], _ => rfl
theorem b_law_monos_drawn (T : Txt K mg) : Binds K T.law_monos_drawn.fd P_law_monos_drawn [] := T.law_monos_drawn.F.binds fun _ _ _ _ _ _ us hl => match us, hl with | [_, _, _, _], _ => rfl
theorem b_law_box (T : Txt K mg) : Binds K T.law_box.fd P_law_box [] := T.law_box.F.binds fun _ _ _ _ _ _ us hl => match us, hl with | [_, _], _ => rfl
theorem b_law_alike (T : Txt K mg) : Binds K T.law_alike.fd P_law_alike [] := T.law_alike.F.binds fun _ _ _ _ _ _ us hl => match us, hl with | [_, _], _ => rfl
theorem b_law_divides (T : Txt K mg) : Binds K T.law_divides.fd P_law_divides [] := T.law_divides.F.binds fun _ _ _ _ _ _ us hl => match us, hl with | [_, _], _ => rfl
theorem b_law_holds (T : Txt K mg) : Binds K T.law_holds.fd P_law_holds [] := T.law_holds.F.binds fun _ _ _ _ _ _ us hl => match us, hl with | [_, _], _ => rfl
theorem b_law_least (T : Txt K mg) : Binds K T.law_least.fd P_law_least [] := T.law_least.F.binds fun _ _ _ _ _ _ us hl => match us, hl with | [_], _ => rfl
theorem b_law (T : Txt K mg) : Binds K T.law.fd P_law [] := T.law.F.binds fun _ _ _ _ _ _ us hl => match us, hl with | [_], _ => rfl
end

/-! ### plain readings: what leaves all that stands as it is, whoever called -/
abbrev Kp (h h' : Heap) : Prop := ∀ b o, h.get? b = some o → h'.get? b = some o
/-- what is known of the heap, and stays known as it grows -/
structure Stay (K : PySem.W.Frag) (mg : Str → Option Value) (Φ : Heap → Prop) : Prop where
  up : ∀ h h', Φ h → Kp h h' → Φ h'
  kin : ∀ h, Φ h → K.In h
  glob : ∀ h, Φ h → h.Ns mainGlobals mg
  blt : ∀ h, Φ h → ∃ mb, h.Ns builtinsNs mb ∧ ∀ x : Str, x ≠ "__name__" → mb x = bootBuiltins x
  lim : ∀ h, Φ h → h.NoLimit
theorem keeps0 (s : Shared) (k : Nat) : Keeps s { s with toks := k } := ⟨s.heap, k, rfl, fun _ _ e => e⟩
theorem keepsT {s s1 s2 : Shared} (a : Keeps s s1) (b : Keeps s1 s2) : Keeps s s2 := by
  obtain ⟨h1, k1, rfl, e1⟩ := a
  obtain ⟨h2, k2, rfl, e2⟩ := b
  exact ⟨h2, k2, rfl, fun x o e => e2 x o (e1 x o e)⟩
theorem keepsH {s s1 : Shared} (a : Keeps s s1) : Kp s.heap s1.heap := by
  obtain ⟨h1, k1, rfl, e1⟩ := a
  exact e1
/-- the places of a reading: the depth and the room below it -/
def PuE (P : Program) (w : World) (Φ : Heap → Prop) (cenv : Env) (m : Str → Option Value) (D U : Nat) (e : Expr) (R : Value → Prop) : Prop :=
  ∀ (A : Around) (E : Value → Shared → Prop) (s : Shared), A.handled = none → A.depth ≤ D → A.units ≤ U → Φ s.heap → s.heap.Ns cenv.locals m →
    wpAny (model P w) A (eval e cenv) (fun y s' => R y ∧ Keeps s s') E s
def PuF (P : Program) (w : World) (Φ : Heap → Prop) (D U : Nat) (f : Addr) (us : List Value) (R : Value → Prop) : Prop :=
  ∀ (A : Around) (s : Shared), A.handled = none → A.depth ≤ D → A.units ≤ U → Φ s.heap →
    codeAny (model P w) A (.call (.ref f) ⟨us, []⟩) (fun r s' => match r with | .ok (.ret y) => R y ∧ Keeps s s' | _ => False) s
/-- the same, however the arguments came -/
def PuG (P : Program) (w : World) (Φ : Heap → Prop) (D U : Nat) (f : Addr) (fd : FuncData) (ps : List Str) (us : List Value) (R : Value → Prop) : Prop :=
  ∀ (A : Around) (s : Shared) (args : Args), BindsTo s fd args (ps.zip us) → A.handled = none → A.depth ≤ D → A.units ≤ U → Φ s.heap →
    codeAny (model P w) A (.call (.ref f) args) (fun r s' => match r with | .ok (.ret y) => R y ∧ Keeps s s' | _ => False) s
structure PuEnv (cenv : Env) : Prop where
  kind : cenv.scope.kind = .function
  glob : cenv.globals = mainGlobals
  blt : cenv.builtins = builtinsNs
section
variable {P : Program} {w : World} {K : PySem.W.Frag} {mg : Str → Option Value} {Φ : Heap → Prop} {cenv : Env} {m : Str → Option Value} {D U : Nat}
theorem PuG.pos {f : Addr} {fd : FuncData} {ps : List Str} {us : List Value} {R : Value → Prop} (h : PuG P w Φ D U f fd ps us R) (S : Stay K mg Φ) (hb : Binds K fd ps []) (hl : us.length = ps.length) : PuF P w Φ D U f us R := fun A s a b c d => by
  have q := hb s us (S.kin _ d) (by rw [List.append_nil]; exact hl)
  rw [List.append_nil] at q
  exact h A s _ q a b c d
/-- a promise from a plain reading -/
theorem fnOk_pu {base : Heap} {CX : CXT} {k : Nat} {f : Addr} {fd : FuncData} {ps : List Str} {sp : Sp} (len : ∀ vs H Q E, sp vs H Q E → vs.length = ps.length)
    (h : ∀ (A : Around) (outer : List Env) (s : Shared) (H : Hp) (us : List Value) (vs : List V) (Q : VK) (E : XK), Room k A → Env0 P w K mg base A outer s H → Vals vs us → sp vs H Q E →
      ∃ (Φ : Heap → Prop) (R : Value → Prop), Φ s.heap ∧ PuG P w Φ A.depth A.units f fd ps us R ∧ ∀ y, R y → ∃ v, RelV v y ∧ Q v H) : FnOk P w K mg base CX k f fd ps sp := by
  refine ⟨len, fun A outer s H args us vs Q E hr he hb hv hs => ?_⟩
  obtain ⟨Φ, R, hφ, hg, hq⟩ := h A outer s H us vs Q E hr he hv hs
  refine codeAny_mono (hg A s args hb hr.hd (Nat.le_refl _) (Nat.le_refl _) hφ) fun r s' q => ?_
  cases r with
  | error e => exact False.elim q
  | ok fl =>
    cases fl with
    | ret u =>
      obtain ⟨q1, h2, tk2, e2, k2⟩ := q
      subst e2
      obtain ⟨v, rv, qv⟩ := hq u q1
      exact ⟨v, H, rfl, he.bare, Un.kept k2, he.hok.kept k2, rv, qv⟩
    | next => exact False.elim q
    | brk => exact False.elim q
    | cont => exact False.elim q
theorem PuE.imp {e : Expr} {R R' : Value → Prop} (h : PuE P w Φ cenv m D U e R) (g : ∀ y, R y → R' y) : PuE P w Φ cenv m D U e R' := fun A E s a b c d f =>
  wpAny_mono (h A E s a b c d f) (fun y s' q => ⟨g y q.1, q.2⟩) fun _ _ x => x
theorem pu_name {x : Str} {u : Value} {pos : Pos} (ev : PuEnv cenv) (hx : cenv.scope.names.lookup x = some .local) (hm : m x = some u) (hd : (x == ("__debug__" : Str)) = false := by decide) : PuE P w Φ cenv m D U (.Name x pos) (· = u) :=
  fun A E s _ _ _ _ hn => wpAny_Name (wpAny_loadName_local ev.kind (show cenv.scope.names.lookup x = some .local from hx) hn hm ⟨rfl, keeps0 s s.toks⟩) hd
theorem pu_glob {x : Str} {u : Value} {pos : Pos} (S : Stay K mg Φ) (ev : PuEnv cenv) (hx : cenv.kindOf x = some .globalImplicit) (hm : mg x = some u) (hd : (x == ("__debug__" : Str)) = false := by decide) : PuE P w Φ cenv m D U (.Name x pos) (· = u) :=
  fun A E s _ _ _ hf _ => Calls.Name_function_global ev.kind hx (Calls.loadGlobal_global (by rw [ev.glob]; exact S.glob _ hf) hm ⟨rfl, keeps0 s s.toks⟩) hd
theorem pu_int {i : Int} {j : Nat} {pos : Pos} : PuE P w Φ cenv m D U (.Constant (.int i) j pos) (fun y => ∃ t, y = .int i t) :=
  fun A E s _ _ _ _ _ => wpAny_Constant_int ⟨⟨_, rfl⟩, keeps0 s _⟩
/-- a and b, bools -/
theorem pu_and {a b : Expr} {pos : Pos} {x y : Bool} (S : Stay K mg Φ) (ha : PuE P w Φ cenv m D U a (· = .bool x)) (hb : x = true → PuE P w Φ cenv m D U b (· = .bool y)) : PuE P w Φ cenv m D U (.BoolOp .And [a, b] pos) (· = .bool (x && y)) := by
  intro A E s h1 h2 h3 hf hn
  refine PyProof.Rows.BoolOp_and (wpAny_mono (ha A E s h1 h2 h3 hf hn) (fun v s1 q => ?_) fun _ _ z => z)
  obtain ⟨rfl, k⟩ := q
  refine wpAny_truthy_bool ?_
  cases x with
  | false => exact ⟨rfl, k⟩
  | true => exact PyProof.Rows.BoolOp_one (wpAny_mono (hb rfl A E s1 h1 h2 h3 (S.up _ _ hf (keepsH k)) (hn.at' fun o e => keepsH k _ o e)) (fun v s2 q => ⟨q.1, keepsT k q.2⟩) fun _ _ z => z)
theorem pu_not {a : Expr} {pos : Pos} {x : Bool} (ha : PuE P w Φ cenv m D U a (· = .bool x)) : PuE P w Φ cenv m D U (.UnaryOp .Not a pos) (· = .bool (!x)) := by
  intro A E s h1 h2 h3 hf hn
  refine PyProof.Rows.UnaryOp_ (wpAny_mono (ha A E s h1 h2 h3 hf hn) (fun v s1 q => ?_) fun _ _ z => z)
  obtain ⟨rfl, k⟩ := q
  exact PyProof.Rows.not_of (wpAny_truthy_bool ⟨rfl, k⟩)
/-- a <= b <= c, ints -/
theorem pu_chain {a b c : Expr} {pos : Pos} {i j k : Int} (S : Stay K mg Φ) (ha : PuE P w Φ cenv m D U a (fun y => ∃ t, y = .int i t)) (hb : PuE P w Φ cenv m D U b (fun y => ∃ t, y = .int j t)) (hc : PuE P w Φ cenv m D U c (fun y => ∃ t, y = .int k t))
    (hm : lastMarks [.LtE, .LtE] [b, c] = false := by with_unfolding_all rfl) : PuE P w Φ cenv m D U (.Compare a [.LtE, .LtE] [b, c] pos) (· = .bool (decide (i ≤ j) && decide (j ≤ k))) := by
  intro A E s h1 h2 h3 hf hn
  refine PyProof.Rows.Compare_chain (wpAny_mono (ha A E s h1 h2 h3 hf hn) (fun v s1 q => ?_) fun _ _ z => z) hm
  obtain ⟨⟨t, rfl⟩, k1⟩ := q
  have hn1 : s1.heap.Ns cenv.locals m := hn.at' fun o e => keepsH k1 _ o e
  refine PyProof.Rows.chain_link (wpAny_mono (hb A E s1 h1 h2 h3 (S.up _ _ hf (keepsH k1)) hn1) (fun v s2 q => ?_) fun _ _ z => z)
  obtain ⟨⟨t2, rfl⟩, k2⟩ := q
  have hn2 : s2.heap.Ns cenv.locals m := hn1.at' fun o e => keepsH k2 _ o e
  refine PyProof.Rows.le_int (wpAny_truthy_bool ?_)
  by_cases z : i ≤ j
  · rw [decide_eq_true z]
    refine PyProof.Rows.ite_tt (PyProof.Rows.chain_last (wpAny_mono (hc A E s2 h1 h2 h3 (S.up _ _ hf (keepsH (keepsT k1 k2))) hn2) (fun v s3 q => ?_) fun _ _ z => z))
    obtain ⟨⟨t3, rfl⟩, k3⟩ := q
    exact PyProof.Rows.le_int ⟨by rw [Bool.true_and], keepsT k1 (keepsT k2 k3)⟩
  · rw [decide_eq_false z]
    exact PyProof.Rows.ite_ff ⟨by rw [Bool.false_and], keepsT k1 k2⟩
theorem pu_lt {a b : Expr} {pos : Pos} {i j : Int} (S : Stay K mg Φ) (ha : PuE P w Φ cenv m D U a (fun y => ∃ t, y = .int i t)) (hb : PuE P w Φ cenv m D U b (fun y => ∃ t, y = .int j t)) (hm : behindInMarks .Lt b = false) : PuE P w Φ cenv m D U (.Compare a [.Lt] [b] pos) (· = .bool (decide (i < j))) := by
  intro A E s h1 h2 h3 hf hn
  refine wpAny_Compare1 (wpAny_mono (ha A E s h1 h2 h3 hf hn) (fun v s1 q => ?_) fun _ _ z => z) hm
  obtain ⟨⟨t, rfl⟩, k1⟩ := q
  refine wpAny_mono (hb A E s1 h1 h2 h3 (S.up _ _ hf (keepsH k1)) (hn.at' fun o e => keepsH k1 _ o e)) (fun v s2 q => ?_) fun _ _ z => z
  obtain ⟨⟨t2, rfl⟩, k2⟩ := q
  exact PyProof.Rows.lt_int ⟨rfl, keepsT k1 k2⟩
/-- a value's kind, as isinstance asks -/
def Isi (K : PySem.W.Frag) (Φ : Heap → Prop) (u : Value) (T : String) (b : Bool) : Prop :=
  ∃ (t : Value) (H : Heap → Prop), PySem.W.KitX K u t H ∧ (∀ h, Φ h → H h) ∧ PySem.W.kitOne K t (.type T) = some b ∧ u ≠ .builtin "__main__.__loader__#opaque"
theorem pu_isi {e : Expr} {T : String} {T' : Str} {p q pos : Pos} {u : Value} {b : Bool} (S : Stay K mg Φ) (ev : PuEnv cenv) (hg : cenv.kindOf "isinstance" = some .globalImplicit) (hm : mg "isinstance" = none) (hT : cenv.kindOf T' = some .globalImplicit) (hmT : mg T' = none) (hv : bootBuiltins T' = some (.type T))
    (ha : PuE P w Φ cenv m D U e (· = u)) (hi : Isi K Φ u T b) (hn' : T' ≠ "__name__" := by decide) (hd : (T' == ("__debug__" : Str)) = false := by decide)
    (he : starEach [e, .Name T' q] cenv = (false, eval e cenv) :: starEach [.Name T' q] cenv := by rfl) (hpl : (backTo pos (starEach [.Name T' q] cenv)).any (·.1) = false := by rfl) :
    PuE P w Φ cenv m D U (.Call (.Name "isinstance" p) [e, .Name T' q] [] pos) (· = .bool b) := by
  intro A E s h1 h2 h3 hf hn
  obtain ⟨mb, b1, b2⟩ := S.blt _ hf
  refine wpAny_Call_Name_kw (Calls.Name_function_global ev.kind hg (Calls.loadGlobal_builtin (by rw [ev.glob]; exact S.glob _ hf) hm (by rw [ev.blt]; exact b1) ((b2 _ (by decide)).trans bo_isinstance) ?_))
  refine PyProof.Rows.callWith_builtin1 ?_ he hpl
  rw [he]
  show wpAny _ _ (spliced ((false, eval e cenv) :: backTo pos (starEach [.Name T' q] cenv))) _ _ s
  refine Calls.spliced_cons (wpAny_mono (ha A E s h1 h2 h3 hf hn) (fun v s1 r => ?_) fun _ _ z => z)
  obtain ⟨rfl, k1⟩ := r
  have hf1 := S.up _ _ hf (keepsH k1)
  obtain ⟨mb1, c1, c2⟩ := S.blt _ hf1
  refine Calls.spliced_cons (Calls.Name_function_global ev.kind hT (Calls.loadGlobal_builtin (by rw [ev.glob]; exact S.glob _ hf1) hmT (by rw [ev.blt]; exact c1) ((c2 _ hn').trans hv) ?_) hd)
  refine Calls.spliced_nil ?_
  obtain ⟨t, HH, Z, hp, ko, hx⟩ := hi
  exact PySem.W.kia_one Z (S.kin _ hf1) (hp _ hf1) ko hx fun tk => ⟨rfl, keepsT k1 (keeps0 s1 tk)⟩
def PuA (P : Program) (w : World) (Φ : Heap → Prop) (cenv : Env) (m : Str → Option Value) (D U : Nat) (es : List Expr) (R : List Value → Prop) : Prop :=
  ∀ (pos : Pos) (A : Around) (E : Value → Shared → Prop) (s : Shared), A.handled = none → A.depth ≤ D → A.units ≤ U → Φ s.heap → s.heap.Ns cenv.locals m →
    wpAny (model P w) A (spliced (backTo pos (starEach es cenv))) (fun us s' => R us ∧ Keeps s s') E s
theorem pua_nil : PuA P w Φ cenv m D U [] (· = []) := fun _ A E s _ _ _ _ _ => Calls.spliced_nil ⟨rfl, keeps0 s s.toks⟩
theorem pua_cons {e : Expr} {es : List Expr} {R : Value → Prop} {Rs : List Value → Prop} (S : Stay K mg Φ) (ha : PuE P w Φ cenv m D U e R) (hr : PuA P w Φ cenv m D U es Rs) (hs : starEach (e :: es) cenv = (false, eval e cenv) :: starEach es cenv := by rfl) :
    PuA P w Φ cenv m D U (e :: es) (fun us => ∃ u vs, us = u :: vs ∧ R u ∧ Rs vs) := by
  intro pos A E s h1 h2 h3 hf hn
  rw [hs]
  show wpAny _ _ (spliced ((false, eval e cenv) :: backTo pos (starEach es cenv))) _ _ s
  refine Calls.spliced_cons (wpAny_mono (ha A E s h1 h2 h3 hf hn) (fun v s1 r => ?_) fun _ _ z => z)
  refine wpAny_mono (hr pos A E s1 h1 h2 h3 (S.up _ _ hf (keepsH r.2)) (hn.at' fun o e => keepsH r.2 _ o e)) (fun vs s2 q => ?_) fun _ _ z => z
  exact ⟨⟨v, vs, rfl, r.1, q.1⟩, keepsT r.2 q.2⟩
theorem pu_call {x : Str} {f : Addr} {e : Expr} {es : List Expr} {p pos : Pos} {R : Value → Prop} {Rs : List Value → Prop} (S : Stay K mg Φ) (ev : PuEnv cenv) (hg : cenv.kindOf x = some .globalImplicit) (hm : mg x = some (.ref f)) (hk : PySem.W.keepIn K (.ref f) = true)
    (ha : PuA P w Φ cenv m D U (e :: es) Rs) (hf : ∀ us, Rs us → PuF P w Φ D U f us R) (hd : (x == ("__debug__" : Str)) = false := by decide) (he : starEach (e :: es) cenv = (false, eval e cenv) :: starEach es cenv := by rfl)
    (hpl : (backTo pos (starEach es cenv)).any (·.1) = false := by rfl) : PuE P w Φ cenv m D U (.Call (.Name x p) (e :: es) [] pos) R := by
  intro A E s h1 h2 h3 hφ hn
  refine wpAny_Call_Name_kw (Calls.Name_function_global ev.kind hg (Calls.loadGlobal_global (by rw [ev.glob]; exact S.glob _ hφ) hm ?_) hd)
  refine PySem.W.callWith_K (h₀ := s.heap) (S.kin _ hφ) hk (wpAny_mono (ha pos A E s h1 h2 h3 hφ hn) (fun us s1 r => ?_) fun _ _ z => z) he hpl
  have hφ1 := S.up _ _ hφ (keepsH r.2)
  refine ⟨S.kin _ hφ1, wpAny_call (codeAny_mono (hf us r.1 A s1 h1 h2 h3 hφ1) fun rr s2 q => ?_)⟩
  cases rr with
  | error e => exact False.elim q
  | ok fl =>
    cases fl with
    | ret u => exact ⟨q.1, keepsT r.2 q.2⟩
    | next => exact False.elim q
    | brk => exact False.elim q
    | cont => exact False.elim q
/-- a def whose body is one return -/
theorem pf_of {x qual : Str} {st : Stmt} {f : Addr} {fd : FuncData} {N ps : List Str} {e : Expr} {rp : Pos} {us : List Value} {R : Value → Prop} (F : Fun K x qual st f fd) (S : FnScope N ps (defScope st)) (Sx : Stay K mg Φ)
    (hl : us.length = ps.length) (hbody : defBody st = [.Return (some e) rp]) (hD : D < recursionLimit)
    (he : ∀ cenv : Env, PuEnv cenv → cenv.scope = defScope st → PuE P w Φ cenv (bindL cenv.kindOf (ps.zip us) fun _ => none) (D + 1) (U + 3) e R) : PuG P w Φ D U f fd ps us R := by
  intro A s args hbb h1 h2 h3 hφ
  obtain ⟨oc, od, kV, doc, pm, an, cdv, ct, osl, rfl, lk, hcd⟩ := F.ex
  have KX : K.In s.heap := Sx.kin _ hφ
  have lim : s.heap.NoLimit := Sx.lim _ hφ
  have hkind : ∀ y ∈ ps.zip us, (defScope st).names.lookup y.1 = some .local ∨ ((defScope st).names.lookup y.1 = some .cell ∧ ((cellsFrom (s.heap.objs.size + 1) (defScope st).names []).lookup y.1).isSome = true) := fun ⟨n, v⟩ hy => by
    rcases S.par n (List.of_mem_zip hy).1 with q | q
    · exact .inl q
    · exact .inr ⟨q, PySem.W.cellsFrom_some _ _ _ (.inl q)⟩
  refine codeAny_call_function (Nat.lt_of_le_of_lt h2 hD) (KX _ _ lk) rfl S.co S.gen rfl (PySem.W.codeRec_of KX hcd) (hbb _ _ _ _ ?_)
  refine wpAny_newFunctionEnv_cells S.kind hkind fun env hen s1 ic => ?_
  subst hen
  refine ⟨lim.keeps ic.toInCall.keep, codeAny_func ?_⟩
  obtain ⟨h1', tk, rfl, hkp⟩ := ic.done
  show wpAny _ _ (execs (defBody st) _) _ _ _
  rw [hbody]
  refine wpAny_execs_cons (wpAny_Return_some (wpAny_mono (he _ ⟨S.kind, rfl, rfl⟩ rfl _ _ _ h1 (by show A.depth + 1 ≤ D + 1; omega) (by show A.units + 3 ≤ U + 3; omega) (Sx.up _ _ hφ hkp) ic.toInCall.ns) (fun y s2 q => ?_) fun _ _ z => z))
  exact ⟨q.1, keepsT ⟨h1', tk, rfl, hkp⟩ q.2⟩
end

/-! ### all(..), any(..) of a generator expression over a tuple: the element a plain reading -/
/-- the element's reading, item by item -/
def EltT (X : Cx) (T : Addr) (sc : Scope) (x : Str) (el : Expr) (xs : List V) (pb : Nat → Bool) (H1 : Hp) : Prop :=
  ∀ (Φ : Heap → Prop) (pins : List (Addr × Obj)) (σ : L2.St) (t1 : Shared) (cenv : Env) (m : Str → Option Value) (i : Nat) (v : V) (u : Value), Stay X.K X.mg Φ → Inv X pins σ H1 t1 →
    (∀ h, Φ h → ∀ b o, b ≠ T → t1.heap.get? b = some o → h.get? b = some o) → PuEnv cenv → cenv.scope = sc → cenv.cells = cloFrom X.env.cells sc.names [] → xs[i]? = some v → RelV v u → m x = some u →
    PuE X.prog X.w Φ cenv m (X.A.depth + 1) (X.A.units + 8) el (· = .bool (pb i))
/-- the generator g, ready for a walk of n bools -/
def Rdy (X : Cx) (pins : List (Addr × Obj)) (σ : L2.St) (H1 : Hp) (T : Addr) (n : Nat) (pb : Nat → Bool) (g : Addr) (t5 : Shared) : Prop :=
  ∃ (fp wr : List Addr) (G : Array GenState → Array GenState → Prop) (F : Nat → Value → Prop) (St : Nat → Shared → Prop),
    WalksS X.prog X.w X.A.in1 g fp wr G n F St ∧ St 0 t5 ∧ TruthOf X.prog X.w X.A.in1 F pb ∧ ∀ t', Moved wr G t5 t' → ∃ H2, GxR.Tabbed T H1 H2 ∧ Inv X pins σ H2 t'
section
variable {X : Cx} {pins : List (Addr × Obj)} {σ : L2.St} {H : Hp} {s : Shared}
/-- the ground of an element: all that stood but the table -/
theorem stay_but {K : PySem.W.Frag} {mg : Str → Option Value} {base : Heap} {T : Addr} {h1 : Heap} (M : Mod K mg base) (hb : ∀ b o, base.get? b = some o → h1.get? b = some o ∧ b ≠ T) :
    Stay K mg fun h => ∀ b o, b ≠ T → h1.get? b = some o → h.get? b = some o := by
  have up : ∀ h : Heap, (∀ b o, b ≠ T → h1.get? b = some o → h.get? b = some o) → ∀ b o, base.get? b = some o → h.get? b = some o := fun h q b o e => q b o (hb b o e).2 (hb b o e).1
  refine ⟨fun h h' q k b o n e => k b o (q b o n e), fun h q => M.kin.keeps (up h q), fun h q => M.glob.keeps (up h q), fun h q => ?_, fun h q => M.nolimit.keeps (up h q)⟩
  obtain ⟨mb, e1, e2⟩ := M.blt
  exact ⟨mb, e1.keeps (up h q), e2⟩
theorem gen_tup {c T : Addr} {elt iter : Expr} {x : Str} {px gpos : Pos} {scope : Scope} {te : TE} {k : Nat} {Q' : Value → Shared → Prop} {R : Nat → (Nat → Bool) → Hp → Prop}
    (hr : Room k X.A) (TB : GxR.TabB X.base X.mg c T) (hcode : X.env.code = .ref c) (S : GxR.GenS X.env scope x) (hi : PE X iter te) (hs : ∀ v, genFold iter X.env v = pure v) (I : Inv X pins σ H s)
    (h : te σ H fun v H1 => ∃ (a : Addr) (xs : List V) (pb : Nat → Bool), v = .ref a ∧ SqT X.K H1 a xs ∧ GxR.TabG H1 T ∧ EltT X T scope x elt xs pb H1 ∧ R xs.length pb H1)
    (hQ' : ∀ n pb H1 g t5, R n pb H1 → Rdy X pins σ H1 T n pb g t5 → Q' (.ref g) t5) :
    wpAny (model X.prog X.w) X.A (eval (.GeneratorExp elt [⟨.Name x px, iter, [], 0⟩] scope gpos) X.env) Q' X.xe s := by
  refine wpAny_GeneratorExp_walksQD hr.hd S.co (closure_ok S.free) S.cell S.dot S.loc S.kind (by have := hr.dp; omega) ?_ hs
  refine thn (hi.run pins s σ H _ I h) fun xv t1 ⟨v, H1, I1, r1, a, xs, pb, ev, hsq, ⟨ps, hT, htri⟩, hel, hQ⟩ => ?_
  subst ev
  cases r1
  obtain ⟨its, rv, htup, hz⟩ := I1.tuple hsq
  have htup' : t1.heap.IsTuple a its.toArray := htup
  have tT : t1.heap.get? T = some { cls := .none, data := .fields ps } := I1.hok T _ hT
  have lT : T < t1.heap.objs.size := Heap.lt_size tT
  have la : a < t1.heap.objs.size := by obtain ⟨o, e, _⟩ := htup; exact Heap.lt_size e
  have naT : a ≠ T := fun e => by
    obtain ⟨o, e1, e2, _⟩ := htup
    rw [e, tT] at e1
    cases e1
    cases e2
  refine wpAny_pyIter_tuple htup' ?_
  obtain ⟨o9, ho9⟩ : ∃ o9 : Obj, o9 = { cls := .type "tuple_iterator", data := .fields #[.ref a, .int 0 0] } := ⟨_, rfl⟩
  rw [← ho9]
  have tT2 : (t1.heap.push o9).get? T = some { cls := .none, data := .fields ps } := Heap.get?_push_of_some _ tT
  have cd : PySem.W.CodeHd (t1.heap.push o9) c T := TB.code.keeps fun b u e => Heap.get?_push_of_some _ (I1.bk b u e)
  have lim2 : (t1.heap.push o9).NoLimit := I1.nolimit.push o9
  have sz2 : (t1.heap.push o9).objs.size = t1.heap.objs.size + 1 := Heap.size_push ..
  have hbT : ∀ b u, X.base.get? b = some u → t1.heap.get? b = some u ∧ b ≠ T := fun b u e => ⟨I1.bk b u e, fun z => by
    have q := (I1.bs b u e).2
    rw [z, hT] at q
    cases q⟩
  have run : ∀ (code : Value) (h3 : Heap) (tk : Nat) (ps' : Array Value), Heap.ExtBut T (t1.heap.push o9) h3 → (t1.heap.push o9).objs.size ≤ h3.objs.size → h3.get? T = some { cls := .none, data := .fields ps' } → (∃ more, ps' = ps ++ more) → TriplesOk ps'.toList →
      wpAny (model X.prog X.w) X.A (builtinsFor X.env.globals X.env.builtins) (fun bi t4 =>
        ∃ Ia fp wr n₀ Pf St₀ pz F, Value.ref t1.heap.objs.size = .ref Ia ∧ (∀ A' : Around, A'.handled = none → Walks X.prog X.w A' Ia fp wr n₀ Pf St₀) ∧ St₀ 0 t4.heap ∧ (∀ b ∈ fp, b < t4.heap.objs.size) ∧ t4.heap.NoLimit ∧ cStatics ∉ wr ∧
          (∀ href : Heap, (∀ b o, t4.heap.get? b = some o → href.get? b = some o) →
            QuietGenD X.prog X.w (genEnv scope (cloFrom X.env.cells scope.names []) t4.heap.objs.size code bi X.env) x [] elt (List.range t4.heap.objs.size) wr Pf pz F href (X.A.depth + 1) (X.A.units + 8)) ∧
          (∀ g0 h₅ tk gs, gs.bare = true → t4.heap.objs.size < g0 → h₅.objs.size = g0 + 1 → (∀ b o, t4.heap.get? b = some o → h₅.get? b = some o) →
            WalksS X.prog X.w X.A.in4 g0 (g0 :: t4.heap.objs.size :: List.range t4.heap.objs.size) (t4.heap.objs.size :: wr) (GenOnlyQ t4.gens.size) (passing pz n₀ 0).length
              (fun j y => ∃ i, (passing pz n₀ 0)[j]? = some i ∧ F i y) (GenAt X.prog X.w X.A.in4 g0 t4.gens.size t4.heap.objs.size (List.range t4.heap.objs.size) wr pz n₀ F) →
            GenAt X.prog X.w X.A.in4 g0 t4.gens.size t4.heap.objs.size (List.range t4.heap.objs.size) wr pz n₀ F 0 { t4 with gens := t4.gens.push gs, toks := tk, heap := h₅ } →
            Q' (.ref g0) { t4 with gens := t4.gens.push gs, toks := tk, heap := h₅ })) X.xe { t1 with heap := h3, toks := tk } := by
    intro code h3 tk ps' hx hsz hT3 hmore ht3
    obtain ⟨bm, ob, e1, e2, e3, e4, e5, e6, e7, e8⟩ := TB.bm
    have hcT : cStatics ≠ T := fun e => by
      obtain ⟨_, ⟨o', es, ep, ho, hd, _⟩, _⟩ := I1.nolimit
      rw [e, tT] at ho
      cases ho
      cases hd
    have hcl : cStatics < t1.heap.objs.size := let ⟨_, hns, _⟩ := I1.nolimit; hns.lt
    have up3 : ∀ b u, b ≠ T → t1.heap.get? b = some u → h3.get? b = some u := fun b u hb e => hx b u hb (Heap.get?_push_of_some _ e)
    have hsz' : t1.heap.objs.size + 1 ≤ h3.objs.size := by rw [← sz2]; exact hsz
    refine wpAny_builtinsFor (m := X.mg) (by rw [I1.ok.glob]; exact ((I1.mod.glob.keeps I1.bk).push o9).extBut hx TB.gP) e1 e2 (up3 _ _ e4 (I1.bk _ _ e5)) e6 e7 e8 ?_
    refine ⟨t1.heap.objs.size, [t1.heap.objs.size, a], [t1.heap.objs.size], its.toArray.size, (fun i v => its.toArray[i]? = some v), (fun i h => h.IsTupleIter t1.heap.objs.size a i ∧ h.IsTuple a its.toArray), (fun _ => true), (fun i y => y = .bool (pb i)), rfl,
      (fun A' hA => Walks.tuple hA _ _ (Nat.ne_of_lt la) _), ⟨⟨o9, ?_, by rw [ho9], by rw [ho9]; rfl⟩, ?_⟩, ?_, lim2.extBut hx hcT, ?_, ?_, ?_⟩
    · exact hx _ _ (Nat.ne_of_gt lT) (Heap.get?_push_size _ (by rw [ho9]; rfl))
    · obtain ⟨o, q1, q2, q3⟩ := htup
      exact ⟨o, up3 a o naT q1, q2, q3⟩
    · intro b hb
      have hb' : b = t1.heap.objs.size ∨ b = a := by simpa using hb
      show b < h3.objs.size
      rcases hb' with z | z
      · rw [z]; exact Nat.lt_of_lt_of_le (Nat.lt_succ_self _) hsz'
      · rw [z]; exact Nat.lt_of_lt_of_le (Nat.lt_succ_of_lt la) hsz'
    · intro z
      have z' : cStatics = t1.heap.objs.size := by simpa using z
      exact Nat.ne_of_lt hcl z'
    · intro href hhref
      have St3 := stay_but (T := T) (h1 := t1.heap) I1.mod hbT
      refine ⟨fun A' E' i v s₂ m₂ _ _ _ hPv hn hm hk => ?_, fun A' E' i v s₂ m₂ hA hD hU hPv hp hn hm hk => ?_⟩
      · simp only [List.forIn_nil]
        exact wpAny_pure ⟨rfl, keeps0 s₂ s₂.toks⟩
      · have hv : its[i]? = some v := by simpa using hPv
        have hi' : i < xs.length := by rw [rv.length]; exact (List.getElem?_eq_some_iff.mp hv).1
        obtain ⟨u, hu, ru⟩ := rv.get (List.getElem?_eq_getElem hi')
        rw [hv] at hu
        cases hu
        refine hel _ pins σ t1 (genEnv scope (cloFrom X.env.cells scope.names []) h3.objs.size code builtinsNs X.env) m₂ i _ v St3 I1 (fun h q => q) ⟨S.kind, I1.ok.glob, rfl⟩ rfl rfl (List.getElem?_eq_getElem hi') ru hm A' E' s₂ hA hD hU ?_ hn
        intro b u hb e
        have e3' := up3 b u hb e
        refine hk b (List.mem_range.mpr (Heap.lt_size e3')) (fun z => ?_) u (hhref b u e3')
        have z' : b = t1.heap.objs.size := by simpa using z
        have hlt := Heap.lt_size e
        rw [z'] at hlt
        exact Nat.lt_irrefl _ hlt
    · intro g h5 tk5 gs hgb hag hsz5 hk5 W5 hat
      simp only [GxR.passing_true, List.length_range] at W5
      have hlen : its.toArray.size = xs.length := by rw [List.size_toArray]; exact rv.length.symm
      rw [hlen] at W5 hat
      refine hQ' xs.length pb H1 g _ hQ ⟨_, _, _, _, _, W5.in4_1, hat, ?_, fun s' hm => ?_⟩
      · intro j y sj Qj Ej hy hQj
        obtain ⟨i, hij, rfl⟩ := hy
        obtain ⟨hj, ej⟩ := List.getElem?_eq_some_iff.mp hij
        rw [List.getElem_range] at ej
        subst ej
        exact wpAny_truthy_bool hQj
      · obtain ⟨more, em⟩ := hmore
        have nwr : ∀ b u, t1.heap.get? b = some u → b ∉ h3.objs.size :: [t1.heap.objs.size] := fun b u e hb => by
          have hl := Heap.lt_size e
          have hb' : b = h3.objs.size ∨ b = t1.heap.objs.size := by simpa using hb
          rcases hb' with z | z
          · rw [z] at hl; exact Nat.lt_irrefl _ (Nat.lt_of_lt_of_le hl (Nat.le_of_succ_le hsz'))
          · rw [z] at hl; exact Nat.lt_irrefl _ hl
        have J := GxR.inv_tab (more := more) (h' := s'.heap) (g' := s'.gens) (d' := s'.drawn) (t' := s'.toks) I1 hT (fun b u hb e => hm.heap b u (nwr b u e) (hk5 b u (up3 b u hb e)))
          (by rw [← em]; exact hm.heap T _ (nwr T _ tT) (hk5 T _ hT3)) (PyProof.Rows.AllBare.movedS (I1.bare.push hgb) hm)
        rw [GxR.sh_eta t1 s' hm.os] at J
        exact ⟨upd H1 T (.tbl (ps ++ more)), ⟨⟨ps ++ more, upd_same, by rw [← em]; exact ht3⟩, fun b hb => upd_ne hb⟩, J⟩
  refine ⟨lim2, ?_⟩
  cases hf : codeAmong gpos ps.toList with
  | none =>
    refine wpAny_genexprCodeX hcode (cd.code tT2 htri) (cd.tab tT2) hf fun c' h' tk hx hge hlt hco' _ htab' _ => ?_
    obtain ⟨_, _, _, _, _, _, _, _, _, _, _, _, _, _, _, _, _, _, _, htr, _⟩ := hco'
    exact run _ h' tk _ hx (Nat.le_trans hge (Nat.le_of_lt hlt)) htab'.2 ⟨_, rfl⟩ htr
  | some cv =>
    refine wpAny_genexprCode_hit hcode (cd.code tT2 htri) hf ?_
    exact run cv (t1.heap.push o9) t1.toks ps (Heap.ExtBut.refl _ _) (Nat.le_refl _) tT2 ⟨#[], by simp⟩ htri
/-- all(elt for x in e), e a tuple: behind it the def's table may have grown -/
def tAllG (X : Cx) (T : Addr) (sc : Scope) (x : Str) (elt : Expr) (te : TE) : TE := fun σ H Q => te σ H fun v H1 => ∃ (a : Addr) (xs : List V) (pb : Nat → Bool), v = .ref a ∧ SqT X.K H1 a xs ∧ GxR.TabG H1 T ∧ EltT X T sc x elt xs pb H1 ∧
  ∀ H2, GxR.Tabbed T H1 H2 → Q (.bl ((List.range xs.length).all pb)) H2
def tAnyG (X : Cx) (T : Addr) (sc : Scope) (x : Str) (elt : Expr) (te : TE) : TE := fun σ H Q => te σ H fun v H1 => ∃ (a : Addr) (xs : List V) (pb : Nat → Bool), v = .ref a ∧ SqT X.K H1 a xs ∧ GxR.TabG H1 T ∧ EltT X T sc x elt xs pb H1 ∧
  ∀ H2, GxR.Tabbed T H1 H2 → Q (.bl ((List.range xs.length).any pb)) H2
theorem pe_allG {c T : Addr} {elt iter : Expr} {x : Str} {px p pos gpos : Pos} {scope : Scope} {te : TE} {k : Nat}
    (hr : Room k X.A) (hg : Gl X "all") (hm : X.mg "all" = none) (hb : bootBuiltins "all" = some (.builtin "all")) (TB : GxR.TabB X.base X.mg c T) (hcode : X.env.code = .ref c) (S : GxR.GenS X.env scope x) (hi : PE X iter te) (hs : ∀ v, genFold iter X.env v = pure v)
    (he : starEach [.GeneratorExp elt [⟨.Name x px, iter, [], 0⟩] scope gpos] X.env = (false, eval (.GeneratorExp elt [⟨.Name x px, iter, [], 0⟩] scope gpos) X.env) :: starEach [] X.env := by rfl) :
    PE X (.Call (.Name "all" p) [.GeneratorExp elt [⟨.Name x px, iter, [], 0⟩] scope gpos] [] pos) (tAllG X T scope x elt te) := by
  refine ⟨fun pins s σ H Q I h => wpAny_Call_Name_kw (ld_blt I hg hm hb (PyProof.Rows.callWith_builtin1 ?_ he (by rfl)))⟩
  rw [he]
  show wpAny _ _ (spliced ((false, eval (.GeneratorExp elt [⟨.Name x px, iter, [], 0⟩] scope gpos) X.env) :: backTo pos (starEach [] X.env))) _ _ s
  refine Calls.spliced_cons (gen_tup (R := fun n pb H1 => ∀ H2, GxR.Tabbed T H1 H2 → Q (.bl ((List.range n).all pb)) H2) hr TB hcode S hi hs I h fun n pb H1 g s5 hR hG => ?_)
  obtain ⟨fp, wr, G, F, St, W, hst, htr, hI⟩ := hG
  refine Calls.spliced_nil (call_all_walkS (W.self 0 _ _ _ hst ⟨g, fp, wr, G, _, F, St, _, rfl, W, hst, htr, fun s' hmv => ?_⟩))
  obtain ⟨H2, hT, J⟩ := hI s' hmv
  exact ⟨.bl _, H2, J, rfl, hR H2 hT⟩
end
/-- the element's reading over zip of two tuples -/
def EltZ (X : Cx) (T : Addr) (sc : Scope) (x y : Str) (el : Expr) (xs ys : List V) (pb : Nat → Bool) (H1 : Hp) : Prop :=
  ∀ (Φ : Heap → Prop) (pins : List (Addr × Obj)) (σ : L2.St) (t1 : Shared) (cenv : Env) (m : Str → Option Value) (i : Nat) (v v2 : V) (u u2 : Value), Stay X.K X.mg Φ → Inv X pins σ H1 t1 →
    (∀ h, Φ h → ∀ b o, b ≠ T → t1.heap.get? b = some o → h.get? b = some o) → PuEnv cenv → cenv.scope = sc → cenv.cells = cloFrom X.env.cells sc.names [] → xs[i]? = some v → RelV v u → m x = some u → ys[i]? = some v2 → RelV v2 u2 → m y = some u2 →
    PuE X.prog X.w Φ cenv m (X.A.depth + 1) (X.A.units + 8) el (· = .bool (pb i))
section
variable {X : Cx} {pins : List (Addr × Obj)} {σ : L2.St} {H : Hp} {s : Shared}
theorem gen_zip {c T : Addr} {elt e e2 : Expr} {x y : Str} {pa pb' pt p zpos gpos : Pos} {kt : Nat} {scope : Scope} {ta : TA} {k : Nat} {Q' : Value → Shared → Prop} {R : Nat → (Nat → Bool) → Hp → Prop}
    (hr : Room k X.A) (TB : GxR.TabB X.base X.mg c T) (hcode : X.env.code = .ref c) (S : GxR.GenS X.env scope x) (hy : scope.names.lookup y = some .local) (hxy : x ≠ y) (hg : Gl X "zip") (hm : X.mg "zip" = none) (ha : PA X [e, e2] ta)
    (hs : ∀ v, genFold (.Call (.Name "zip" p) [e, e2] [] zpos) X.env v = pure v) (I : Inv X pins σ H s)
    (h : ta σ H fun vs H1 => ∃ (a b : Addr) (xs ys : List V) (pb : Nat → Bool), vs = [.ref a, .ref b] ∧ SqT X.K H1 a xs ∧ SqT X.K H1 b ys ∧ GxR.TabG H1 T ∧ EltZ X T scope x y elt xs ys pb H1 ∧ R (min xs.length ys.length) pb H1)
    (hQ' : ∀ n pb H1 g t5, R n pb H1 → Rdy X pins σ H1 T n pb g t5 → Q' (.ref g) t5)
    (hst : starEach [e, e2] X.env = (false, eval e X.env) :: starEach [e2] X.env := by rfl) (hpl : (backTo zpos (starEach [e2] X.env)).any (·.1) = false := by rfl) :
    wpAny (model X.prog X.w) X.A (eval (.GeneratorExp elt [⟨.Tuple [.Name x pa, .Name y pb'] kt pt, .Call (.Name "zip" p) [e, e2] [] zpos, [], 0⟩] scope gpos) X.env) Q' X.xe s := by
  refine wpAny_GeneratorExp_walksQTD hr.hd S.co (closure_ok S.free) S.cell S.dot S.loc hy hxy S.kind (by have := hr.dp; omega) ?_ hs
  refine PyProof.Rows.Call_ (ld_blt I hg hm PyProof.Rows.boot_zip (PyProof.Rows.callWith_type1 (thn (ha.run zpos pins s σ H _ I h) fun us t1 ⟨vs, H1, I1, r1, a, b, xs, ys, pb, ev, hsx, hsy, ⟨ps, hT, htri⟩, hel, hQ⟩ => ?_) hst hpl))
  subst ev
  obtain ⟨u1, u2, rfl, ra, rb⟩ := vals2 r1
  cases ra
  cases rb
  obtain ⟨its, rv, htup, hz⟩ := I1.tuple hsx
  obtain ⟨its2, rv2, htup2, hz2⟩ := I1.tuple hsy
  have tT : t1.heap.get? T = some { cls := .none, data := .fields ps } := I1.hok T _ hT
  have lT : T < t1.heap.objs.size := Heap.lt_size tT
  have la : a < t1.heap.objs.size := by obtain ⟨o, e, _⟩ := htup; exact Heap.lt_size e
  have lb : b < t1.heap.objs.size := by obtain ⟨o, e, _⟩ := htup2; exact Heap.lt_size e
  have naT : a ≠ T := fun e => by
    obtain ⟨o, e1, e2, _⟩ := htup
    rw [e, tT] at e1
    cases e1
    cases e2
  have nbT : b ≠ T := fun e => by
    obtain ⟨o, e1, e2, _⟩ := htup2
    rw [e, tT] at e1
    cases e1
    cases e2
  refine RZ.call_zipT (show t1.heap.IsTuple a its.toArray from htup) (show t1.heap.IsTuple b its2.toArray from htup2) fun h2 hz0 hTI hTO hi1 hi2 hsz2 hk2 => wpAny_pyIter_zip hz0 ?_
  have hlen : its.toArray.size = xs.length := by rw [List.size_toArray]; exact rv.length.symm
  have hlen2 : its2.toArray.size = ys.length := by rw [List.size_toArray]; exact rv2.length.symm
  have tT2 : h2.get? T = some { cls := .none, data := .fields ps } := hk2 _ _ tT
  have cd : PySem.W.CodeHd h2 c T := TB.code.keeps fun b u e => hk2 _ _ (I1.bk b u e)
  have lim2 : h2.NoLimit := I1.nolimit.keeps hk2
  have hbT : ∀ b u, X.base.get? b = some u → t1.heap.get? b = some u ∧ b ≠ T := fun b u e => ⟨I1.bk b u e, fun z => by
    have q := (I1.bs b u e).2
    rw [z, hT] at q
    cases q⟩
  have run : ∀ (code : Value) (h3 : Heap) (tk : Nat) (ps' : Array Value), Heap.ExtBut T h2 h3 → h2.objs.size ≤ h3.objs.size → h3.get? T = some { cls := .none, data := .fields ps' } → (∃ more, ps' = ps ++ more) → TriplesOk ps'.toList →
      wpAny (model X.prog X.w) X.A (builtinsFor X.env.globals X.env.builtins) (fun bi t4 =>
        ∃ Ia fp wr n₀ Pt St₀ Mid pz F, Value.ref (t1.heap.objs.size + 4) = .ref Ia ∧ (∀ A' : Around, A'.handled = none → WalksU X.prog X.w A' Ia fp wr n₀ Pt St₀ Mid) ∧ (∀ i vals, Pt i vals → ∃ va vb, vals = #[va, vb]) ∧ St₀ 0 t4.heap ∧ (∀ b ∈ fp, b < t4.heap.objs.size) ∧ t4.heap.NoLimit ∧ cStatics ∉ wr ∧
          (∀ href : Heap, (∀ b o, t4.heap.get? b = some o → href.get? b = some o) →
            QuietGenTD X.prog X.w (genEnv scope (cloFrom X.env.cells scope.names []) t4.heap.objs.size code bi X.env) x y [] elt (List.range t4.heap.objs.size) wr Pt pz F href (X.A.depth + 1) (X.A.units + 8)) ∧
          (∀ g0 h₅ tk gs, gs.bare = true → t4.heap.objs.size < g0 → h₅.objs.size = g0 + 1 → (∀ b o, t4.heap.get? b = some o → h₅.get? b = some o) →
            WalksS X.prog X.w X.A.in4 g0 (g0 :: t4.heap.objs.size :: List.range t4.heap.objs.size) (t4.heap.objs.size :: wr) (GenOnlyQ t4.gens.size) (passing pz n₀ 0).length
              (fun j y => ∃ i, (passing pz n₀ 0)[j]? = some i ∧ F i y) (GenAt X.prog X.w X.A.in4 g0 t4.gens.size t4.heap.objs.size (List.range t4.heap.objs.size) wr pz n₀ F) →
            GenAt X.prog X.w X.A.in4 g0 t4.gens.size t4.heap.objs.size (List.range t4.heap.objs.size) wr pz n₀ F 0 { t4 with gens := t4.gens.push gs, toks := tk, heap := h₅ } →
            Q' (.ref g0) { t4 with gens := t4.gens.push gs, toks := tk, heap := h₅ })) X.xe { t1 with heap := h3, toks := tk } := by
    intro code h3 tk ps' hx hsz hT3 hmore ht3
    obtain ⟨bm, ob, e1, e2, e3, e4, e5, e6, e7, e8⟩ := TB.bm
    have hcT : cStatics ≠ T := fun e => by
      obtain ⟨_, ⟨o', es, ep, ho, hd, _⟩, _⟩ := I1.nolimit
      rw [e, tT] at ho
      cases ho
      cases hd
    have hcl : cStatics < t1.heap.objs.size := let ⟨_, hns, _⟩ := I1.nolimit; hns.lt
    have up3 : ∀ b u, b ≠ T → t1.heap.get? b = some u → h3.get? b = some u := fun b u hb e => hx b u hb (hk2 _ _ e)
    have hsz' : t1.heap.objs.size + 5 ≤ h3.objs.size := by rw [← hsz2]; exact hsz
    have far : ∀ j : Nat, T ≠ t1.heap.objs.size + j := fun j z => by
      have q : (T : Nat) < t1.heap.objs.size := lT
      rw [z] at q
      exact Nat.lt_irrefl _ (Nat.lt_of_le_of_lt (Nat.le_add_right _ _) q)
    have nea : ∀ j : Nat, a ≠ t1.heap.objs.size + j := fun j z => by
      have q : (a : Nat) < t1.heap.objs.size := la
      rw [z] at q
      exact Nat.lt_irrefl _ (Nat.lt_of_le_of_lt (Nat.le_add_right _ _) q)
    have neb : ∀ j : Nat, b ≠ t1.heap.objs.size + j := fun j z => by
      have q : (b : Nat) < t1.heap.objs.size := lb
      rw [z] at q
      exact Nat.lt_irrefl _ (Nat.lt_of_le_of_lt (Nat.le_add_right _ _) q)
    have nn : ∀ i j : Nat, i ≠ j → (t1.heap.objs.size : Nat) + i ≠ t1.heap.objs.size + j := fun i j q => by omega
    have sep : ZipSep2 (t1.heap.objs.size + 4) (t1.heap.objs.size + 2) (t1.heap.objs.size + 3) t1.heap.objs.size (t1.heap.objs.size + 1) [t1.heap.objs.size, a] [t1.heap.objs.size + 1, b] := by
      have m2 : ∀ {q r t : Addr}, q ≠ r → q ≠ t → q ∉ [r, t] := fun {q r t} z1 z2 z => by
        have z' : q = r ∨ q = t := by simpa using z
        rcases z' with z' | z'
        · exact z1 z'
        · exact z2 z'
      exact ⟨nn 2 4 (by decide), nn 3 4 (by decide), nn 2 3 (by decide), nn 2 0 (by decide), List.mem_cons_self, m2 (nn 4 0 (by decide)) (nea 4).symm, m2 (nn 3 0 (by decide)) (nea 3).symm, nn 2 1 (by decide), List.mem_cons_self, m2 (nn 4 1 (by decide)) (neb 4).symm, m2 (nn 3 1 (by decide)) (neb 3).symm,
        m2 (nn 0 1 (by decide)) (neb 0).symm, m2 (nn 1 0 (by decide)) (nea 1).symm⟩
    refine wpAny_builtinsFor (m := X.mg) (by rw [I1.ok.glob]; exact (I1.mod.glob.keeps fun b u e => hk2 _ _ (I1.bk b u e)).extBut hx TB.gP) e1 e2 (up3 _ _ e4 (I1.bk _ _ e5)) e6 e7 e8 ?_
    refine ⟨t1.heap.objs.size + 4, _, _, _, _, _, _, (fun _ => true), (fun i y => y = .bool (pb i)), rfl,
      (fun A' hA => (WalksT.zipD2 sep (Draws.tuple (A := A'.in1) hA _ _ (nea 0) its.toArray) (Draws.tuple (A := A'.in1) hA _ _ (neb 1) its2.toArray)).toU), ?_, ⟨?_, ?_, ⟨.none, .none, ?_⟩, ⟨?_, ?_⟩, ⟨?_, ?_⟩⟩, ?_, lim2.extBut hx hcT, ?_, ?_, ?_⟩
    · rintro i vals ⟨x1, x2, _, _, rfl⟩
      exact ⟨x1, x2, rfl⟩
    · exact hx _ _ (far 4).symm hz0
    · exact hx _ _ (far 2).symm hTI
    · exact hx _ _ (far 3).symm hTO
    · exact hi1.at fun o q => hx _ _ (far 0).symm q
    · obtain ⟨o, q1, q2, q3⟩ := htup
      exact ⟨o, up3 a o naT q1, q2, q3⟩
    · exact hi2.at fun o q => hx _ _ (far 1).symm q
    · obtain ⟨o, q1, q2, q3⟩ := htup2
      exact ⟨o, up3 b o nbT q1, q2, q3⟩
    · intro q hq
      have hq' : q = t1.heap.objs.size + 4 ∨ q = t1.heap.objs.size + 2 ∨ q = t1.heap.objs.size + 3 ∨ q = t1.heap.objs.size ∨ q = a ∨ q = t1.heap.objs.size + 1 ∨ q = b := by simpa using hq
      have ok : ∀ j : Nat, j < 5 → (t1.heap.objs.size : Nat) + j < h3.objs.size := fun j hj => Nat.lt_of_lt_of_le (Nat.add_lt_add_left hj _) hsz'
      show (q : Nat) < h3.objs.size
      rcases hq' with z | z | z | z | z | z | z
      · rw [z]; exact ok 4 (by decide)
      · rw [z]; exact ok 2 (by decide)
      · rw [z]; exact ok 3 (by decide)
      · rw [z]; exact ok 0 (by decide)
      · rw [z]; exact Nat.lt_trans la (ok 0 (by decide))
      · rw [z]; exact ok 1 (by decide)
      · rw [z]; exact Nat.lt_trans lb (ok 0 (by decide))
    · intro z
      have z' : cStatics = t1.heap.objs.size + 4 ∨ cStatics = t1.heap.objs.size + 3 ∨ cStatics = t1.heap.objs.size ∨ cStatics = t1.heap.objs.size + 1 := by simpa using z
      have no : ∀ j : Nat, cStatics ≠ t1.heap.objs.size + j := fun j z => by
        have q : (cStatics : Nat) < t1.heap.objs.size := hcl
        rw [z] at q
        exact Nat.lt_irrefl _ (Nat.lt_of_le_of_lt (Nat.le_add_right _ _) q)
      rcases z' with z' | z' | z' | z'
      · exact no 4 z'
      · exact no 3 z'
      · exact no 0 z'
      · exact no 1 z'
    · intro href hhref
      have St3 := stay_but (T := T) (h1 := t1.heap) I1.mod hbT
      refine ⟨fun A' E' i va vb s₂ m₂ _ _ _ hPv hn hma hmb hk => ?_, fun A' E' i va vb s₂ m₂ hA hD hU hPv hp hn hma hmb hk => ?_⟩
      · simp only [List.forIn_nil]
        exact wpAny_pure ⟨rfl, keeps0 s₂ s₂.toks⟩
      · obtain ⟨x1, x2, hx1, hx2, exy⟩ := hPv
        have ev : va = x1 ∧ vb = x2 := by
          have q := congrArg Array.toList exy
          simpa using q
        obtain ⟨rfl, rfl⟩ := ev
        have hv : its[i]? = some va := by simpa using hx1
        have hv2 : its2[i]? = some vb := by simpa using hx2
        have hi' : i < xs.length := by rw [rv.length]; exact (List.getElem?_eq_some_iff.mp hv).1
        have hi2' : i < ys.length := by rw [rv2.length]; exact (List.getElem?_eq_some_iff.mp hv2).1
        obtain ⟨u, hu, ru⟩ := rv.get (List.getElem?_eq_getElem hi')
        obtain ⟨u', hu', ru'⟩ := rv2.get (List.getElem?_eq_getElem hi2')
        rw [hv] at hu
        rw [hv2] at hu'
        cases hu
        cases hu'
        refine hel _ pins σ t1 (genEnv scope (cloFrom X.env.cells scope.names []) h3.objs.size code builtinsNs X.env) m₂ i _ _ va vb St3 I1 (fun h q => q) ⟨S.kind, I1.ok.glob, rfl⟩ rfl rfl (List.getElem?_eq_getElem hi') ru hma (List.getElem?_eq_getElem hi2') ru' hmb A' E' s₂ hA hD hU ?_ hn
        intro q u hb e
        have e3' := up3 q u hb e
        refine hk q (List.mem_range.mpr (Heap.lt_size e3')) (fun z => ?_) u (hhref q u e3')
        have z' : q = t1.heap.objs.size + 4 ∨ q = t1.heap.objs.size + 3 ∨ q = t1.heap.objs.size ∨ q = t1.heap.objs.size + 1 := by simpa using z
        have hlt : (q : Nat) < t1.heap.objs.size := Heap.lt_size e
        have no : ∀ j : Nat, q ≠ t1.heap.objs.size + j := fun j z => by
          rw [z] at hlt
          exact Nat.lt_irrefl _ (Nat.lt_of_le_of_lt (Nat.le_add_right _ _) hlt)
        rcases z' with z' | z' | z' | z'
        · exact no 4 z'
        · exact no 3 z'
        · exact no 0 z'
        · exact no 1 z'
    · intro g h5 tk5 gs hgb hag hsz5 hk5 W5 hat
      simp only [GxR.passing_true, List.length_range] at W5
      rw [hlen, hlen2] at W5 hat
      refine hQ' (min xs.length ys.length) pb H1 g _ hQ ⟨_, _, _, _, _, W5.in4_1, hat, ?_, fun s' hm => ?_⟩
      · intro j y sj Qj Ej hy hQj
        obtain ⟨i, hij, rfl⟩ := hy
        obtain ⟨hj, ej⟩ := List.getElem?_eq_some_iff.mp hij
        rw [List.getElem_range] at ej
        subst ej
        exact wpAny_truthy_bool hQj
      · obtain ⟨more, em⟩ := hmore
        have nwr : ∀ b u, t1.heap.get? b = some u → b ∉ h3.objs.size :: [t1.heap.objs.size + 4, t1.heap.objs.size + 3, t1.heap.objs.size, t1.heap.objs.size + 1] := fun b u e hb => by
          have hl : (b : Nat) < t1.heap.objs.size := Heap.lt_size e
          have hb' : b = h3.objs.size ∨ b = t1.heap.objs.size + 4 ∨ b = t1.heap.objs.size + 3 ∨ b = t1.heap.objs.size ∨ b = t1.heap.objs.size + 1 := by simpa using hb
          have no : ∀ j : Nat, b ≠ t1.heap.objs.size + j := fun j z => by
            rw [z] at hl
            exact Nat.lt_irrefl _ (Nat.lt_of_le_of_lt (Nat.le_add_right _ _) hl)
          rcases hb' with z | z | z | z | z
          · rw [z] at hl
            exact Nat.lt_irrefl _ (Nat.lt_of_lt_of_le hl (Nat.le_trans (Nat.le_add_right _ 5) hsz'))
          · exact no 4 z
          · exact no 3 z
          · exact no 0 z
          · exact no 1 z
        have J := GxR.inv_tab (more := more) (h' := s'.heap) (g' := s'.gens) (d' := s'.drawn) (t' := s'.toks) I1 hT (fun b u hb e => hm.heap b u (nwr b u e) (hk5 b u (up3 b u hb e)))
          (by rw [← em]; exact hm.heap T _ (nwr T _ tT) (hk5 T _ hT3)) (PyProof.Rows.AllBare.movedS (I1.bare.push hgb) hm)
        rw [GxR.sh_eta t1 s' hm.os] at J
        exact ⟨upd H1 T (.tbl (ps ++ more)), ⟨⟨ps ++ more, upd_same, by rw [← em]; exact ht3⟩, fun b hb => upd_ne hb⟩, J⟩
  refine ⟨lim2, ?_⟩
  cases hf : codeAmong gpos ps.toList with
  | none =>
    refine wpAny_genexprCodeX hcode (cd.code tT2 htri) (cd.tab tT2) hf fun c' h' tk hx hge hlt hco' _ htab' _ => ?_
    obtain ⟨_, _, _, _, _, _, _, _, _, _, _, _, _, _, _, _, _, _, _, htr, _⟩ := hco'
    exact run _ h' tk _ hx (Nat.le_trans hge (Nat.le_of_lt hlt)) htab'.2 ⟨_, rfl⟩ htr
  | some cv =>
    refine wpAny_genexprCode_hit hcode (cd.code tT2 htri) hf ?_
    exact run cv h2 t1.toks ps (Heap.ExtBut.refl _ _) (Nat.le_refl _) tT2 ⟨#[], by simp⟩ htri
def tAnyZ (X : Cx) (T : Addr) (sc : Scope) (x y : Str) (elt : Expr) (ta : TA) : TE := fun σ H Q => ta σ H fun vs H1 => ∃ (a b : Addr) (xs ys : List V) (pb : Nat → Bool), vs = [.ref a, .ref b] ∧ SqT X.K H1 a xs ∧ SqT X.K H1 b ys ∧ GxR.TabG H1 T ∧ EltZ X T sc x y elt xs ys pb H1 ∧
  ∀ H2, GxR.Tabbed T H1 H2 → Q (.bl ((List.range (min xs.length ys.length)).any pb)) H2
theorem pe_anyZ {c T : Addr} {elt e e2 : Expr} {x y : Str} {pa pb' pt p p' pos zpos gpos : Pos} {kt : Nat} {scope : Scope} {ta : TA} {k : Nat}
    (hr : Room k X.A) (hg : Gl X "any") (hm : X.mg "any" = none) (TB : GxR.TabB X.base X.mg c T) (hcode : X.env.code = .ref c) (S : GxR.GenS X.env scope x) (hy : scope.names.lookup y = some .local) (hxy : x ≠ y) (hgz : Gl X "zip") (hmz : X.mg "zip" = none) (ha : PA X [e, e2] ta)
    (hs : ∀ v, genFold (.Call (.Name "zip" p) [e, e2] [] zpos) X.env v = pure v)
    (hst : starEach [e, e2] X.env = (false, eval e X.env) :: starEach [e2] X.env := by rfl) (hpl : (backTo zpos (starEach [e2] X.env)).any (·.1) = false := by rfl)
    (he : starEach [.GeneratorExp elt [⟨.Tuple [.Name x pa, .Name y pb'] kt pt, .Call (.Name "zip" p) [e, e2] [] zpos, [], 0⟩] scope gpos] X.env = (false, eval (.GeneratorExp elt [⟨.Tuple [.Name x pa, .Name y pb'] kt pt, .Call (.Name "zip" p) [e, e2] [] zpos, [], 0⟩] scope gpos) X.env) :: starEach [] X.env := by rfl) :
    PE X (.Call (.Name "any" p') [.GeneratorExp elt [⟨.Tuple [.Name x pa, .Name y pb'] kt pt, .Call (.Name "zip" p) [e, e2] [] zpos, [], 0⟩] scope gpos] [] pos) (tAnyZ X T scope x y elt ta) := by
  refine ⟨fun pins s σ H Q I h => wpAny_Call_Name_kw (ld_blt I hg hm PyProof.Rows.boot_any (PyProof.Rows.callWith_builtin1 ?_ he (by rfl)))⟩
  rw [he]
  show wpAny _ _ (spliced ((false, eval (.GeneratorExp elt [⟨.Tuple [.Name x pa, .Name y pb'] kt pt, .Call (.Name "zip" p) [e, e2] [] zpos, [], 0⟩] scope gpos) X.env) :: backTo pos (starEach [] X.env))) _ _ s
  refine Calls.spliced_cons (gen_zip (R := fun n pb H1 => ∀ H2, GxR.Tabbed T H1 H2 → Q (.bl ((List.range n).any pb)) H2) hr TB hcode S hy hxy hgz hmz ha hs I h (fun n pb H1 g s5 hR hG => ?_) hst hpl)
  obtain ⟨fp, wr, G, F, St, W, hst, htr, hI⟩ := hG
  refine Calls.spliced_nil (call_any_walkS (W.self 0 _ _ _ hst ⟨g, fp, wr, G, _, F, St, _, rfl, W, hst, htr, fun s' hmv => ?_⟩))
  obtain ⟨H2, hT, J⟩ := hI s' hmv
  exact ⟨.bl _, H2, J, rfl, hR H2 hT⟩
end

/-! ### tuples: sum(t), t * 1, t[::-1] -/
section
variable {X : Cx}
/-- sum(t), t a tuple or a list of ints -/
def rSumS (K : PySem.W.Frag) : List V → Hp → VK → Prop := fun vs H Q => ∃ (a : Addr) (ns : List Int), vs = [V.ref a] ∧ (SqL K H a (ns.map V.int) ∨ SqT K H a (ns.map V.int)) ∧ Q (.int ns.sum) H
theorem cr_sumS (hc : X.calm = true) : CallR X (.builtin "sum") (rSumS X.K) := by
  intro pins s σ H vs us Q I r h
  obtain ⟨a, ns, rfl, hs, q⟩ := h
  rcases hs with hs | hs
  · exact cr_sum hc pins s σ H [.ref a] us Q I r ⟨a, ns, rfl, hs, q⟩
  · obtain ⟨its, rv, hl, _⟩ := I.tuple hs
    rw [Vals.ref1 r]
    have hi := intsAre_of rv
    obtain ⟨xs, e⟩ := hi.allInts.items
    have hn : numsOf (intItems xs).toList = ns := by rw [← e]; exact hi.numsOf
    rw [nums_intItems] at hn
    have hl' : s.heap.IsTuple a (intItems xs) := by rw [← e]; exact hl
    refine PySem.W.ktm_sumG (I.ok.hd hc) hl' fun h' tk t' hk => ⟨.int ns.sum, H, I.kept hk, ?_, q⟩
    rw [preSum_eq, List.take_of_length_le (by simp), hn]
    exact ⟨t', rfl⟩
theorem adjust_rev (n : Nat) : Builtin.Slice.sliceAdjust none none (-1) (n : Int) = ((n : Int) - 1, -1) := rfl
theorem places_rev (n : Nat) : Builtin.Slice.slicePlaces ((n : Int) - 1) (-1) (-1) = n := by
  unfold Builtin.Slice.slicePlaces
  rw [if_neg (by omega)]
  split
  · have e : ((n : Int) - 1 - -1 - 1) / (- -1) = (n : Int) - 1 := by
      rw [show (- -1 : Int) = 1 from rfl, Int.ediv_one]; omega
    rw [e]; omega
  · omega
theorem pick_revL : ∀ (l : List Value), ((List.range l.length).filterMap fun (k : Nat) => l[l.length - 1 - k]?) = l.reverse
  | [] => rfl
  | v :: l => by
    have e : ((List.range l.length).filterMap fun (k : Nat) => (v :: l)[l.length - k]?) = (List.range l.length).filterMap fun (k : Nat) => l[l.length - 1 - k]? := by
      have go : ∀ (m : List Nat), (∀ k ∈ m, k < l.length) → (m.filterMap fun (k : Nat) => (v :: l)[l.length - k]?) = m.filterMap fun (k : Nat) => l[l.length - 1 - k]? := by
        intro m
        induction m with
        | nil => intro _; rfl
        | cons k m ih =>
          intro hm
          have hk := hm k (by simp)
          have e3 : (v :: l)[l.length - k]? = l[l.length - 1 - k]? := by
            rw [show l.length - k = (l.length - 1 - k) + 1 by omega, List.getElem?_cons_succ]
          rw [List.filterMap_cons, List.filterMap_cons, e3, ih fun q hq => hm q (by simp [hq])]
      exact go _ fun k hk => List.mem_range.mp hk
    have e0 : ((List.range (v :: l).length).filterMap fun (k : Nat) => (v :: l)[(v :: l).length - 1 - k]?) = ((List.range (l.length + 1)).filterMap fun (k : Nat) => (v :: l)[l.length - k]?) := rfl
    rw [e0, List.range_succ, List.filterMap_append, e, pick_revL l]
    simp
theorem pick_rev (xs : Array Value) : ((List.range xs.size).filterMap fun (k : Nat) => xs[((xs.size : Int) - 1 + (k : Int) * -1).toNat]?).toArray = xs.toList.reverse.toArray := by
  have e : (fun (k : Nat) => xs[((xs.size : Int) - 1 + (k : Int) * -1).toNat]?) = fun (k : Nat) => if (k : Int) ≤ (xs.size : Int) - 1 then xs.toList[xs.toList.length - 1 - k]? else xs[0]? := by
    funext k
    by_cases hk : (k : Int) ≤ (xs.size : Int) - 1
    · rw [if_pos hk, Array.getElem?_toList, Array.length_toList]
      congr 1
      omega
    · rw [if_neg hk]
      congr 1
      omega
  rw [e]
  have go : ∀ (m : List Nat), (∀ k ∈ m, k < xs.size) → (m.filterMap fun (k : Nat) => if (k : Int) ≤ (xs.size : Int) - 1 then xs.toList[xs.toList.length - 1 - k]? else xs[0]?) = m.filterMap fun (k : Nat) => xs.toList[xs.toList.length - 1 - k]? := by
    intro m
    induction m with
    | nil => intro _; rfl
    | cons k m ih =>
      intro hm
      have hk := hm k (by simp)
      rw [List.filterMap_cons, List.filterMap_cons, if_pos (by omega), ih fun q hq => hm q (by simp [hq])]
  rw [go _ fun k hk => List.mem_range.mp hk]
  have := pick_revL xs.toList
  rw [Array.length_toList] at this ⊢
  rw [this]
def tRevT (K : PySem.W.Frag) (te : TE) : TE := fun σ H Q => te σ H fun x H1 => ∃ a xs, x = .ref a ∧ SqT K H1 a xs ∧ ∀ p, H1 p = none → Q (.ref p) (upd H1 p (.tup xs.reverse))
theorem pe_revT {e : Expr} {te : TE} {j : Nat} {p1 p2 p3 pos : Pos} (he : PE X e te) : PE X (.Subscript e (.Slice none none (some (.UnaryOp .USub (.Constant (.int 1) j p1) p2)) p3) pos) (tRevT X.K te) := by
  refine ⟨fun pins s σ H Q I h => ?_⟩
  refine PyProof.Rows.Subscript_ (thn (he.run pins s σ H _ I h) fun v s1 ⟨x, H1, I1, r1, a, xs, ex, hs, q⟩ => ?_)
  subst ex
  cases r1
  obtain ⟨its, rv, htup, hz⟩ := I1.tuple hs
  refine wpAny_Slice ?_
  rw [evalPart_none, evalPart_some]
  refine wpAny_pure (wpAny_pure ?_)
  refine thn ((pe_un (X := X) (pos := p2) un_neg (pe_int (X := X) (i := 1) (j := j) (pos := p1))).run pins s1 σ H1 (fun y H2 => y = .int (-1) ∧ H2 = H1) I1 ⟨1, rfl, rfl, rfl⟩) fun st s2 ⟨y, H2, I2, r2, ey, eH⟩ => ?_
  subst ey eH
  obtain ⟨t, rfl⟩ := r2
  obtain ⟨its', rv', htup', _⟩ := I2.tuple hs
  have hlen' : its'.toArray.size = xs.length := by rw [List.size_toArray]; exact rv'.length.symm
  obtain ⟨o7, ho7⟩ : ∃ o7 : Obj, o7 = { cls := .type "slice", data := .fields #[.none, .none, .int (-1) t] } := ⟨_, rfl⟩
  have I4 : Inv X pins σ H2 { s2 with heap := s2.heap.push o7 } := I2.kept (t' := s2.toks) fun b ob q => Heap.get?_push_of_some _ q
  have hs7 : (s2.heap.push o7).IsSliceOf s2.heap.objs.size .none .none (.int (-1) t) := by rw [ho7]; exact Heap.IsSliceOf.new ..
  have ht7 : PyProof.Rows.IsTup (s2.heap.push o7) a its'.toArray := htup'.push _
  rw [← ho7]
  refine PyProof.Rows.tail_any (ops := [.ref a, .ref s2.heap.objs.size]) (T := "tuple") (s := { s2 with heap := s2.heap.push o7 }) ht7.typeIs PyProof.Rows.slot_tuple_getitem.lookup ?_ (by with_unfolding_all rfl)
  have hTs : ({ s2 with heap := s2.heap.push o7 } : Shared).TypeIs (.ref s2.heap.objs.size) "slice" := by obtain ⟨o, e1, e2, _⟩ := hs7; exact ⟨o, e1, e2⟩
  obtain ⟨oo, ho1, ho2, ho3⟩ := id hs7
  unfold getItem
  try with_reducible refine wpAny_holding ?_
  first | refine wpAny_bind (wpAny_pure ?_) | skip
  refine wpAny_bind (wpAny_sequenceKey ht7.typeIs (by decide) (wpAny_bind (wpAny_callSpecial?_slot (name := Str.ofString "__getitem__") ht7.typeIs PyProof.Rows.slot_tuple_getitem (wpAny_call_entry PyProof.Rows.slot_tuple_getitem ht7.typeIs PyProof.Rows.entry_tuple_getitem ?_ (PyProof.Rows.args_tuple_getitem _ _)))))
  show wpAny _ _ (Builtin.Tuple.tupleItemsOf (.ref a) >>= _) _ _ _
  refine wpAny_bind (PyProof.Rows.tupleItemsOf_ ht7 (wpAny_bind (wpAny_typeOf hTs ?_)))
  rw [if_pos (by decide)]
  refine wpAny_bind (m := Builtin.Slice.sliceApplied _ _) ?_
  unfold Builtin.Slice.sliceApplied Builtin.Slice.sliceFields
  refine wpAny_bind (wpAny_bind (wpAny_field ho1 ho3 (x := .none) rfl (wpAny_bind (wpAny_field ho1 ho3 (x := .none) rfl (wpAny_bind (wpAny_field ho1 ho3 (x := .int (-1) t) rfl (wpAny_pure ?_)))))))
  refine wpAny_bind (PyProof.Rows.slicePart_int ?_)
  show wpAny _ _ (if ((-1 : Int) == 0) = true then _ else _) _ _ _
  rw [if_neg (by decide)]
  refine wpAny_bind (PyProof.Rows.slicePart_none (wpAny_bind (PyProof.Rows.slicePart_none (wpAny_bind (wpAny_pure ?_)))))
  show wpAny _ _ (pure ((its'.toArray.size : Int) - 1, (-1 : Int), Builtin.Slice.slicePlaces ((its'.toArray.size : Int) - 1) (-1) (-1))) _ _ _
  rw [places_rev]
  refine wpAny_pure ?_
  have hno : ¬ ((((its'.toArray.size : Int) - 1 == 0 && (-1 : Int) == 1 && its'.toArray.size == its'.toArray.size)) = true) := by
    intro z
    rw [Bool.and_eq_true, Bool.and_eq_true] at z
    exact absurd z.1.2 (by decide)
  show wpAny _ _ (if ((its'.toArray.size : Int) - 1 == 0 && (-1 : Int) == 1 && its'.toArray.size == its'.toArray.size) = true then _ else _) _ _ _
  rw [if_neg hno, pick_rev]
  have hsz : sizeOk (.seq its'.toArray.toList.reverse.toArray) := by
    show its'.toArray.toList.reverse.toArray.size ≤ sizeLine
    rw [List.size_toArray, List.length_reverse, Array.length_toList, hlen']
    exact hz
  have fin : EP X pins σ Q (.ref (s2.heap.push o7).objs.size) { s2 with heap := (s2.heap.push o7).push { cls := .type "tuple", data := .seq its'.toArray.toList.reverse.toArray } } := by
    have hf : H2 (s2.heap.push o7).objs.size = none := I4.hok.fresh (Nat.le_refl _)
    refine ⟨.ref _, _, I4.laid (t' := s2.toks) (o := .tup xs.reverse) (fun b ob z => Heap.get?_push_of_some _ z) (Nat.le_refl _) ?_, rfl, q _ hf⟩
    exact ⟨by rw [List.length_reverse]; exact hz, its'.reverse, rv'.reverse, ⟨_, Heap.get?_push_size _ rfl, rfl, 0, rfl⟩⟩
  first
    | exact wpAny_bind (m := Builtin.Tuple.tupleExact _) (wpAny_newObj_type (wpAny_pure ⟨_, rfl, wpAny_pure fin⟩) hsz)
    | exact wpAny_bind (m := Builtin.Tuple.tupleExact _) (wpAny_newObj_type (wpAny_bind (wpAny_pure (wpAny_pure ⟨_, rfl, wpAny_pure fin⟩))) hsz)
    | exact wpAny_bind (wpAny_bind (m := Builtin.Tuple.tupleExact _) (wpAny_newObj_type (wpAny_pure (wpAny_pure ⟨_, rfl, wpAny_pure fin⟩)) hsz))
    | exact wpAny_bind (wpAny_bind (m := Builtin.Tuple.tupleExact _) (wpAny_newObj_type (wpAny_pure ⟨_, rfl, wpAny_pure fin⟩) hsz))
end

section
open PyProof.Rows
theorem tup_mul_one (l : Addr) (items : Array Value) (n : Nat) (dd : Option Addr) (sl : Array (Option Value)) (u : Tok) :
    Meets (Builtin.«tuple.__mul__» ⟨[.ref l, .int 1 u], []⟩) (fun _ R s => s.heap.get? l = some { cls := .type "tuple", dict := dd, data := .seq items n, slots := sl } ∧ R (.ok (.ret (.ref l))) s) :=
  .of_wp fun prog w A R s h => by
    obtain ⟨hp, g, d, tk, os⟩ := s
    obtain ⟨hl, h⟩ := h
    have f1 := AutoSeq1.idx_int
    wp_walk using PySem.AutoSeq1.wpAny_loadPart' hl
    try (refine wpAny_ite_false (decide_eq_false (by decide)) ?_; wp_walk using PySem.AutoSeq1.wpAny_loadPart' hl)
    repeat (first
      | exact ⟨_, rfl, h⟩
      | (refine wpAny_ite_true (decide_eq_true (by simp)) ?_; wp_walk using PySem.AutoSeq1.wpAny_loadPart' hl)
      | (refine wpAny_ite_true (by simp) ?_; wp_walk using PySem.AutoSeq1.wpAny_loadPart' hl))
/-- t * 1 is t itself -/
def rRep1 (K : PySem.W.Frag) : R2 := fun x y H Q => ∃ l xs, x = .ref l ∧ y = .int 1 ∧ SqT K H l xs ∧ Q (.ref l) H
theorem op_rep1 {X : Cx} : OpR X (binaryOp .Mult) (rRep1 X.K) := by
  intro pins s σ H x y v u Q I rx ry h
  obtain ⟨l, xs, rfl, rfl, hT, q⟩ := h
  cases rx
  obtain ⟨t, rfl⟩ := ry
  obtain ⟨its, r, ⟨⟨cls, dd, data, sl⟩, ho, hc, n, hd⟩, hs⟩ := I.tuple hT
  simp only at hc hd
  subst hc hd
  exact wpAny_binaryOp_repeat_ref (T := "tuple") (U := "int") (by decide) ⟨_, ho, rfl⟩ (fun s' => typeIs_int s' 1 t) noFill_tuple_mul F.fills_int_mul F.slot_int_rmul repeat_tuple F.slot_int_index.lookup
    (call_meets F.slot_int_rmul (typeIs_int s 1 t) F.entry_int_rmul (F.args_int_rmul_2 _ _) (int_rmul_tuple 1 t l its.toArray n dd sl)
      ⟨ho, rfl, ⟨_, ho, rfl⟩, call_meets F.slot_tuple_mul ⟨_, ho, rfl⟩ F.entry_tuple_mul (F.args_tuple_mul_2 _ _) (tup_mul_one l its.toArray n dd sl t) ⟨ho, .ref l, H, I, rfl, q⟩⟩)
def rRepA (K : PySem.W.Frag) : R2 := fun x y H Q => rRepT K x y H Q ∨ rRep1 K x y H Q
theorem op_repA {X : Cx} : OpR X (binaryOp .Mult) (rRepA X.K) := OpR.or op_repT op_rep1
end

/-! ### order of nested data; sorted of it -/
section
open PySem.W
variable {X : Cx}
theorem ix_any : IxR X (fun x y H Q => rIxL X.K x y H Q ∨ rIxT X.K x y H Q) := IxR.or ix_list ix_tup
/-- the one before the other, as nested data -/
def rLtD (K : PySem.W.Frag) : R2 := fun x y H Q => ∃ d e, Dp K H x d ∧ Dp K H y e ∧ alike d e = true ∧ d ≠ .none ∧ d.depth ≤ 32 ∧ Q (.bl (dataLt d e)) H
def rGtD (K : PySem.W.Frag) : R2 := fun x y H Q => ∃ d e, Dp K H x d ∧ Dp K H y e ∧ alike d e = true ∧ d ≠ .none ∧ d.depth ≤ 32 ∧ Q (.bl (dataLt e d)) H
theorem op_ltD (hu : X.A.units + 64 < cLine) : OpR X (compareOp .Lt) (rLtD X.K) := by
  intro pins s σ H x y v u Q I rx ry ⟨d, e, hd, he, al, nn, dp, q⟩
  obtain ⟨as, r1⟩ := Dp.reads I d x v hd rx
  obtain ⟨bs, r2⟩ := Dp.reads I e y u he ry
  exact lt_data r1 r2 al nn (by omega) ⟨.bl _, H, I, rfl, q⟩
theorem op_gtD (hu : X.A.units + 64 < cLine) : OpR X (compareOp .Gt) (rGtD X.K) := by
  intro pins s σ H x y v u Q I rx ry ⟨d, e, hd, he, al, nn, dp, q⟩
  obtain ⟨as, r1⟩ := Dp.reads I d x v hd rx
  obtain ⟨bs, r2⟩ := Dp.reads I e y u he ry
  exact gt_data r1 r2 al nn (by omega) ⟨.bl _, H, I, rfl, q⟩
theorem each_of {β : Type} {g : β → V} : ∀ {bs : List β} {its : List Value}, Vals (bs.map g) its → EachIs (fun v b => RelV (g b) v) its bs
  | [], _, h => by cases h; exact .nil
  | _ :: _, _, h => by
    cases h with
    | cons r t => exact .cons r (each_of t)
theorem vals_of_each {β : Type} {g : β → V} : ∀ {bs : List β} {its : List Value}, EachIs (fun v b => RelV (g b) v) its bs → Vals (bs.map g) its
  | _, _, .nil => .nil
  | _, _, .cons r t => .cons r (vals_of_each t)
theorem each_and {α β : Type} {R S : α → β → Prop} : ∀ {as : List α} {bs : List β}, EachIs R as bs → (∀ a b, b ∈ bs → R a b → S a b) → EachIs S as bs
  | _, _, .nil, _ => .nil
  | _, _, .cons r t, h => .cons (h _ _ List.mem_cons_self r) (each_and t fun a b hb => h a b (List.mem_cons_of_mem _ hb))
/-- sorted(xs) of nested data, in order: the pairs are the items and what they read as -/
def rSortedD (K : PySem.W.Frag) : List V → Hp → VK → Prop := fun vs H Q => ∃ (a : Addr) (bs : List (V × PyData)), vs = [.ref a] ∧ SqL K H a (bs.map (·.1)) ∧ (∀ b ∈ bs, Dp K H b.1 b.2) ∧ AllAlike (bs.map (·.2)) ∧ Sortable (bs.map (·.2)) ∧ (∀ b ∈ bs, b.2.depth ≤ 32) ∧
  ∀ p, H p = none → Q (.ref p) (upd H p (.lst ((bs.mergeSort (dataLe false (·.2))).map (·.1))))
theorem cr_sortedD (hu : X.A.units + 64 < cLine) : CallR X (.builtin "sorted") (rSortedD X.K) := by
  intro pins s σ H vs us Q I r ⟨a, bs, ev, hs, hd, al, so, dp, q⟩
  subst ev
  obtain ⟨its, rv, hl, hz⟩ := I.list hs
  rw [Vals.ref1 r]
  have e := each_of (g := fun b : V × PyData => b.1) rv
  have hzb : bs.length ≤ sizeLine := by rw [List.length_map] at hz; exact hz
  refine sorted_data (R := fun v (b : V × PyData) => RelV b.1 v) (enc := fun b => b.2) hl.isList e (each_and e fun v b hb rr => Dp.reads I b.2 b.1 v (hd b hb) rr) al so hzb (fun b hb => by have := dp b hb; omega) fun out hol ho => ?_
  obtain ⟨ep, hat⟩ := PyProof.Rows.sortedAll_at s.heap its (List.toArray out)
  have hlen : ((bs.mergeSort (dataLe false (·.2))).map (·.1)).length ≤ sizeLine := by rw [List.length_map, (List.mergeSort_perm _ _).length_eq]; exact hzb
  exact ⟨.ref _, _, I.laid (t' := s.toks) (o := .lst ((bs.mergeSort (dataLe false (·.2))).map (·.1))) (fun _ _ => PyProof.Rows.sortedAll_old) (Nat.le_succ _) ⟨hlen, out, ep, vals_of_each ho, hat⟩, rfl, q _ (I.hok.fresh (Nat.le_succ _))⟩
theorem stay_all {K : PySem.W.Frag} {mg : Str → Option Value} {base : Heap} {h1 : Heap} (M : Mod K mg base) (hb : ∀ b o, base.get? b = some o → h1.get? b = some o) : Stay K mg fun h => Kp h1 h := by
  have up : ∀ h : Heap, Kp h1 h → ∀ b o, base.get? b = some o → h.get? b = some o := fun h q b o e => q b o (hb b o e)
  refine ⟨fun h h' q k b o e => k b o (q b o e), fun h q => M.kin.keeps (up h q), fun h q => M.glob.keeps (up h q), fun h q => ?_, fun h q => M.nolimit.keeps (up h q)⟩
  obtain ⟨mb, e1, e2⟩ := M.blt
  exact ⟨mb, e1.keeps (up h q), e2⟩
theorem alike_ints {β : Type} (g : β → Int) (bs : List β) : AllAlike (bs.map fun b => PyData.int (g b)) := by
  intro d hd d' hd'
  obtain ⟨b, _, rfl⟩ := List.mem_map.mp hd
  obtain ⟨b', _, rfl⟩ := List.mem_map.mp hd'
  rfl
theorem sortable_ints {β : Type} (g : β → Int) (bs : List β) : Sortable (bs.map fun b => PyData.int (g b)) := by
  refine .inr fun d hd => ?_
  obtain ⟨b, _, rfl⟩ := List.mem_map.mp hd
  exact ⟨(fun z => nomatch z), (fun _ z => nomatch z)⟩
end

/-! ### zip of a tuple and a list; a method that sums products over it, read plainly -/
section
open PyProof.Rows
abbrev zmH1 (h : Heap) (l1 : Addr) : Heap := h.push { cls := .type "tuple_iterator", data := .fields #[.ref l1, .int 0 0] }
abbrev zmH2 (h : Heap) (l1 l2 : Addr) : Heap := (zmH1 h l1).push { cls := .type "list_iterator", data := .fields #[.ref l2, .int 0 0] }
abbrev zmH3 (h : Heap) (l1 l2 : Addr) : Heap := (zmH2 h l1 l2).push { cls := .type "tuple", data := .seq #[.ref h.objs.size, .ref (zmH1 h l1).objs.size] }
abbrev zmH4 (h : Heap) (l1 l2 : Addr) : Heap := (zmH3 h l1 l2).push { cls := .type "tuple", data := .seq #[.none, .none] }
abbrev zmH5 (h : Heap) (l1 l2 : Addr) : Heap := (zmH4 h l1 l2).push { cls := .type "zip", data := .fields #[.none, .bool false, .bool false, .ref (zmH2 h l1 l2).objs.size, .ref (zmH3 h l1 l2).objs.size] }
theorem meets_zipTL (l1 l2 : Addr) (xs ys : Array Value) :
    Meets (Builtin.«zip.__new__» ⟨[.type "zip", .ref l1, .ref l2], []⟩) (fun _ R s => s.heap.IsTuple l1 xs ∧ s.heap.IsList l2 ys ∧ R (.ok (.ret (.ref (zmH4 s.heap l1 l2).objs.size))) { s with heap := zmH5 s.heap l1 l2 }) :=
  .of_wp fun prog w A R s h => by
    obtain ⟨hp, g, d, tk, os⟩ := s
    obtain ⟨q1, q2, h⟩ := h
    have f0 := sub_zip
    have a1 : Heap.IsTuple (Shared.heap ⟨hp, g, d, tk, os⟩) l1 xs := q1
    have a2 : Heap.IsList (Shared.heap ⟨hp.push { cls := .type "tuple_iterator", data := .fields #[.ref l1, .int 0 0] }, g, d, tk, os⟩) l2 ys := Heap.IsList.push q2 _
    wp_walk using wpAny_pyIter_tuple a1, wpAny_pyIter_list a2
    exact ⟨_, rfl, h⟩
variable {prog : Program} {w : World} {A : Around} {E : Value → Shared → Prop} {s : Shared}
theorem call_zipTL {l1 l2 : Addr} {xs ys : Array Value} {Q : Value → Shared → Prop} (q1 : s.heap.IsTuple l1 xs) (q2 : s.heap.IsList l2 ys)
    (h : ∀ h', IsZip h' (s.heap.objs.size + 4) (s.heap.objs.size + 2) (s.heap.objs.size + 3) .none → IsTupOf2 h' (s.heap.objs.size + 2) (.ref s.heap.objs.size) (.ref (s.heap.objs.size + 1)) → IsTupOf2 h' (s.heap.objs.size + 3) .none .none →
      h'.IsTupleIter s.heap.objs.size l1 0 → h'.IsListIter (s.heap.objs.size + 1) l2 0 → h'.objs.size = s.heap.objs.size + 5 → Kp s.heap h' → Q (.ref (s.heap.objs.size + 4)) { s with heap := h' }) :
    wpAny (model prog w) A (call (.type "zip") [.ref l1, .ref l2]) Q E s := by
  refine callType_new F.called_zip (by decide) (F.typeCall_zip_2 _ _) (F.newCall_zip_2 _ _) (fun obj => F.args_object_init_3 obj _ _) F.entry_zip_new (meets_zipTL l1 l2 xs ys) ⟨q1, q2, ?_⟩
  have z1 : (zmH1 s.heap l1).objs.size = s.heap.objs.size + 1 := Heap.size_push ..
  have z2 : (zmH2 s.heap l1 l2).objs.size = s.heap.objs.size + 2 := by rw [Heap.size_push, z1]
  have z3 : (zmH3 s.heap l1 l2).objs.size = s.heap.objs.size + 3 := by rw [Heap.size_push, z2]
  have z4 : (zmH4 s.heap l1 l2).objs.size = s.heap.objs.size + 4 := by rw [Heap.size_push, z3]
  have z5 : (zmH5 s.heap l1 l2).objs.size = s.heap.objs.size + 5 := by rw [Heap.size_push, z4]
  have g5 : (zmH5 s.heap l1 l2).get? (zmH4 s.heap l1 l2).objs.size = some _ := Heap.get?_push_size _ rfl
  have g4 : (zmH5 s.heap l1 l2).get? (zmH3 s.heap l1 l2).objs.size = some _ := Heap.get?_push_of_some _ (Heap.get?_push_size _ rfl)
  have g3 : (zmH5 s.heap l1 l2).get? (zmH2 s.heap l1 l2).objs.size = some _ := Heap.get?_push_of_some _ (Heap.get?_push_of_some _ (Heap.get?_push_size _ rfl))
  have g2 : (zmH5 s.heap l1 l2).get? (zmH1 s.heap l1).objs.size = some _ := Heap.get?_push_of_some _ (Heap.get?_push_of_some _ (Heap.get?_push_of_some _ (Heap.get?_push_size _ rfl)))
  have g1 : (zmH5 s.heap l1 l2).get? s.heap.objs.size = some _ := Heap.get?_push_of_some _ (Heap.get?_push_of_some _ (Heap.get?_push_of_some _ (Heap.get?_push_of_some _ (Heap.get?_push_size _ rfl))))
  show _ ∧ _
  rw [z2, z3, z4] at g5
  rw [z3] at g4
  rw [z1, z2] at g3
  rw [z1] at g2
  have hQ := h (zmH5 s.heap l1 l2) g5 g3 g4 ⟨_, g1, rfl, rfl⟩ ⟨_, g2, rfl, rfl⟩ z5 fun c o e => Heap.get?_push_of_some _ (Heap.get?_push_of_some _ (Heap.get?_push_of_some _ (Heap.get?_push_of_some _ (Heap.get?_push_of_some _ e))))
  rw [← z4] at hQ
  exact ⟨⟨_, Heap.get?_push_size _ rfl, rfl⟩, hQ⟩
/-- the cells of a zip over a tuple and a list, made now -/
theorem zip_sep {n : Nat} {l1 l2 : Addr} (a1 : l1 < n) (a2 : l2 < n) : ZipSep2 (n + 4) (n + 2) (n + 3) n (n + 1) [n, l1] [n + 1, l2] := by
  have nn : ∀ i j : Nat, i ≠ j → (n : Nat) + i ≠ n + j := fun i j q => by omega
  have ne1 : ∀ j : Nat, n + j ≠ l1 := fun j z => by
    have q : (l1 : Nat) < n := a1
    rw [← z] at q
    exact Nat.lt_irrefl _ (Nat.lt_of_le_of_lt (Nat.le_add_right _ _) q)
  have ne2 : ∀ j : Nat, n + j ≠ l2 := fun j z => by
    have q : (l2 : Nat) < n := a2
    rw [← z] at q
    exact Nat.lt_irrefl _ (Nat.lt_of_le_of_lt (Nat.le_add_right _ _) q)
  have m2 : ∀ {q r t : Addr}, q ≠ r → q ≠ t → q ∉ [r, t] := fun {q r t} z1 z2 z => by
    have z' : q = r ∨ q = t := by simpa using z
    rcases z' with z' | z'
    · exact z1 z'
    · exact z2 z'
  exact ⟨nn 2 4 (by decide), nn 3 4 (by decide), nn 2 3 (by decide), nn 2 0 (by decide), List.mem_cons_self, m2 (nn 4 0 (by decide)) (ne1 4), m2 (nn 3 0 (by decide)) (ne1 3), nn 2 1 (by decide), List.mem_cons_self, m2 (nn 4 1 (by decide)) (ne2 4), m2 (nn 3 1 (by decide)) (ne2 3),
    m2 (nn 0 1 (by decide)) (ne2 0), m2 (nn 1 0 (by decide)) (ne1 1)⟩
end

/-- the sum of the products, place by place, up to the shorter -/
def dotZ : List Int → List Int → Int
  | x :: xs, y :: ys => x * y + dotZ xs ys
  | _, _ => 0
theorem dot_take : ∀ (i : Nat) (xs ys : List Int) (x y : Int), xs[i]? = some x → ys[i]? = some y → dotZ (xs.take (i + 1)) (ys.take (i + 1)) = dotZ (xs.take i) (ys.take i) + x * y
  | 0, x0 :: xs, y0 :: ys, x, y, h1, h2 => by
    simp at h1 h2
    subst h1 h2
    simp [dotZ]
  | i + 1, x0 :: xs, y0 :: ys, x, y, h1, h2 => by
    have := dot_take i xs ys x y (by simpa using h1) (by simpa using h2)
    simp only [List.take_succ_cons, dotZ, this]
    omega
  | _, [], _, _, _, h1, _ => by simp at h1
  | _, _ :: _, [], _, _, _, h2 => by simp at h2
theorem dot_take_all (xs ys : List Int) (n : Nat) (h : n = min xs.length ys.length) : dotZ (xs.take n) (ys.take n) = dotZ xs ys := by
  subst h
  have go : ∀ (xs ys : List Int), dotZ (xs.take (min xs.length ys.length)) (ys.take (min xs.length ys.length)) = dotZ xs ys := by
    intro xs
    induction xs with
    | nil => intro ys; simp [dotZ]
    | cons x xs ih =>
      intro ys
      cases ys with
      | nil => simp [dotZ]
      | cons y ys =>
        have e : min (x :: xs).length (y :: ys).length = min xs.length ys.length + 1 := by simp only [List.length_cons]; omega
        rw [e]
        simp only [List.take_succ_cons, dotZ, ih]
  exact go xs ys
section
variable {P : Program} {w : World} {K : PySem.W.Frag} {mg : Str → Option Value} {Φ : Heap → Prop} {D U : Nat}
/-- def code(self, m): total = 0; for e, u in zip(m, self.units): total += e * u; return total -/
theorem pf_dot {x qual at_ vm vt ve vu : Str} {st : Stmt} {f a M L dx C : Addr} {fd : FuncData} {N ps : List Str} {p1 p2 p3 p4 p5 p6 p7 p8 p9 p10 p11 p12 p13 p14 p15 p16 p17 p18 p19 : Pos} {j1 kt : Nat} {vself : Str} {ms uss : List Int}
    (F : Fun K x qual st f fd) (S : FnScope N ps (defScope st)) (Sx : Stay K mg Φ) (hps : ps = [vself, vm])
    (hbody : defBody st = [.Assign [.Name vt p1] (.Constant (.int 0) j1 p2) p3,
      .For (.Tuple [.Name ve p4, .Name vu p5] kt p6) (.Call (.Name "zip" p7) [.Name vm p8, .Attribute (.Name vself p9) at_ p10] [] p11) [.AugAssign (.Name vt p12) .Add (.BinOp (.Name ve p13) .Mult (.Name vu p14) p15) p16] [] p17, .Return (some (.Name vt p18)) p19])
    (hk : ∀ y ∈ [vself, vm, vt, ve, vu], (defScope st).names.lookup y = some .local) (hnd : [vself, vm, vt, ve, vu].Nodup) (hz : (defScope st).names.lookup ("zip" : Str) = some .globalImplicit) (hmz : mg "zip" = none)
    (hdb : ∀ y ∈ [vself, vm, vt, ve, vu], (y == ("__debug__" : Str)) = false) (hD : D + 8 < recursionLimit) (hU : U + 64 < cLine)
    (cl : Cls K C) (na : NoAttr K C at_)
    (hself : ∀ h, Φ h → ∃ mA t, ObjM h a dx C mA ∧ mA at_ = some (.ref t) ∧ t = L)
    (hM : ∀ h, Φ h → ∃ its : List Value, h.IsTuple M its.toArray ∧ PyProof.Rows.IntsAre its ms) (hL : ∀ h, Φ h → ∃ its : List Value, h.IsList L its.toArray ∧ PyProof.Rows.IntsAre its uss)
    (hw : ∀ (i : Nat) (x y : Int), ms[i]? = some x → uss[i]? = some y → CMulW x y) : PuG P w Φ D U f fd ps [.ref a, .ref M] (fun y => ∃ t, y = .int (dotZ ms uss) t) := by
  intro A s args hbb h1 h2 h3 hφ
  obtain ⟨oc, od, kV, doc, pm, an, cdv, ct, osl, rfl, lk, hcd⟩ := F.ex
  have KX : K.In s.heap := Sx.kin _ hφ
  have lim : s.heap.NoLimit := Sx.lim _ hφ
  have hus : ([Value.ref a, Value.ref M] : List Value).length = ps.length := by rw [hps]; rfl
  have kd : ∀ y ∈ [vself, vm, vt, ve, vu], ∀ cenv : Env, cenv.scope = defScope st → cenv.kindOf y = some .local := fun y hy cenv e => by
    show cenv.scope.names.lookup y = _
    rw [e]
    exact hk y hy
  have hkind : ∀ y ∈ ps.zip [Value.ref a, Value.ref M], (defScope st).names.lookup y.1 = some .local ∨ ((defScope st).names.lookup y.1 = some .cell ∧ ((cellsFrom (s.heap.objs.size + 1) (defScope st).names []).lookup y.1).isSome = true) := fun ⟨n, v⟩ hy => by
    rcases S.par n (List.of_mem_zip hy).1 with q | q
    · exact .inl q
    · exact .inr ⟨q, PySem.W.cellsFrom_some _ _ _ (.inl q)⟩
  refine codeAny_call_function (by omega) (KX _ _ lk) rfl S.co S.gen rfl (PySem.W.codeRec_of KX hcd) (hbb _ _ _ _ ?_)
  refine wpAny_newFunctionEnv_cells S.kind hkind fun env hen s1 ic => ?_
  have hsc : env.scope = defScope st := by rw [hen]; rfl
  have hgl : env.globals = mainGlobals := by rw [hen]; rfl
  have hbl : env.builtins = builtinsNs := by rw [hen]; rfl
  have hloc : env.locals = s.heap.objs.size := by rw [hen]; rfl
  refine ⟨lim.keeps ic.toInCall.keep, codeAny_func ?_⟩
  obtain ⟨h1', tk, rfl, hkp⟩ := ic.done
  show wpAny _ _ (execs (defBody st) _) _ _ _
  rw [hbody]
  have m0 : (bindL env.kindOf (ps.zip [Value.ref a, Value.ref M]) fun _ => none) vself = some (.ref a) ∧ (bindL env.kindOf (ps.zip [Value.ref a, Value.ref M]) fun _ => none) vm = some (.ref M) := by
    have nd2 : ps.Nodup := by rw [hps]; exact hnd.sublist (by simp)
    exact ⟨bindL_get (i := 0) nd2 (by rw [hps]; rfl) rfl (kd _ (by simp) env hsc), bindL_get (i := 1) nd2 (by rw [hps]; rfl) rfl (kd _ (by simp) env hsc)⟩
  obtain ⟨m, hm⟩ : ∃ m : Str → Option Value, m = bindL env.kindOf (ps.zip [Value.ref a, Value.ref M]) fun _ => none := ⟨_, rfl⟩
  have hns : h1'.Ns env.locals m := by rw [hm]; exact ic.toInCall.ns
  rw [← hm] at m0
  have F0 : PyProof.Rows.Fr s.heap env.locals h1' m := ⟨hns, hkp, by rw [hloc]; exact Nat.le_refl _⟩
  have ck : (env.scope.kind == .class || (env.scope.kind == .module && env.locals != env.globals)) = false := by rw [hsc, S.kind]; rfl
  have ek : env.scope.kind = .function := by rw [hsc]; exact S.kind
  have ne : ∀ {y z : Str}, y ≠ z → (if z = y then (none : Option Value) else none) = none := fun _ => by split <;> rfl
  have nt : vself ≠ vt ∧ vm ≠ vt ∧ ve ≠ vt ∧ vu ≠ vt ∧ ve ≠ vu ∧ vself ≠ ve ∧ vself ≠ vu ∧ vm ≠ ve ∧ vm ≠ vu := by
    simp only [List.nodup_cons, List.mem_cons, not_or, List.not_mem_nil, not_false_eq_true, and_true, List.nodup_nil] at hnd
    exact ⟨hnd.1.2.1, hnd.2.1.1, fun z => hnd.2.2.1.1 z.symm, fun z => hnd.2.2.1.2 z.symm, hnd.2.2.2, hnd.1.2.2.1, hnd.1.2.2.2, hnd.2.1.2.1, hnd.2.1.2.2⟩
  -- total = 0
  refine wpAny_mono (Q := fun f s' => ∃ t, f = .ret (.int (dotZ ms uss) t) ∧ Keeps s s') (E := fun _ _ => False) ?_ (fun f s' q => ?_) (fun _ _ z => z.elim)
  case refine_2 =>
    obtain ⟨t, rfl, q⟩ := q
    exact ⟨⟨t, rfl⟩, q⟩
  refine wpAny_execs_cons (wpAny_Assign_Name (wpAny_Constant_int (wpAny_storeName_local (kd _ (by simp) env hsc) hns (fun h2 hn2 hs2 => ?_) ck)) rfl)
  have F2 := F0.set hn2 hs2
  have hφ2 : Φ h2 := Sx.up _ _ hφ F2.keep
  have hg2 : h2.Ns mainGlobals mg := Sx.glob _ hφ2
  obtain ⟨mb, b1, b2⟩ := Sx.blt _ hφ2
  have e0 : ∀ tk', ({ s with heap := h2, toks := tk' } : Shared).heap = h2 := fun _ => rfl
  refine wpAny_execs_cons (wpAny_mono (Q := fun f s' => f = .next ∧ ∃ h3 tk3 m3 t3, s' = { s with heap := h3, toks := tk3 } ∧ PyProof.Rows.Fr s.heap env.locals h3 m3 ∧ m3 vt = some (.int (dotZ ms uss) t3)) (E := fun _ _ => False) ?loop (fun f s' q => ?after) (fun _ _ z => z.elim))
  case after =>
    obtain ⟨rfl, h3, tk3, m3, t3, rfl, F3, hv3⟩ := q
    refine wpAny_execs_cons (wpAny_Return_some (wpAny_Name (wpAny_loadName_local ek (kd _ (by simp) env hsc) F3.ns hv3 ?_) (hdb _ (by simp))))
    exact ⟨t3, rfl, h3, tk3, rfl, F3.keep⟩
  case loop =>
    refine PySem.W.For_turns F2 ?_ (hE := PassesOwn.never)
    refine PyProof.Rows.Call_ (Calls.Name_function_global ek (by show env.scope.names.lookup _ = _; rw [hsc]; exact hz) (Calls.loadGlobal_builtin (by rw [hgl]; exact hg2) hmz (by rw [hbl]; exact b1) ((b2 _ (by decide)).trans PyProof.Rows.boot_zip) (PyProof.Rows.callWith_type1 ?_ rfl rfl)))
    show wpAny _ _ (spliced ((false, eval (.Name vm p8) env) :: backTo p11 (starEach [.Attribute (.Name vself p9) at_ p10] env))) _ _ _
    have n2 : ∀ y, y ≠ vt → (fun y => if y = vt then some (Value.int 0 s.toks) else m y) y = m y := fun y q => if_neg q
    refine Calls.spliced_cons (wpAny_Name (wpAny_loadName_local ek (kd _ (by simp) env hsc) hn2 (v := .ref M) ?v1 ?_) (hdb _ (by simp)))
    case v1 => first | exact (if_neg nt.2.1).trans m0.2 | simp [nt.2.1, m0.2]
    refine Calls.spliced_cons (attr_of rfl (wpAny_Name (wpAny_loadName_local ek (kd _ (by simp) env hsc) hn2 (v := .ref a) ?v2 ?_) (hdb _ (by simp))))
    case v2 => first | exact (if_neg nt.1).trans m0.1 | simp [nt.1, m0.1]
    obtain ⟨mA, tL, O, hmA, rfl⟩ := hself _ hφ2
    refine get_map (Sx.kin _ hφ2) O (cl.get _) cl.hd na hmA (handed_of (v := .ref tL) rfl) ?_
    refine Calls.spliced_nil ?_
    obtain ⟨itm, hitm, hims⟩ := hM _ hφ2
    obtain ⟨itl, hitl, hils⟩ := hL _ hφ2
    refine call_zipTL hitm hitl fun h4 z1 z2 z3 z4 z5 z6 k4 => wpAny_pyIter_zip z1 ?_
    have F4 : PyProof.Rows.Fr s.heap env.locals h4 _ := F2.keeps k4
    have lM : M < h2.objs.size := by obtain ⟨o, e, _⟩ := hitm; exact Heap.lt_size e
    have lL : tL < h2.objs.size := by obtain ⟨o, e, _⟩ := hitl; exact Heap.lt_size e
    have lenv : env.locals < h2.objs.size := F2.ns.lt
    have hge : ∀ j : Nat, s.heap.get? (h2.objs.size + j) = none := fun j => Heap.get?_none_of_le (Nat.le_trans F2.above (Nat.le_trans (Nat.le_of_lt lenv) (Nat.le_add_right _ j)))
    have hen4 : ∀ j : Nat, env.locals ≠ h2.objs.size + j := fun j z => by
      have q : (env.locals : Nat) < h2.objs.size := lenv
      rw [z] at q
      exact Nat.lt_irrefl _ (Nat.lt_of_le_of_lt (Nat.le_add_right _ _) q)
    have hnM : env.locals ≠ M := fun z => by
      obtain ⟨o, e1, e2, e3⟩ := hM _ hφ |>.choose_spec.1
      have q := Heap.lt_size e1
      rw [← z, hloc] at q
      exact Nat.lt_irrefl _ q
    have hnL : env.locals ≠ tL := fun z => by
      obtain ⟨o, e1, e2, e3⟩ := hL _ hφ |>.choose_spec.1
      have q := Heap.lt_size e1
      rw [← z, hloc] at q
      exact Nat.lt_irrefl _ q
    have W := PySem.W.KTurns.ofWalksU (elts := [.Name ve p4, .Name vu p5]) (k := kt) (pos := p6) (WalksT.zipD2 (prog := P) (w := w) (A := A.deeper env) (zip_sep lM lL) (Draws.tuple (A := (A.deeper env).in1) h1 _ _ (Nat.ne_of_lt lM) itm.toArray) (Draws.list (A := (A.deeper env).in1) h1 _ _ (Nat.ne_of_lt (Nat.lt_succ_of_lt lL)) itl.toArray)).toU
    refine ⟨h2.objs.size + 4, _, _, _, _, _, _, _, [], fun i m' n' => n' = [] ∧ ∃ t, m' vt = some (.int (dotZ (ms.take i) (uss.take i)) t), rfl, W, ?_, ?_, (fun _ hp => nomatch hp), ?_, F4, PyProof.Rows.News.nil, ⟨rfl, tk, ?_⟩, ?_, ?_⟩
    · intro hh
      have hh' : env.locals = h2.objs.size + 4 ∨ env.locals = h2.objs.size + 2 ∨ env.locals = h2.objs.size + 3 ∨ env.locals = h2.objs.size ∨ env.locals = M ∨ env.locals = h2.objs.size + 1 ∨ env.locals = tL := by simpa using hh
      rcases hh' with z | z | z | z | z | z | z
      · exact hen4 4 z
      · exact hen4 2 z
      · exact hen4 3 z
      · exact hen4 0 z
      · exact hnM z
      · exact hen4 1 z
      · exact hnL z
    · intro b hb'
      have hh' : b = h2.objs.size + 4 ∨ b = h2.objs.size + 3 ∨ b = h2.objs.size ∨ b = h2.objs.size + 1 := by simpa using hb'
      rcases hh' with z | z | z | z
      · rw [z]; exact hge 4
      · rw [z]; exact hge 3
      · rw [z]; exact hge 0
      · rw [z]; exact hge 1
    · exact ⟨z1, z2, ⟨_, _, z3⟩, ⟨z4, hitm.at fun o e => k4 _ o e⟩, ⟨z5, hitl.at fun o e => k4 _ o e⟩⟩
    · simp [dotZ]
    · rintro i v m1 n1 h5 tk5 own hi ⟨T, vals, rfl, ⟨x1, x2, hx1, hx2, rfl⟩, hT⟩ ⟨rfl, t1, hv1⟩ - hown1 hown2 hown3 st5 F5 N5
      have hx1' : itm[i]? = some x1 := by simpa using hx1
      have hx2' : itl[i]? = some x2 := by simpa using hx2
      have li : i < ms.length := by rw [← hims.length]; exact (List.getElem?_eq_some_iff.mp hx1').1
      have li2 : i < uss.length := by rw [← hils.length]; exact (List.getElem?_eq_some_iff.mp hx2').1
      obtain ⟨q1, e1⟩ := hims.get i _ (List.getElem?_eq_getElem li)
      obtain ⟨q2, e2⟩ := hils.get i _ (List.getElem?_eq_getElem li2)
      rw [hx1'] at e1
      rw [hx2'] at e2
      cases e1
      cases e2
      refine wpAny_assign_Tuple (s := { s with heap := h5, toks := tk5 }) h1 hT rfl rfl fun h6 hx6 => ?_
      have old6 : Kp h5 h6 := fun b o e => hx6 b o (Nat.ne_of_lt (Heap.lt_size e)) e
      have F6 := F5.keeps old6
      show wpAny _ _ (do holding [Value.int uss[i] q2] (assign (.Name ve p4) env (Value.int ms[i] q1)); do holding [] (assign (.Name vu p5) env (Value.int uss[i] q2)); pure ()) _ _ _
      refine wpAny_bind (wpAny_holding (wpAny_assign_Name (wpAny_storeName_local (kd _ (by simp) env hsc) F6.ns (fun h7 hn7 hs7 => ?_) ck)))
      have F7 := F6.set hn7 hs7
      refine wpAny_bind (wpAny_holding (wpAny_assign_Name (wpAny_storeName_local (kd _ (by simp) env hsc) hn7 (fun h8 hn8 hs8 => wpAny_pure ?_) ck)))
      have F8 := F7.set hn8 hs8
      have gv : ∀ (y : Str) (g : Str → Option Value), (fun x => if x = vu then some (Value.int uss[i] q2) else if x = ve then some (Value.int ms[i] q1) else g x) y = if y = vu then some (Value.int uss[i] q2) else if y = ve then some (Value.int ms[i] q1) else g y := fun _ _ => rfl
      refine wpAny_execs_cons (wpAny_AugAssign_Name (wpAny_loadName_local ek (kd _ (by simp) env hsc) hn8 (v := .int (dotZ (ms.take i) (uss.take i)) t1) ?w1 ?_))
      case w1 => simp [nt.2.2.1.symm, nt.2.2.2.1.symm, hv1]
      refine wpAny_BinOp (wpAny_Name (wpAny_loadName_local ek (kd _ (by simp) env hsc) hn8 (v := .int ms[i] q1) ?w2 ?_) (hdb _ (by simp)))
      case w2 => simp [nt.2.2.2.2.1]
      refine wpAny_Name (wpAny_loadName_local ek (kd _ (by simp) env hsc) hn8 (v := .int uss[i] q2) ?w3 ?_) (hdb _ (by simp))
      case w3 => simp
      refine PyProof.Rows.mul_int ?_ (hw i _ _ (List.getElem?_eq_getElem li) (List.getElem?_eq_getElem li2)).ok
      refine PyProof.Rows.iadd_int ?_
      refine wpAny_storeName_local (kd _ (by simp) env hsc) hn8 (fun h9 hn9 hs9 => ?_) ck
      have F9 := F8.set hn9 hs9
      refine wpAny_execs_nil ?_
      refine PyProof.Rows.LoopStepU.intro F9 (fun p hp => ?_) (fun p hp => absurd hp (by simp)) ⟨rfl, ?_⟩
      · have hp' : p ∈ own := by simpa using hp
        have q5 := N5 p (by simpa using hp')
        refine ⟨?_, q5.2⟩
        exact (hs9.2 _ q5.2.1).trans ((hs8.2 _ q5.2.1).trans ((hs7.2 _ q5.2.1).trans (old6 _ _ q5.1)))
      · apply Exists.intro
        rw [dot_take i ms uss _ _ (List.getElem?_eq_getElem li) (List.getElem?_eq_getElem li2)]
        exact if_pos rfl
    · rintro h5 tk5 m5 n5 F5 N5 - ⟨-, t5, hv5⟩
      refine ⟨rfl, h5, tk5, m5, t5, rfl, F5, ?_⟩
      rw [hv5]
      congr 2
      refine dot_take_all ms uss _ ?_
      rw [List.size_toArray, List.size_toArray, hims.length, hils.length]
end

/-! ### lambdas without parameters, made and called in one def -/
section
open PySem.Spec PyProof.Rows LamX NdefX
def LamO (f : Addr) (q : Str) (params : Arguments) (body : Expr) (scope : Scope) (cl : List (Str × Addr)) (c' : Addr) : HO :=
  .ext fun h => ∃ pm ctv, h.get? f = some (PySem.W.kla_obj "<lambda>" q params body scope cl pm c' ctv)
variable {X : Cx} {pins : List (Addr × Obj)} {σ : L2.St} {H : Hp} {s : Shared}
theorem inv_lam {q : Str} {params : Arguments} {body : Expr} {scope : Scope} {cl : List (Str × Addr)} {c' : Addr} {pm ctv : Value} {t' : Nat} (I : L2.Inv X pins σ H s) :
    L2.Inv X pins σ (upd H s.heap.objs.size (LamO s.heap.objs.size q params body scope cl c')) { s with heap := s.heap.push (PySem.W.kla_obj "<lambda>" q params body scope cl pm c' ctv), toks := t' } := by
  refine I.laid (a := s.heap.objs.size) (fun b u e => Heap.get?_push_of_some _ e) (Nat.le_refl _) ?_
  have e : (s.heap.push (PySem.W.kla_obj "<lambda>" q params body scope cl pm c' ctv)).get? s.heap.objs.size = some (PySem.W.kla_obj "<lambda>" q params body scope cl pm c' ctv) := Heap.get?_push_size _ rfl
  exact ⟨⟨pm, ctv, e⟩, ⟨_, e⟩, fun h1 h2 ⟨p, t, z⟩ st => ⟨p, t, st _ z⟩⟩
theorem lam_makeT {T : List (Addr × Str)} {c P : Addr} {params : Arguments} {body : Expr} {scope : Scope} {pos : Pos} {E : Value → Shared → Prop} {Q : Value → Shared → Prop} (I : L2.Inv X pins σ H s) (TB : TabB X.base X.mg c P) (hcode : X.env.code = .ref c)
    (hm : (P, X.env.qual ++ "<lambda>") ∈ T) (hu : ∀ p ∈ T, p.1 = P → p.2 = X.env.qual ++ "<lambda>") (hT : Tabs T H) (hdef : defaultsOf params X.env = ([], [])) (hfree : ∀ y ∈ scope.names, y.2 = .free → ∃ c, X.env.cells.lookup y.1 = some c)
    (h : ∀ (f c' : Addr) (H1 : Hp) (s' : Shared), L2.Inv X pins σ H1 s' → ExtN H H1 → (∀ b, H1 b = Option.none → H b = Option.none) → Tabs T H1 → H f = Option.none → H1 f = some (LamO f (X.env.qual ++ "<lambda>") params body scope (cloFrom X.env.cells scope.names []) c') → H1 c' = some (CodeO c' (X.env.qual ++ "<lambda>")) → (∀ b o, b ≠ P → H b = some o → H1 b = some o) → Q (.ref f) s') :
    wpAny (model X.prog X.w) X.A (eval (.Lambda params body scope pos) X.env) Q E s := by
  obtain ⟨ps, hP, ht, ha⟩ := hT _ hm
  refine PySem.W.kla_eval hdef ?_
  have bP : s.heap.BuiltinsAt X.mg P := TB.bm.keeps I.bk
  have hP' : s.heap.get? P = some { cls := .none, data := .fields ps } := I.hok P _ hP
  cases hc : codeAmong pos ps.toList with
  | none =>
    refine PySem.W.kla_makeFunction (mg := X.mg) (c := c) (P := P) (ps := ps) (closure_ok hfree) I.ok.glob (I.mod.glob.keeps I.bk) hcode (TB.code.keeps I.bk) hP' ht hc TB.gP bP fun c' ctv h' tk hx hge hlt hrec htb => ?_
    obtain ⟨c2, oc, vs, t, e2, hoc, hd, hv⟩ := hrec
    cases e2
    have nC : H c' = Option.none := I.hok.fresh hge
    have I1 := inv_table (t' := tk) (more := #[rawInt pos.line, rawInt pos.col, .ref c']) (h' := h') I hP (fun b o hb e => hx b o hb e) htb hge ⟨oc, vs, t, hoc, hd, hv⟩
    have hE : ExtN H (upd (upd H P (.tbl (ps ++ #[rawInt pos.line, rawInt pos.col, .ref c']))) c' (CodeO c' (X.env.qual ++ "<lambda>"))) := fun b o e n => by
      rw [upd_ne (ne_of_none e nC), upd_ne (fun z => n ps (Option.some.inj (e.symm.trans (by rw [z]; exact hP))))]
      exact e
    have eL : (ps ++ #[rawInt pos.line, rawInt pos.col, .ref c']).toList = ps.toList ++ [rawInt pos.line, rawInt pos.col, .ref c'] := by simp
    have T1 : Tabs T (upd (upd H P (.tbl (ps ++ #[rawInt pos.line, rawInt pos.col, .ref c']))) c' (CodeO c' (X.env.qual ++ "<lambda>"))) := fun p hp => by
      by_cases hb : p.1 = P
      · rw [hu p hp hb, hb]
        refine ⟨_, by rw [upd_ne (ne_of_none hP nC), upd_same], by rw [eL]; exact PySem.TriplesOk_snoc _ _ _ _ ht, fun p' cv hcv => ?_⟩
        rw [eL] at hcv
        rcases among_app _ ht hcv with z | z
        · obtain ⟨c0, e1, e2⟩ := ha p' cv z
          exact ⟨c0, e1, hE _ _ e2 codeO_ne⟩
        · exact ⟨c', z, upd_same⟩
      · obtain ⟨ps', a1, a2, a3⟩ := hT p hp
        refine ⟨ps', by rw [upd_ne (ne_of_none a1 nC), upd_ne hb]; exact a1, a2, fun p' cv hcv => ?_⟩
        obtain ⟨c0, e1, e2⟩ := a3 p' cv hcv
        exact ⟨c0, e1, hE _ _ e2 codeO_ne⟩
    have nF := I1.hok.fresh (Nat.le_refl _)
    have I2 := inv_lam (q := X.env.qual ++ "<lambda>") (params := params) (body := body) (scope := scope) (cl := cloFrom X.env.cells scope.names []) (c' := c') (pm := (X.mg "__name__").getD .none) (ctv := ctv) (t' := tk) I1
    refine h h'.objs.size c' _ _ I2 (fun b o e n => ?_) (fun b e => upd_none (upd_none (upd_none e))) (T1.ext fun b o e => ?_) (I.hok.fresh (Nat.le_trans hge (Nat.le_of_lt hlt))) upd_same ?_ (fun b o nb e => ?_)
    · have e1 := hE b o e n
      exact (upd_ne (ne_of_none e1 nF)).trans e1
    · exact (upd_ne (ne_of_none e nF)).trans e
    · exact (upd_ne (Nat.ne_of_lt hlt)).trans upd_same
    · have q1 : (upd (upd H P (.tbl (ps ++ #[rawInt pos.line, rawInt pos.col, .ref c']))) c' (CodeO c' (X.env.qual ++ "<lambda>"))) b = some o := by
        rw [upd_ne (ne_of_none e nC), upd_ne nb]
        exact e
      exact (upd_ne (ne_of_none q1 nF)).trans q1
  | some cv =>
    obtain ⟨c', e, hco⟩ := ha pos cv hc
    subst e
    refine PySem.W.kla_makeFunctionHit (mg := X.mg) (c := c) (P := P) (ps := ps) (closure_ok hfree) I.ok.glob (I.mod.glob.keeps I.bk) hcode (TB.code.keeps I.bk) hP' ht hc bP fun ctv h' tk hx hsz => ?_
    have I1 : L2.Inv X pins σ H { s with heap := h', toks := tk } := I.kept hx
    have nF : H h'.objs.size = Option.none := I1.hok.fresh (Nat.le_refl _)
    have I2 := inv_lam (q := X.env.qual ++ "<lambda>") (params := params) (body := body) (scope := scope) (cl := cloFrom X.env.cells scope.names []) (c' := c') (pm := (X.mg "__name__").getD .none) (ctv := ctv) (t' := tk) I1
    refine h h'.objs.size c' _ _ I2 (fun b o e n => ?_) (fun b e => upd_none e) (hT.ext fun b o e => ?_) nF upd_same ?_ (fun b o _ e => (upd_ne (ne_of_none e nF)).trans e)
    · exact (upd_ne (ne_of_none e nF)).trans e
    · exact (upd_ne (ne_of_none e nF)).trans e
    · exact (upd_ne (ne_of_none hco nF)).trans hco
/-- the reading of a lambda: a new function object, known with its code object -/
def tLam (T : List (Addr × Str)) (q : Str) (params : Arguments) (body : Expr) (scope : Scope) (cl : List (Str × Addr)) : TE := fun _ H Q =>
  Tabs T H ∧ ∀ (f c' : Addr) (H1 : Hp), ExtN H H1 → (∀ b, H1 b = Option.none → H b = Option.none) → Tabs T H1 → H f = Option.none → H1 f = some (LamO f q params body scope cl c') → H1 c' = some (CodeO c' q) → Q (.ref f) H1
theorem pe_lam {T : List (Addr × Str)} {c P : Addr} {params : Arguments} {body : Expr} {scope : Scope} {pos : Pos} (TB : TabB X.base X.mg c P) (hcode : X.env.code = .ref c) (hm : (P, X.env.qual ++ "<lambda>") ∈ T)
    (hu : ∀ p ∈ T, p.1 = P → p.2 = X.env.qual ++ "<lambda>") (L : LamS X.env.scope scope) (hdef : defaultsOf params X.env = ([], []) := by rfl) :
    PE X (.Lambda params body scope pos) (tLam T (X.env.qual ++ "<lambda>") params body scope (cloFrom X.env.cells scope.names [])) := by
  refine ⟨fun pins s σ H Q I h => ?_⟩
  obtain ⟨hT, h⟩ := h
  exact lam_makeT I TB hcode hm hu hT hdef (L.has I.ok) fun f c' H1 s' I1 eN nn T1 f0 f1 c1 _ => ⟨.ref f, H1, I1, rfl, h f c' H1 eN nn T1 f0 f1 c1⟩
/-- fe(), fe an expression that gives such a lambda of the very def -/
theorem pe_callLam {params : Arguments} {body : Expr} {scope : Scope} {k : Nat} {E : L2.St → XK} {tb : XK → TE} {fe : Expr} {tf : TE} {p2 : Pos} (L : LamS X.env.scope scope) (hf : PE X fe tf)
    (hbind : ∀ c' pm ctv, bindArgs (PySem.W.kla_fn "<lambda>" (X.env.qual ++ "<lambda>") params body scope (cloFrom X.env.cells scope.names []) pm (.ref c') ctv) ⟨[], []⟩ = pure [])
    (hx : ∀ σ, PassesAt (L2.CX X.prog X.w) X σ (E σ)) (hr : Room (k + 1) X.A)
    (hbody : ∀ (E0 : XK) (A : Around) (outer : List Env) (s : Shared) (H : Hp) (f c' : Addr), Room k (A.deeper (lamEnv X scope s.heap.objs.size f c')) → PE (lamCx X A outer s H E0 scope f c') body (tb E0))
    (he : eval (fe.Call [] [] p2) X.env = (do
      let f ← eval fe X.env
      callWith p2 f [] (backTo p2 (starEach [] X.env)) (backToKw p2 (keywordEach [] X.env))) := by rfl) :
    PE X (.Call fe [] [] p2) (fun σ H Q => tf σ H fun x H1 => ∃ f c', x = .ref f ∧ H1 f = some (LamO f (X.env.qual ++ "<lambda>") params body scope (cloFrom X.env.cells scope.names []) c') ∧ H1 c' = some (CodeO c' (X.env.qual ++ "<lambda>")) ∧ tb (E σ) σ H1 Q) := by
  refine ⟨fun pins s σ H Q I h => ?_⟩
  refine PyProof.Rows.Call_ (thn (hf.run pins s σ H _ I h) fun u s1 hh => ?_) he
  obtain ⟨x, H1, I1, r1, f, c', ex, ef, ec, ht⟩ := hh
  subst ex
  obtain rfl : u = Value.ref f := r1
  obtain ⟨⟨pm, ctv, of1⟩, _, _⟩ := I1.hok f _ ef
  refine PySem.W.callWith_F0 ⟨_, _, _, _, of1⟩ ?_
  obtain ⟨⟨oc, vs, t, hoc, hdc, hvc⟩, _, _⟩ := I1.hok c' _ ec
  have rc : codeAny (model X.prog X.w) X.A (.call (.ref f) ⟨[], []⟩) (CR (L2.CX X.prog X.w) X.stack X.prog X.w H1 s1 Q (E σ)) s1 := by
    refine PySem.W.kla_callFunE hr.depth of1 rfl L.co L.gen rfl ⟨c', oc, vs, t, rfl, hoc, hdc, hvc⟩ ?_
    rw [hbind]
    refine wpAny_pure (wpAny_newFunctionEnv (fun y hy => (L.own y hy).2) (fun y hy => absurd hy (by simp)) (fun h₁ hns hsb => ⟨I1.nolimit.fresh _ hsb, ?_⟩) L.kind)
    show codeAny _ _ (.expr body (lamEnv X scope s1.heap.objs.size f c')) _ _
    have kp : ∀ b o, s1.heap.get? b = some o → h₁.get? b = some o := fun b o e => hsb.extBut b o (Nat.ne_of_lt (Heap.lt_size e)) (Heap.get?_push_of_some _ e)
    have J : L2.Inv (lamCx X X.A X.stack s1 H1 (E σ) scope f c') [] σ H1 { s1 with heap := h₁, toks := s1.toks + ([] : List (Str × Value)).length } :=
      lam_start2 I1 L I1.env0 hr.hd Un.refl hns kp
    refine PySem.W.kla_codeExpr (wpAny_mono ((hbody (E σ) _ _ s1 H1 f c' (hr.deeper _)).run [] _ _ H1 Q J ht) (fun v s' hq => ?_) fun e s' hq => hq)
    obtain ⟨w', H', J', rv, q⟩ := hq
    exact ⟨w', H', J'.os, J'.bare, J'.base, J'.hok, rv, q⟩
  refine wpAny_call (codeAny_mono rc fun r s' hq => ?_)
  cases r with
  | error e => exact hx σ pins H1 s1 e s' I1 hq
  | ok fl =>
    cases fl with
    | ret u => exact I1.after hq
    | next => exact False.elim hq
    | brk => exact False.elim hq
    | cont => exact False.elim hq
end

/-! ### sorted(xs, key=lambda m: o.f(m)), o a captured name -/
section
open PySem.Spec PyProof.Rows LamX NdefX
variable {P : Program} {w : World} {K : PySem.W.Frag} {mg : Str → Option Value} {Φ : Heap → Prop} {cenv : Env} {m : Str → Option Value} {D U : Nat}
theorem pu_free {x : Str} {u : Value} {c : Addr} {pos : Pos} (ev : PuEnv cenv) (hx : cenv.scope.names.lookup x = some .free) (hc : cenv.cells.lookup x = some c) (hv : ∀ h, Φ h → h.IsCell c (some u)) (hn : (x == ("__classdict__" : Str)) = false := by decide)
    (hd : (x == ("__debug__" : Str)) = false := by decide) : PuE P w Φ cenv m D U (.Name x pos) (· = u) :=
  fun A E s _ _ _ hf _ => wpAny_Name (wpAny_loadName_free ev.kind (show cenv.scope.names.lookup x = some .free from hx) hc (hv _ hf) ⟨rfl, keeps0 s s.toks⟩ hn) hd
/-- o.f(args) -/
theorem pu_meth {o e : Expr} {es : List Expr} {at_ : Str} {apos pos : Pos} {pl : Sem Bool} {a C g : Addr} {R : Value → Prop} {Rs : List Value → Prop} (S : Stay K mg Φ) (ho : PuE P w Φ cenv m D U o (· = .ref a)) (cl : Cls K C) (hm : Meth K C at_ g)
    (hobj : ∀ h, Φ h → ∃ dx mA, ObjM h a dx C mA ∧ mA at_ = none) (ha : PuA P w Φ cenv m D U (e :: es) Rs) (hf : ∀ us, Rs us → PuF P w Φ D U g (.ref a :: us) R)
    (he : starEach (e :: es) cenv = (false, eval e cenv) :: starEach es cenv := by rfl) (hpl : (backTo pos (starEach es cenv)).any (·.1) = false := by rfl)
    (ht : eval (.Call (.Attribute o at_ apos) (e :: es) [] pos) cenv = (do
      let ov ← eval o cenv
      standAt apos.atName
      let (fv, first) ← holding [ov] (getMethod ov at_ pl)
      callWith pos fv first (backTo pos (starEach (e :: es) cenv)) (backToKw pos (keywordEach [] cenv))) := by rfl) :
    PuE P w Φ cenv m D U (.Call (.Attribute o at_ apos) (e :: es) [] pos) R := by
  intro A E s h1 h2 h3 hφ hn
  refine PySem.W.methodCall_KW (pl := pl) (wpAny_mono (ho A E s h1 h2 h3 hφ hn) (fun u s1 r => ?_) fun _ _ z => z) ht
  obtain ⟨rfl, k1⟩ := r
  have hφ1 := S.up _ _ hφ (keepsH k1)
  obtain ⟨dx, mA, O, hno⟩ := hobj _ hφ1
  refine get_meth (S.kin _ hφ1) O (cl.get at_) hm.at_ hm.fn hno ?_
  refine PySem.W.callWith_K (first := [.ref a]) (h₀ := s1.heap) (S.kin _ hφ1) hm.kp (wpAny_mono (ha pos A E s1 h1 h2 h3 hφ1 (hn.at' fun o e => keepsH k1 _ o e)) (fun us s2 r => ?_) fun _ _ z => z) he hpl
  have hφ2 := S.up _ _ hφ1 (keepsH r.2)
  refine ⟨S.kin _ hφ2, wpAny_call (codeAny_mono (hf us r.1 A s2 h1 h2 h3 hφ2) fun rr s3 q => ?_)⟩
  cases rr with
  | error e => exact False.elim q
  | ok fl =>
    cases fl with
    | ret u => exact ⟨q.1, keepsT k1 (keepsT r.2 q.2)⟩
    | next => exact False.elim q
    | brk => exact False.elim q
    | cont => exact False.elim q
/-- a lambda of one parameter -/
theorem pf_lam1 {f c' : Addr} {q x : Str} {params : Arguments} {body : Expr} {scope : Scope} {cl : List (Str × Addr)} {u : Value} {R : Value → Prop} (S : Stay K mg Φ)
    (hf : ∀ h, Φ h → ∃ pm ctv, h.get? f = some (PySem.W.kla_obj "<lambda>" q params body scope cl pm c' ctv)) (hc : ∀ h, Φ h → ∃ (oc : Obj) (vs : Array Value) (t : Tok), h.get? c' = some oc ∧ oc.data = .fields vs ∧ vs[1]? = some (.str q t))
    (hk : scope.kind = .function) (hco : scope.isCoroutine = false) (hgen : scope.isGenerator = false) (hcell : ∀ y ∈ scope.names, y.2 ≠ .cell) (hx : scope.names.lookup x = some .local)
    (hbind : ∀ pm ctv, bindArgs (PySem.W.kla_fn "<lambda>" q params body scope cl pm (.ref c') ctv) ⟨[u], []⟩ = pure [(x, u)]) (hD : D < recursionLimit)
    (he : ∀ env : Env, PuEnv env → env.scope = scope → env.cells = cl → PuE P w Φ env (fun y => ([(x, u)] : List (Str × Value)).reverse.lookup y) (D + 1) (U + 3) body R) : PuF P w Φ D U f [u] R := by
  intro A s h1 h2 h3 hφ
  obtain ⟨pm, ctv, of1⟩ := hf _ hφ
  obtain ⟨oc, vs, t, hoc, hdc, hvc⟩ := hc _ hφ
  refine PySem.W.kla_callFunE (Nat.lt_of_le_of_lt h2 hD) of1 rfl hco hgen rfl ⟨c', oc, vs, t, rfl, hoc, hdc, hvc⟩ ?_
  rw [hbind]
  refine wpAny_pure (wpAny_newFunctionEnv hcell (fun y hy => by rw [List.mem_singleton] at hy; subst hy; exact hx) (fun h₁ hns hsb => ⟨(S.lim _ hφ).fresh _ hsb, ?_⟩) hk)
  have kp : Kp s.heap h₁ := fun b o e => hsb.extBut b o (Nat.ne_of_lt (Heap.lt_size e)) (Heap.get?_push_of_some _ e)
  refine PySem.W.kla_codeExpr (wpAny_mono (he _ ⟨hk, rfl, rfl⟩ rfl rfl _ _ { s with heap := h₁, toks := s.toks + ([(x, u)] : List (Str × Value)).length } h1 (by show A.depth + 1 ≤ D + 1; omega) (by show A.units + 3 ≤ U + 3; omega) (S.up _ _ hφ kp) hns) (fun v s' hq => ?_) fun e s' hq => hq)
  exact ⟨hq.1, keepsT ⟨h₁, _, rfl, kp⟩ hq.2⟩
variable {X : Cx}
/-- the reading of a lambda: all but its def's table stays -/
def tLamF (Pt : Addr) (T : List (Addr × Str)) (q : Str) (params : Arguments) (body : Expr) (scope : Scope) (cl : List (Str × Addr)) : TE := fun _ H Q =>
  Tabs T H ∧ ∀ (f c' : Addr) (H1 : Hp), (∀ b o, b ≠ Pt → H b = some o → H1 b = some o) → ExtN H H1 → Tabs T H1 → H1 f = some (LamO f q params body scope cl c') → H1 c' = some (CodeO c' q) → Q (.ref f) H1
theorem pe_lamF {T : List (Addr × Str)} {c Pt : Addr} {params : Arguments} {body : Expr} {scope : Scope} {pos : Pos} (TB : TabB X.base X.mg c Pt) (hcode : X.env.code = .ref c) (hm : (Pt, X.env.qual ++ "<lambda>") ∈ T)
    (hu : ∀ p ∈ T, p.1 = Pt → p.2 = X.env.qual ++ "<lambda>") (hfree : ∀ y ∈ scope.names, y.2 = .free → X.env.kindOf y.1 = some .cell ∨ X.env.kindOf y.1 = some .free) (hdef : defaultsOf params X.env = ([], []) := by rfl) :
    PE X (.Lambda params body scope pos) (tLamF Pt T (X.env.qual ++ "<lambda>") params body scope (cloFrom X.env.cells scope.names [])) := by
  refine ⟨fun pins s σ H Q I ⟨hT, h⟩ => ?_⟩
  exact lam_makeT I TB hcode hm hu hT hdef (fun y hy e => I.ok.has _ (hfree y hy e)) fun f c' H1 s' I1 eN nn T1 f0 f1 c1 kb => ⟨.ref f, H1, I1, rfl, h f c' H1 kb eN T1 f1 c1⟩
/-- the key's plain promise, in any state that the call may see -/
def KeyF (X : Cx) (σ : L2.St) (H : Hp) (f : Addr) (bs : List (V × Int)) : Prop :=
  ∀ (Φ : Heap → Prop) (pins : List (Addr × Obj)) (t1 : Shared), Stay X.K X.mg Φ → L2.Inv X pins σ H t1 → (∀ h, Φ h → Kp t1.heap h) → ∀ b ∈ bs, ∀ u, RelV b.1 u → PuF X.prog X.w Φ X.A.depth (X.A.units + 2) f [u] (fun y => ∃ t, y = .int b.2 t)
def tSortF (X : Cx) (te tl : TE) : TE := fun σ H Q => tCons te tNil σ H fun vs H1 => tCons tl tNil σ H1 fun zs H2 => ∃ (a f : Addr) (bs : List (V × Int)), vs = [.ref a] ∧ zs = [.ref f] ∧ SqL X.K H2 a (bs.map (·.1)) ∧ KeyF X σ H2 f bs ∧
  ∀ p, H2 p = none → Q (.ref p) (upd H2 p (.lst ((bs.mergeSort (PySem.W.dataLe false fun b => .int b.2)).map (·.1))))
theorem pe_sortF {e fe : Expr} {te tl : TE} {p pos kpos : Pos} {k : Nat} (hr : Room k X.A) (hg : Gl X "sorted") (hm : X.mg "sorted" = none) (hv : bootBuiltins "sorted" = some (.builtin "sorted")) (he : PE X e te) (hl : PE X fe tl)
    (q0 : starEach [e] X.env = (false, eval e X.env) :: starEach [] X.env := by rfl)
    (q1 : backTo pos (starEach [e] X.env) = (false, eval e X.env) :: backTo pos (starEach [] X.env) := by rfl) (q2 : (backTo pos (starEach [e] X.env)).any (·.1) = false := by rfl)
    (q3 : (backToKw pos (keywordEach [⟨some "key", fe, kpos⟩] X.env)).all (·.1.isSome) = true := by rfl) (q4 : (backToKw pos (keywordEach [⟨some "key", fe, kpos⟩] X.env)).any (·.1.isNone) = false := by rfl)
    (q5 : (backToKw pos (keywordEach [⟨some "key", fe, kpos⟩] X.env)).filterMap (·.1) = [Str.ofString "key"] := by rfl) :
    PE X (.Call (.Name "sorted" p) [e] [⟨some "key", fe, kpos⟩] pos) (tSortF X te tl) := by
  refine ⟨fun pins s σ H Q I h => wpAny_Call_Name_kw (ld_blt I hg hm hv ?_)⟩
  have ha := pa_cons (X := X) he pa_nil q0
  have hk := pk_cons (X := X) (nm := some "key") (kpos := kpos) hl pk_nil
  refine PyProof.Rows.callWith_kw (thn (ha.run pos pins s σ H _ I h) fun us s1 ⟨vs, H1, I1, r1, h1⟩ => thn (hk.run pos pins s1 σ H1 _ I1 h1) fun ws s2 ⟨zs, H2, I2, r2, a, f, bs, ev, ez, hs, hf, q⟩ => ?_) q1 q2 q3 q4
  rw [q5]
  subst ev ez
  obtain rfl := Vals.ref1 r1
  obtain ⟨w1, rfl, e1⟩ := vals1 r2
  obtain rfl : w1 = Value.ref f := e1
  obtain ⟨its, rv, hli, hz⟩ := I2.list hs
  have e := each_of (g := fun b : V × Int => b.1) rv
  have hzb : bs.length ≤ sizeLine := by rw [List.length_map] at hz; exact hz
  have St := stay_all (h1 := s2.heap) I2.mod fun b o q => I2.bk b o q
  refine PySem.W.sorted_key_data (R := fun v (b : V × Int) => RelV b.1 v) (b := false) (f := .ref f) (kw := [(Str.ofString "key", .ref f)]) (fun b => .int b.2) hli.isList e (alike_ints _ bs) (sortable_ints _ bs) hzb (fun b hb => ?_) (PyProof.Rows.ksk_s1 _ _) (fun _ => PyProof.Rows.ksk_l1 _ _) (fun x => PyProof.Rows.ksk_t1 _ _) (fun v b rr hb h tk hk2 => ?_) fun out c h' tk hk2 hfr hat hol ho => ?_
  · have := hr.units
    show X.A.units + 2 + (PyData.int b.2).depth < cLine
    simp only [PyData.depth]
    omega
  · refine wpAny_call (codeAny_mono (hf _ pins s2 St I2 (fun h q => q) b hb v rr X.A.in1.in1 { s2 with heap := h, toks := tk } hr.hd (Nat.le_refl _) (Nat.le_refl _) hk2) fun rr s3 w1 => ?_)
    cases rr with
    | error e => exact False.elim w1
    | ok fl =>
      cases fl with
      | ret y =>
        obtain ⟨⟨t, rfl⟩, h2, tk2, e2, k2⟩ := w1
        exact ⟨h2, tk2, e2, k2, .int _ _⟩
      | next => exact False.elim w1
      | brk => exact False.elim w1
      | cont => exact False.elim w1
  · have hlen : ((bs.mergeSort (PySem.W.dataLe false fun b => .int b.2)).map (·.1)).length ≤ sizeLine := by rw [List.length_map, (List.mergeSort_perm _ _).length_eq]; exact hzb
    exact ⟨.ref _, _, I2.laid (t' := tk) (o := .lst ((bs.mergeSort (PySem.W.dataLe false fun b => .int b.2)).map (·.1))) hk2 (Nat.le_succ _) ⟨hlen, out, c, vals_of_each ho, hat⟩, rfl, q _ (I2.hok.fresh (Nat.le_succ _))⟩
end

/-! ### generator expressions whose element is read in full: the element may call, make and walk what it likes -/
section
open PySem.Spec PyProof.Rows GenW
/-- the context of a generator expression's element; B: the around of its frame -/
abbrev gxCx (X : Cx) (B : Around) (s : Shared) (H : Hp) (cenv : Env) (ys : List Str) (fp : List Addr) (pn : List (Addr × Obj)) : Cx :=
  { X with A := B, N := X.N ++ ys, s_0 := s, H_0 := H, env := cenv, outer := X.stack, stack := cenv :: X.stack, ex := fp, fn := fun _ => false, calm := true, pn := pn, xe := fun _ _ => False }
/-- the names of a generator expression's scope: its own are new, the others captured -/
structure GxOk (N : List Str) (sc scope : Scope) (own : List (Str × Nat)) : Prop where
  kind : scope.kind = .function
  co : scope.isCoroutine = false
  cell : ∀ y ∈ scope.names, y.2 ≠ .cell
  dot : scope.names.lookup (".0" : Str) = some NameKind.local
  free : ∀ y ∈ scope.names, y.2 = .free → sc.names.lookup y.1 = some .cell ∨ sc.names.lookup y.1 = some .free
  ix : ∀ p ∈ own, N[p.2]? = some p.1
  own : ∀ y ∈ scope.names, y.2 = .local → y.1 ∈ own.map (·.1) ∨ y.1 ∉ N
def gxC (N : List Str) (sc scope : Scope) (own : List (Str × Nat)) : Bool :=
  (match scope.kind with | .function => true | _ => false) && !scope.isCoroutine && decide (scope.names.lookup (".0" : Str) = some NameKind.local) && (own.all fun p => decide (N[p.2]? = some p.1)) &&
    (scope.names.all fun y => match y.2 with
      | .free => (match sc.names.lookup y.1 with | some .cell => true | some .free => true | _ => false)
      | .local => decide (y.1 ∈ own.map (·.1)) || decide (y.1 ∉ N)
      | .cell => false
      | _ => true)
theorem gxOk_by {N : List Str} {sc scope : Scope} {own : List (Str × Nat)} (h : gxC N sc scope own = true) : GxOk N sc scope own := by
  unfold gxC at h
  simp only [Bool.and_eq_true, List.all_eq_true, decide_eq_true_eq, Bool.not_eq_true'] at h
  obtain ⟨⟨⟨⟨h1, h2⟩, h3⟩, h5⟩, h4⟩ := h
  refine ⟨?_, h2, fun y hy e => ?_, h3, fun y hy e => ?_, h5, fun y hy e => ?_⟩
  · split at h1
    · assumption
    · cases h1
  · have q := h4 y hy
    simp only [e] at q
    cases q
  · have q := h4 y hy
    simp only [e] at q
    split at q <;> first | exact .inl (by assumption) | exact .inr (by assumption) | cases q
  · have q := h4 y hy
    simp only [e, Bool.or_eq_true, decide_eq_true_eq] at q
    exact q
variable {X : Cx} {pins : List (Addr × Obj)} {σ : L2.St} {H : Hp} {s : Shared}
theorem over_gen {A : Around} {elt : Expr} {gs : List Comprehension} {scope : Scope} {pos : Pos} {it acc : Value} {cenv : Env} : A.over (.compLoop (.GeneratorExp elt gs scope pos) 0 it acc cenv) [] = A.deeper cenv := by
  first
    | rfl
    | (obtain ⟨hd, d, fr, gs, u⟩ := A; simp [Around.over, Around.deeper, marksOver, frameCount, unitsOf, envsOf, guardsOf, pushEnvs, pushGuards, Code.envs, Code.env?, Code.isFrame, Code.guards, Code.isGuard, Code.weight, Code.frames, Code.isCreation, Code.isCaller, Code.cUnits])
theorem gx_start {scope : Scope} {ys : List Str} {fp : List Addr} {B : Around} {C a bi : Addr} {code : Value} {go : Obj} {m : Str → Option Value} {H' : Hp} {s' : Shared} {own : List (Str × Nat)} {vs : List Nat} (I : Inv X pins σ H s) (ok : GxOk X.N X.env.scope scope own) (hN : X.N.Nodup) (hvs : ∀ p ∈ own, p.2 ∈ vs)
    (hbi : bi = builtinsNs) (hB : B.handled = none) (hfr : B.frames = some (genEnv scope (cloFrom X.env.cells scope.names []) C code bi X.env :: X.stack)) (hfp : ∀ b ∈ fp, FpOk X pins H b ∧ b < s.heap.objs.size)
    (hos : s'.os = s.os) (hg : AllBare s'.gens) (un : Un (frs X.stack) fp H H' s.heap s'.heap) (hok : HOk X.prog X.w H' s'.heap) (hC : s.heap.objs.size ≤ C) (hCn : H' C = none) (hns : s'.heap.Ns C m)
    (ha : s'.heap.get? a = some go) (ha0 : s.heap.objs.size ≤ a) (haC : a ≠ C) (haN : H' a = none) (hgo : ∀ v, go.data ≠ .cell v) (hkc : ∀ c v, s.heap.IsCell c v → H c = none → c ∉ fp → s'.heap.IsCell c v) :
    Inv (gxCx X B s H (genEnv scope (cloFrom X.env.cells scope.names []) C code bi X.env) ys fp [(a, go)]) [] (wipe (σ ++ List.replicate ys.length none) vs) H' s' := by
  subst hbi
  have hfree : ∀ y ∈ scope.names, y.2 = .free → ∃ c, X.env.cells.lookup y.1 = some c := fun y hy e => by
    rcases ok.free y hy e with k | k
    · exact I.ok.has _ (.inl k)
    · exact I.ok.has _ (.inr k)
  have cm : ∀ {y c}, (y, c) ∈ cloFrom X.env.cells scope.names [] → X.env.cells.lookup y = some c ∧ c < s.heap.objs.size := fun {y c} hm => by
    rcases cloFrom_mem hm with hm | ⟨h1, rfl⟩
    · cases hm
    · obtain ⟨c, hc⟩ := hfree _ h1 rfl
      rw [hc]
      obtain ⟨w, z⟩ := I.cell _ _ hc
      exact ⟨rfl, z.lt⟩
  have look : ∀ {y}, scope.names.lookup y = some .free → ∃ c, (cloFrom X.env.cells scope.names []).lookup y = some c ∧ X.env.cells.lookup y = some c := fun {y} hl => by
    obtain ⟨c', e'⟩ := mem_lookup (cloFrom_has (cells := X.env.cells) (acc := []) (PySem.mem_of_lookup hl))
    exact ⟨c', e', (cm (PySem.mem_of_lookup e')).1⟩
  have cellK : ∀ {y c}, (cloFrom X.env.cells scope.names []).lookup y = some c → ∀ v, s.heap.IsCell c v → s'.heap.IsCell c v := fun {y c} e v z =>
    hkc c v z (I.freeC _ _ (cm (PySem.mem_of_lookup e)).1) fun hb => (hfp c hb).1.2.2.2.2.1 _ _ (cm (PySem.mem_of_lookup e)).1 rfl
  have okB : (gxCx X B s H (genEnv scope (cloFrom X.env.cells scope.names []) C code builtinsNs X.env) ys fp [(a, go)]).Ok := by
    refine ⟨I.ok.mod, ok.kind, I.ok.glob, rfl, hC, fun y z c e1 e2 => I.ok.inj y z c (cm (PySem.mem_of_lookup e1)).1 (cm (PySem.mem_of_lookup e2)).1, fun y hy => ?_, fun y c z e => absurd z (by simp), fun _ => hB, hfr, .inr ⟨rfl, rfl⟩,
      fun b hb => ⟨Nat.ne_of_lt (Nat.lt_of_lt_of_le (hfp b hb).2 hC), fun y c e z => (hfp b hb).1.2.2.2.2.1 y c (cm (PySem.mem_of_lookup e)).1 z⟩, I.bs, Nat.le_trans I.ok.bsz I.sz, fun b o e hb => ?_, fun b hb z => ?_, I.stack, I.stkFree⟩
    · rcases hy with hy | hy
      · exact absurd rfl (ok.cell _ (PySem.mem_of_lookup (show scope.names.lookup y = some .cell from hy)))
      · obtain ⟨c, h1, _⟩ := look (show scope.names.lookup y = some .free from hy)
        exact ⟨c, h1⟩
    · rcases (hfp b hb).1.2.2.2.1 with z | z
      · exact I.ok.noex b o e z
      · exact absurd (Nat.lt_of_lt_of_le (Heap.lt_size e) (Nat.le_trans I.ok.bsz z)) (Nat.lt_irrefl _)
    · rcases List.mem_cons.mp (I.stkSub b z) with z | z
      · exact (hfp b hb).1.2.1 z
      · exact (hfp b hb).1.2.2.1 z
  refine ⟨okB, hos, hg, un, ⟨m, hns, fun i y v e1 e2 e3 => ?_⟩, fun y c e => ?_, hCn, fun y c e => ?_, fun p hp => ?_, hok, ?_⟩
  · obtain ⟨e2, hiv⟩ := wipe_some e2
    have hi : i < σ.length := by
      by_cases hi : i < σ.length
      · exact hi
      · rw [List.getElem?_append_right (by omega), List.getElem?_replicate] at e2
        split at e2 <;> cases e2
    rw [List.getElem?_append_left hi] at e2
    have e1 : (X.N ++ ys)[i]? = some y := e1
    rw [List.getElem?_append_left (by rw [← I.len]; exact hi)] at e1
    have hfr' : scope.names.lookup y = some .free := by
      rcases (show Vis scope y from e3) with e | e | e
      · rcases ok.own _ (PySem.mem_of_lookup e) rfl with z | z
        · obtain ⟨p, hp, hpy⟩ := List.mem_map.mp z
          have e4 := ok.ix p hp
          rw [show p.1 = y from hpy] at e4
          rw [nodup_ix hN e1 e4] at hiv
          exact absurd (hvs p hp) hiv
        · exact absurd (List.mem_of_getElem? e1) z
      · exact absurd rfl (ok.cell _ (PySem.mem_of_lookup e))
      · exact e
    obtain ⟨m0, hn, hl⟩ := I.loc
    have hvis : Vis X.env.scope y := (ok.free _ (PySem.mem_of_lookup hfr') rfl).elim (fun k => .inr (.inl k)) (fun k => .inr (.inr k))
    obtain ⟨u, r, q⟩ := hl i y v e1 e2 hvis
    refine ⟨u, r, .inr ⟨.inr hfr', ?_⟩⟩
    obtain ⟨c, h1, h2⟩ := look hfr'
    rcases q with ⟨k, _⟩ | ⟨_, c', e', z⟩
    · have k : X.env.scope.names.lookup y = some .local := k
      rcases ok.free _ (PySem.mem_of_lookup hfr') rfl with k' | k' <;> rw [show X.env.scope.names.lookup y = _ from k'] at k <;> cases k
    · rw [h2] at e'
      cases e'
      exact ⟨c, h1, cellK h1 _ z⟩
  · obtain ⟨v, z⟩ := I.cell _ _ (cm (PySem.mem_of_lookup e)).1
    exact ⟨v, cellK e v z⟩
  · have h1 := (cm (PySem.mem_of_lookup e)).1
    obtain ⟨v, z⟩ := I.cell _ _ h1
    obtain ⟨oc, hoc, _⟩ := z
    exact un.free c oc hoc (I.freeC _ _ h1) fun hb => (hfp c hb).1.2.2.2.2.1 _ _ h1 rfl
  · have e : p = (a, go) := by
      have q : p ∈ [(a, go)] ++ ([] : List (Addr × Obj)) := hp
      simpa using q
    subst e
    refine ⟨ha, haN, haC, fun z => ?_, hgo⟩
    have := I.stack.mem z
    obtain ⟨_, o, ho, _⟩ := this
    exact absurd (Nat.lt_of_lt_of_le (Heap.lt_size ho) ha0) (Nat.lt_irrefl _)
  · show _ = (X.N ++ ys).length
    rw [wipe_length, List.length_append, List.length_append, List.length_replicate, I.len]
end
/-! the walk of a generator expression that hands out bools -/
section
open PySem.Spec PyProof.Rows GenW
/-- the end of the generator's run: nothing is left -/
def gxR (X' : Cx) (σ : L2.St) (Fi : Hp → Prop) : GenEnd := fun _ _ r s1 => r = .ok .next ∧ ∃ H', Inv X' [] σ H' s1 ∧ Fi H'
/-- a bool is handed out; c: the bool that stops the walk -/
def gxY (X' : Cx) (σ : L2.St) (c : Bool) (Fl : Hp → Prop) : Protocol := fun _ _ v s kap =>
  ∃ (b : Bool) (H' : Hp), v = .bool b ∧ Inv X' [] σ H' s ∧ (b = c → Fl H') ∧ (b = !c → ∀ s'' : Shared, s''.heap = s.heap → s''.os = s.os → AllBare s''.gens → kap (.send .none) s'')
/-- another state with the same heap -/
theorem inv_same {X' : Cx} {pins : List (Addr × Obj)} {σ : L2.St} {H : Hp} {s s' : Shared} (I : Inv X' pins σ H s) (h : s'.heap = s.heap) (o : s'.os = s.os) (g : AllBare s'.gens) : Inv X' pins σ H s' := by
  refine I.call' (ch := []) o ?_ (by rw [h]; exact I.hok) g (fun b z => absurd z (by simp))
  rw [h]
  exact Un.refl
/-- a turn of the walk: W by the turn and a measure -/
def GxTurn (J : It) (g : TG) (te : TE) (σ : L2.St) (vs : List Nat) (c : Bool) (Fi Fl : Hp → Prop) (W : Nat → Nat → Hp → Prop) : Prop := ∀ i m H, W i m H →
  (J.stop i H ∧ Fi H) ∨ (J.go i H ∧ ∃ Nx : Hp → Prop, (∀ H', Nx H' → ∃ m', m' < m ∧ W (i + 1) m' H') ∧ ∀ x H', J.yld i H x H' → g x σ H' fun σ2 H2 => wipe σ2 vs = σ ∧ te σ2 H2 fun y H3 => ∃ b, y = .bl b ∧ (b = c → Fl H3) ∧ (b = !c → Nx H3))
section
variable {X' : Cx} {B0 : Around} {σ : L2.St} {vs : List Nat} {c : Bool} {Fi Fl : Hp → Prop} {W : Nat → Nat → Hp → Prop} {elt tg iter : Expr} {scope : Scope} {pos : Pos} {it : Addr} {fp : List Addr} {tn : Nat → Heap → Prop} {J : It} {g : TG} {te : TE} {k : Nat}
theorem weak_wipe {vs : List Nat} {pins : List (Addr × Obj)} {σ2 : L2.St} {H : Hp} {s : Shared} (hl : σ.length = X'.N.length) (I : Inv X' pins σ2 H s) (h : wipe σ2 vs = σ) : Inv X' pins σ H s := by
  refine I.weak (hl.trans I.len.symm) fun j v e => ?_
  rw [← h] at e
  exact (wipe_some e).1
theorem seg_gx (hA : X'.A = B0.over (.compLoop (.GeneratorExp elt [⟨tg, iter, [], 0⟩] scope pos) 0 (.ref it) .none X'.env) []) (hco : X'.env.scope.isCoroutine = false) (hcalm : X'.calm = true) (hxe : X'.xe = fun _ _ => False) (hex : X'.ex = fp)
    (hpn : ∀ p ∈ X'.pn, ∀ b ∈ fp, p.1 ≠ b) (T : Turn X'.prog X'.w X'.K tg J fp it tn) (hg : PG X' tg g) (he : PE X' elt te) (hl : σ.length = X'.N.length) (turn : GxTurn J g te σ vs c Fi Fl W) :
    ∀ (n i m : Nat) (s₀ s : Shared) (H : Hp), m < n → Inv X' [] σ H s → tn i s.heap → (∀ b ∈ fp, H b = none) → W i m H →
      Seg (model X'.prog X'.w) B0 (gxR X' σ Fi) (gxY X' σ c Fl) n s₀ (.compLoop (.GeneratorExp elt [⟨tg, iter, [], 0⟩] scope pos) 0 (.ref it) .none X'.env)
        ((model X'.prog X'.w).den (.compLoop (.GeneratorExp elt [⟨tg, iter, [], 0⟩] scope pos) 0 (.ref it) .none X'.env)) [] s := by
  have stat : ∀ {σ' : L2.St} {H' : Hp} {s' : Shared}, Inv X' [] σ' H' s' → (∀ b ∈ fp, H' b = none) → ∀ b ∈ fp, FpOk X' [] H' b := fun {σ' H' s'} I' hn b hb => by
    have hb' : b ∈ X'.ex := by rw [hex]; exact hb
    exact ⟨hn b hb, (I'.ok.exf b hb').1, I'.ok.exfs b hb', .inl hb', fun x c e => (I'.ok.exf b hb').2 x c e, fun p hp => hpn p (by simpa using hp) b hb⟩
  have noE : ∀ {e : Value} {s : Shared} {G : Prop}, X'.xe e s → G := fun {e s G} h => by rw [hxe] at h; exact h.elim
  intro n
  induction n with
  | zero => intro i m s₀ s H hm; omega
  | succ n ih =>
    intro i m s₀ s H hm I st hn w
    show Seg _ B0 _ _ _ s₀ _ ((compTurn (.GeneratorExp elt [⟨tg, iter, [], 0⟩] scope pos) 0 (.ref it) .none X'.env).onRaise (leaving X'.env)) [] s
    rw [compTurn_gen, Sem.onRaise_eq_wrap]
    refine seg_bind_wrap (wpAny_standAt ?_)
    rcases turn i m H w with ⟨stop, fi⟩ | ⟨go, Nx, hNx, step⟩
    · have q := T.done X' rfl rfl rfl hcalm i [] s σ H (fun _ _ => False) I (stat I hn) st stop
      rw [hA] at q
      refine seg_bind_wrap (wpAny_mono q (fun r s6 h6 => ?_) fun _ _ e => e.elim)
      obtain ⟨hr, I6⟩ := h6
      subst hr
      exact seg_end (.ok .next) ⟨rfl, H, I6, fi⟩
    · have q := T.item X' rfl rfl rfl hcalm i [] s σ H (fun _ _ => False) I (stat I hn) st go
      rw [hA] at q
      refine seg_bind_wrap (wpAny_mono q (fun r s6 h6 => ?_) fun _ _ e => e.elim)
      obtain ⟨u, hr, h6⟩ := h6
      subst hr
      refine seg_bind_wrap (wpAny_mono h6 (fun _ s7 h7 => ?_) fun _ _ e => e.elim)
      obtain ⟨x, H7, I7, r7, y7, st7, n7⟩ := h7
      have I7' := I7.pinned (stat I7 n7) (T.obj _ _ st7)
      have q2 := hg.run _ s7 σ H7 x u _ I7' r7 (step x H7 y7)
      rw [hA] at q2
      refine seg_bind_wrap (wpAny_mono q2 (fun _ s8 h8 => ?_) fun _ _ e => noE e)
      obtain ⟨σ8, H8, I8, hw8, q8⟩ := h8
      refine seg_bind_wrap (wpAny_pure ?_)
      simp only [if_true]
      have hy : ∀ v, yieldOut X'.env v = yieldValue v := fun v => by simp only [yieldOut, hco, Bool.false_eq_true, if_false]
      simp only [hy]
      rw [Sem.bind_eq_wrap', Sem.bind_eq_wrap', Sem.wrap_wrap, Sem.wrap_wrap]
      have q3 := he.run _ s8 σ8 H8 _ I8 q8
      rw [hA] at q3
      refine seg_wrap (wpAny_mono q3 (fun z s10 h10 => ?_) fun _ _ e => noE e)
      obtain ⟨yv, H10, I10, r10, b, rfl, hfl, hnx⟩ := h10
      cases r10
      have pin' : ∀ b ∈ fp, ∀ o, s7.heap.get? b = some o → s10.heap.get? b = some o ∧ H10 b = none := fun b hb o e =>
        let z := I10.pin (b, o) (List.mem_append_right _ (List.mem_append_right _ (mem_pinsAt hb e)))
        ⟨z.1, z.2.1⟩
      have I11 : Inv X' [] σ H10 s10 := weak_wipe hl (I10.unpinned (pins := [])) hw8
      have n11 : ∀ b ∈ fp, H10 b = none := fun b hb => by
        obtain ⟨o, e, _⟩ := T.obj _ _ st7 b hb
        exact (pin' b hb o e).2
      have st11 : tn (i + 1) s10.heap := T.keep _ _ _ st7 fun b hb o e => (pin' b hb o e).1
      refine seg_at (seg_yield rfl rfl rfl ⟨b, H10, rfl, I11, hfl, fun hb s'' eh eo eb => ?_⟩)
      obtain ⟨m', hm', w'⟩ := hNx H10 (hnx hb)
      exact seg_again rfl (ih (i + 1) m' s'' s'' H10 (by omega) (inv_same I11 eh eo eb) (by rw [eh]; exact st11) n11 w')
end
end
section
open PySem.Spec PyProof.Rows GenW
section
variable {X' : Cx} {A : Around} {σ : L2.St} {c : Bool} {Fi Fl : Hp → Prop} {R : Result → Shared → Prop} {a : Addr} {g : Nat} {go : Obj}
/-- one draw -/
theorem gx_next (hh : A.handled = none) (hd : A.depth < recursionLimit) (hgen : ∀ h : Heap, h.get? a = some go → h.IsGen a g) {n : Nat} {s : Shared} {Q : Option Value → Shared → Prop} {E : Value → Shared → Prop} (hg : s.heap.IsGen a g) (hl : s.heap.NoLimit)
    (hpn : (a, go) ∈ X'.pn)
    (hgs : ∃ gs, s.gens[g]? = some gs ∧ gs.Goes (model X'.prog X'.w) A.in1 (gxR X' σ Fi) (gxY X' σ c Fl) n (.send .none) (s.setGen g .running))
    (hend : ∀ s' H', Inv X' [] σ H' s' → Fi H' → Q none s')
    (hstop : ∀ s' H', Inv X' [] σ H' s' → Fl H' → Q (some (.bool c)) s')
    (hgoes : ∀ s' H' m, n = m + 1 → Inv X' [] σ H' s' → (∃ gs, s'.gens[g]? = some gs ∧ gs.Goes (model X'.prog X'.w) A.in1 (gxR X' σ Fi) (gxY X' σ c Fl) m (.send .none) (s'.setGen g .running)) → Q (some (.bool (!c))) s') :
    wpAny (model X'.prog X'.w) A (pyNext (.ref a)) Q E s := by
  obtain ⟨gs, hgs, hgo⟩ := hgs
  have hgl : g < s.gens.size := (Array.getElem?_eq_some_iff.mp hgs).1
  refine wpAny_gsz (n := g + 1) hgl (wpAny_pyNext_genexpQ (P := fun _ _ s1 => ∃ H', Inv X' [] σ H' s1 ∧ Fi H') (Y := gxY X' σ c Fl) (n := n) hh hl hd hg hgs hgo (fun v s₁ gs' hbare hv => ?_) fun s₁ hp h' hk => ?_)
  · intro hsz
    obtain ⟨b, H', rfl, I, hfl, hkap⟩ := hv
    have hsz1 : g < s₁.gens.size := by
      have q : (s₁.setGen g gs').gens.size = s₁.gens.size := setGen_size _ _ _
      have hsz' : g + 1 ≤ (s₁.setGen g gs').gens.size := hsz
      omega
    have I2 : Inv X' [] σ H' (s₁.setGen g gs') := inv_same I rfl rfl (allBare_setGen I.bare hbare)
    by_cases hb : b = c
    · subst hb
      exact hstop _ H' I2 (hfl rfl)
    · have hb' : b = !c := by revert hb; cases b <;> cases c <;> decide
      subst hb'
      have hk := hkap rfl ((s₁.setGen g gs').setGen g .running) rfl rfl (allBare_setGen (allBare_setGen I.bare hbare) rfl)
      cases n with
      | zero => exact hk.elim
      | succ m => exact hgoes _ H' m rfl I2 ⟨gs', setGen_at hsz1, hk⟩
  · intro hsz
    obtain ⟨H', I, fi⟩ := hp
    refine hend _ H' (I.call' (ch := []) (s' := { s₁.setGen g .finished with heap := h' }) rfl (Un.kept hk) (I.hok.kept hk) (allBare_setGen I.bare rfl) fun b z => absurd z (by simp)) fi
theorem gx_all (hh : A.handled = none) (hd : A.depth < recursionLimit) (hgen : ∀ h : Heap, h.get? a = some go → h.IsGen a g) (hpn : (a, go) ∈ X'.pn) (hc : c = false)
    (hend : ∀ s' H', Inv X' [] σ H' s' → Fi H' → R (.ok (.ret (.bool true))) s') (hstop : ∀ s' H', Inv X' [] σ H' s' → Fl H' → R (.ok (.ret (.bool false))) s') :
    ∀ (n : Nat) (s : Shared), s.heap.IsGen a g → s.heap.NoLimit →
      (∃ gs, s.gens[g]? = some gs ∧ gs.Goes (model X'.prog X'.w) A.in1.in1 (gxR X' σ Fi) (gxY X' σ c Fl) n (.send .none) (s.setGen g .running)) →
      codeAny (model X'.prog X'.w) A (.builtin "all.loop" ⟨[.ref a], []⟩) R s := by
  subst hc
  have loop : ∀ (n : Nat) (s : Shared), s.heap.IsGen a g → s.heap.NoLimit →
      (∃ gs, s.gens[g]? = some gs ∧ gs.Goes (model X'.prog X'.w) A.in1.in1 (gxR X' σ Fi) (gxY X' σ false Fl) n (.send .none) (s.setGen g .running)) →
      (∀ s' H' m, n = m + 1 → Inv X' [] σ H' s' → (∃ gs, s'.gens[g]? = some gs ∧ gs.Goes (model X'.prog X'.w) A.in1.in1 (gxR X' σ Fi) (gxY X' σ false Fl) m (.send .none) (s'.setGen g .running)) → codeAny (model X'.prog X'.w) A (.builtin "all.loop" ⟨[.ref a], []⟩) R s') →
      codeAny (model X'.prog X'.w) A (.builtin "all.loop" ⟨[.ref a], []⟩) R s := by
    intro n s hg hl hgs hrec
    refine codeAny_builtin F.entry_all_loop ?_
    rw [Around.under_plainId F.plain_all_loop _]
    show wpAny _ A.in1 (pyNext (.ref a) >>= _) _ _ s
    refine wpAny_bind (gx_next (A := A.in1) hh hd hgen hg hl hpn hgs (fun s' H' I fi => ?_) (fun s' H' I fl => ?_) fun s' H' m hn I hgs' => ?_)
    · exact wpAny_bind (wpAny_rule (wpAny_pure (hend s' H' I fi)))
    · refine wpAny_bind (wpAny_holding (wpAny_truthy_bool ?_))
      refine wpAny_bind (wpAny_letGo ?_)
      simp only [Bool.false_eq_true, if_false]
      exact wpAny_bind (wpAny_rule (wpAny_pure (hstop s' H' I fl)))
    · refine wpAny_bind (wpAny_holding (wpAny_truthy_bool ?_))
      refine wpAny_bind (wpAny_letGo ?_)
      simp only [Bool.not_false, if_true]
      exact wpAny_pure ⟨plainId_quiet F.plain_all_loop _, hrec s' H' m hn I hgs'⟩
  intro n
  induction n with
  | zero => exact fun s hg hl hgs => loop 0 s hg hl hgs fun _ _ m hn => absurd hn (by omega)
  | succ n ih =>
    exact fun s hg hl hgs => loop (n + 1) s hg hl hgs fun s' H' m hn I hgs' => by
      obtain rfl : m = n := by omega
      exact ih s' (hgen _ (I.pin (a, go) (List.mem_append_left _ hpn)).1) I.nolimit hgs'
theorem gx_any (hh : A.handled = none) (hd : A.depth < recursionLimit) (hgen : ∀ h : Heap, h.get? a = some go → h.IsGen a g) (hpn : (a, go) ∈ X'.pn) (hc : c = true)
    (hend : ∀ s' H', Inv X' [] σ H' s' → Fi H' → R (.ok (.ret (.bool false))) s') (hstop : ∀ s' H', Inv X' [] σ H' s' → Fl H' → R (.ok (.ret (.bool true))) s') :
    ∀ (n : Nat) (s : Shared), s.heap.IsGen a g → s.heap.NoLimit →
      (∃ gs, s.gens[g]? = some gs ∧ gs.Goes (model X'.prog X'.w) A.in1.in1 (gxR X' σ Fi) (gxY X' σ c Fl) n (.send .none) (s.setGen g .running)) →
      codeAny (model X'.prog X'.w) A (.builtin "any.loop" ⟨[.ref a], []⟩) R s := by
  subst hc
  have loop : ∀ (n : Nat) (s : Shared), s.heap.IsGen a g → s.heap.NoLimit →
      (∃ gs, s.gens[g]? = some gs ∧ gs.Goes (model X'.prog X'.w) A.in1.in1 (gxR X' σ Fi) (gxY X' σ true Fl) n (.send .none) (s.setGen g .running)) →
      (∀ s' H' m, n = m + 1 → Inv X' [] σ H' s' → (∃ gs, s'.gens[g]? = some gs ∧ gs.Goes (model X'.prog X'.w) A.in1.in1 (gxR X' σ Fi) (gxY X' σ true Fl) m (.send .none) (s'.setGen g .running)) → codeAny (model X'.prog X'.w) A (.builtin "any.loop" ⟨[.ref a], []⟩) R s') →
      codeAny (model X'.prog X'.w) A (.builtin "any.loop" ⟨[.ref a], []⟩) R s := by
    intro n s hg hl hgs hrec
    refine codeAny_builtin F.entry_any_loop ?_
    rw [Around.under_plainId F.plain_any_loop _]
    show wpAny _ A.in1 (pyNext (.ref a) >>= _) _ _ s
    refine wpAny_bind (gx_next (A := A.in1) hh hd hgen hg hl hpn hgs (fun s' H' I fi => ?_) (fun s' H' I fl => ?_) fun s' H' m hn I hgs' => ?_)
    · exact wpAny_bind (wpAny_rule (wpAny_pure (hend s' H' I fi)))
    · refine wpAny_bind (wpAny_holding (wpAny_truthy_bool ?_))
      refine wpAny_bind (wpAny_letGo ?_)
      simp only [if_true]
      exact wpAny_bind (wpAny_rule (wpAny_pure (hstop s' H' I fl)))
    · refine wpAny_bind (wpAny_holding (wpAny_truthy_bool ?_))
      refine wpAny_bind (wpAny_letGo ?_)
      simp only [Bool.not_true, Bool.false_eq_true, if_false]
      exact wpAny_pure ⟨plainId_quiet F.plain_any_loop _, hrec s' H' m hn I hgs'⟩
  intro n
  induction n with
  | zero => exact fun s hg hl hgs => loop 0 s hg hl hgs fun _ _ m hn => absurd hn (by omega)
  | succ n ih =>
    exact fun s hg hl hgs => loop (n + 1) s hg hl hgs fun s' H' m hn I hgs' => by
      obtain rfl : m = n := by omega
      exact ih s' (hgen _ (I.pin (a, go) (List.mem_append_left _ hpn)).1) I.nolimit hgs'
end
end
section
open PySem.Spec PyProof.Rows GenW
section
variable {X : Cx} {pins : List (Addr × Obj)} {σ : L2.St} {H : Hp} {s : Shared}
theorem un_tab {fs ex : List Addr} {H : Hp} {T : Addr} {ps more : Array Value} {h h' : Heap} (hT : H T = some (.tbl ps)) (k : ∀ b o, b ≠ T → h.get? b = some o → h'.get? b = some o) (hm : ∃ o, h'.get? T = some o) :
    Un fs ex H (upd H T (.tbl (ps ++ more))) h h' := by
  have nN : ∀ b, H b = none → b ≠ T := fun b e z => by rw [z, hT] at e; cases e
  have nP : ∀ b u, H b = some u → (∀ q, u ≠ .tbl q) → b ≠ T := fun b u e q z => by
    rw [z, hT] at e
    exact q ps (Option.some.inj e).symm
  refine ⟨fun b o e n _ _ => k b o (nN b n) e, fun b o e n _ _ => ⟨o.slots, k b o (nN b n) e⟩, fun b o _ n _ => by rw [upd_ne (nN b n)]; exact n, fun b o e _ => ?_, fun b xs e => by rw [upd_ne (nP b _ e fun q z => by cases z)]; exact e, fun b o u e => by rw [upd_ne (nP b _ e fun q z => by cases z)]; exact e, fun b qs e => ?_⟩
  · by_cases hb : b = T
    · rw [hb]; exact hm
    · exact ⟨o, k b o hb e⟩
  · by_cases hb : b = T
    · rw [hb, hT] at e
      cases e
      rw [hb, upd_same]
      exact ⟨more, rfl⟩
    · rw [upd_ne hb, e]
      exact ⟨#[], by simp⟩
theorem gx_gen {c0 T : Addr} {elt tg iter : Expr} {gpos : Pos} {scope : Scope} {ys : List Str} {wi : TI} {g : TG} {te : TE} {k : Nat} {own : List (Str × Nat)} {vs : List Nat} {cb : Bool} {Fi Fl : Hp → Prop} {Q' : Value → Shared → Prop} (hN : X.N.Nodup) (hvs : ∀ p ∈ own, p.2 ∈ vs)
    (hr : Room (k + 2) X.A) (TB : GxR.TabB X.base X.mg c0 T) (hcode : X.env.code = .ref c0) (ok : GxOk X.N X.env.scope scope own) (hi : PI X tg iter wi)
    (hg : ∀ (B : Around) (s : Shared) (H : Hp) (C : Addr) (cl : List (Str × Addr)) (code : Value) (fp : List Addr) (pn : List (Addr × Obj)), Room k B → PG (gxCx X B s H (genEnv scope cl C code builtinsNs X.env) ys fp pn) tg g)
    (he : ∀ (B : Around) (s : Shared) (H : Hp) (C : Addr) (cl : List (Str × Addr)) (code : Value) (fp : List Addr) (pn : List (Addr × Obj)), Room k B → PE (gxCx X B s H (genEnv scope cl C code builtinsNs X.env) ys fp pn) elt te)
    (hs : ∀ v, genFold iter X.env v = pure v) (I : Inv X pins σ H s)
    (h : wi σ H fun J H1 => GxR.TabG H1 T ∧ ∀ H1', GxR.Tabbed T H1 H1' → ∃ W : Nat → Nat → Hp → Prop, (∃ m, W 0 m H1') ∧ GxTurn J g te (wipe (σ ++ List.replicate ys.length none) vs) vs cb Fi Fl W)
    (hQ' : ∀ (B : Around) (s2 : Shared) (H2 : Hp) (cenv : Env) (fp : List Addr) (a : Addr) (gn : Nat) (go : Obj) (n : Nat) (s5 : Shared), (∀ h : Heap, h.get? a = some go → h.IsGen a gn) → s5.heap.IsGen a gn → s5.heap.NoLimit →
      (∃ gs, s5.gens[gn]? = some gs ∧ gs.Goes (model X.prog X.w) X.A.in1.in1 (gxR (gxCx X B s2 H2 cenv ys fp [(a, go)]) (wipe (σ ++ List.replicate ys.length none) vs) Fi) (gxY (gxCx X B s2 H2 cenv ys fp [(a, go)]) (wipe (σ ++ List.replicate ys.length none) vs) cb Fl) n (.send .none) (s5.setGen gn .running)) →
      (∀ s' H', Inv (gxCx X B s2 H2 cenv ys fp [(a, go)]) [] (wipe (σ ++ List.replicate ys.length none) vs) H' s' → Inv X pins σ H' s') → Q' (.ref a) s5) :
    wpAny (model X.prog X.w) X.A (eval (.GeneratorExp elt [⟨tg, iter, [], 0⟩] scope gpos) X.env) Q' X.xe s := by
  have hfree : ∀ y ∈ scope.names, y.2 = .free → ∃ c, X.env.cells.lookup y.1 = some c := fun y hy e => by
    rcases ok.free y hy e with k | k
    · exact I.ok.has _ (.inl k)
    · exact I.ok.has _ (.inr k)
  refine wpAny_GeneratorExp_make ok.co (closure_ok hfree) ok.cell ok.dot ok.kind hr.depth ?_ hs
  refine thn (hi.run pins s σ H _ I h) fun xv t1 h1 => thn h1 fun itv s2 h2 => ?_
  obtain ⟨it, fp, tn, J, H2, rfl, I2, Tn, st2, f2, ⟨ps, hT, htri⟩, hq⟩ := h2
  refine ⟨I2.nolimit, ?_⟩
  have tT : s2.heap.get? T = some { cls := .none, data := .fields ps } := I2.hok T _ hT
  have lT : T < s2.heap.objs.size := Heap.lt_size tT
  have cd : PySem.W.CodeHd s2.heap c0 T := TB.code.keeps fun b u e => I2.bk b u e
  have szf : ∀ b ∈ fp, b < s2.heap.objs.size := fun b hb => by
    obtain ⟨o, e, _⟩ := Tn.obj _ _ st2 b hb
    exact Heap.lt_size e
  have run : ∀ (code : Value) (h3 : Heap) (tk : Nat) (ps' : Array Value), Heap.ExtBut T s2.heap h3 → s2.heap.objs.size ≤ h3.objs.size → h3.get? T = some { cls := .none, data := .fields ps' } → (∃ more, ps' = ps ++ more) → TriplesOk ps'.toList →
      wpAny (model X.prog X.w) X.A (builtinsFor X.env.globals X.env.builtins) (fun bi s₄ =>
        ∀ h', h'.Ns s₄.heap.objs.size (fun y => if y = ".0" then some (Value.ref it) else none) → Heap.SameBut s₄.heap.objs.size (s₄.heap.push { cls := .type "frame", data := .dict #[] }) h' →
          Q' (.ref h'.objs.size) { s₄ with
            gens := s₄.gens.push (.fresh (.compStart (.GeneratorExp elt [⟨tg, iter, [], 0⟩] scope gpos) 0 (.ref it) .none (genEnv scope (cloFrom X.env.cells scope.names []) s₄.heap.objs.size code bi X.env))),
            toks := s₄.toks + 1 + 1 + 1,
            heap := h'.push { cls := .type "generator", data := .fields #[.int s₄.gens.size 0, .str "<genexpr>" (s₄.toks + 1), .str (X.env.qual ++ "<genexpr>") (s₄.toks + 1 + 1)] } }) X.xe { s2 with heap := h3, toks := tk } := by
    intro code h3 tk ps' hx hsz hT3 hmore ht3
    obtain ⟨bm, ob, e1, e2, e3, e4, e5, e6, e7, e8⟩ := TB.bm
    have up3 : ∀ b u, b ≠ T → s2.heap.get? b = some u → h3.get? b = some u := fun b u hb e => hx b u hb e
    refine wpAny_builtinsFor (m := X.mg) (by rw [I2.ok.glob]; exact (I2.mod.glob.keeps I2.bk).extBut hx TB.gP) e1 e2 (up3 _ _ e4 (I2.bk _ _ e5)) e6 e7 e8 ?_
    intro h' hns hsb
    replace hns : h'.Ns h3.objs.size (fun y => if y = ".0" then some (Value.ref it) else none) := hns
    replace hsb : Heap.SameBut h3.objs.size (h3.push { cls := .type "frame", data := .dict #[] }) h' := hsb
    obtain ⟨more, rfl⟩ := hmore
    have hCa : (h3.objs.size : Nat) < h'.objs.size := hns.lt
    have up5 : ∀ b u, h3.get? b = some u → h'.get? b = some u := fun b u e => hsb.extBut b u (Nat.ne_of_lt (Heap.lt_size e)) (Heap.get?_push_of_some _ e)
    obtain ⟨go, hgo⟩ : ∃ go : Obj, go = { cls := .type "generator", data := .fields #[.int s2.gens.size 0, .str "<genexpr>" (tk + 1), .str (X.env.qual ++ "<genexpr>") (tk + 1 + 1)] } := ⟨_, rfl⟩
    have up : ∀ b u, b ≠ T → s2.heap.get? b = some u → (h'.push go).get? b = some u := fun b u hb e => Heap.get?_push_of_some _ (up5 b u (up3 b u hb e))
    have tT5 : (h'.push go).get? T = some { cls := .none, data := .fields (ps ++ more) } := Heap.get?_push_of_some _ (up5 _ _ hT3)
    have nT : ∀ b, H2 b = none → b ≠ T := fun b e z => by rw [z, hT] at e; cases e
    have nT' : ∀ b : Addr, s2.heap.objs.size ≤ b → b ≠ T := fun b hb z => by rw [z] at hb; exact Nat.lt_irrefl _ (Nat.lt_of_lt_of_le lT hb)
    have hgen : ∀ h : Heap, h.get? h'.objs.size = some go → h.IsGen h'.objs.size s2.gens.size := fun h e => ⟨go, _, _, e, by rw [hgo], by rw [hgo], by rw [hgo]⟩
    have hpush : (h'.push go).get? h'.objs.size = some go := Heap.get?_push_size _ (by rw [hgo]; rfl)
    have bare5 : AllBare (s2.gens.push (.fresh (.compStart (.GeneratorExp elt [⟨tg, iter, [], 0⟩] scope gpos) 0 (.ref it) .none (genEnv scope (cloFrom X.env.cells scope.names []) h3.objs.size code builtinsNs X.env)))) := AllBare.push I2.bare rfl
    have J5 := GxR.inv_tab (more := more) (h' := h'.push go) (g' := s2.gens.push (.fresh (.compStart (.GeneratorExp elt [⟨tg, iter, [], 0⟩] scope gpos) 0 (.ref it) .none (genEnv scope (cloFrom X.env.cells scope.names []) h3.objs.size code builtinsNs X.env)))) (d' := s2.drawn) (t' := tk + 1 + 1 + 1) I2 hT up tT5 bare5
    have un5 : Un (frs X.stack) fp H2 (upd H2 T (.tbl (ps ++ more))) s2.heap (h'.push go) := un_tab hT up ⟨_, tT5⟩
    obtain ⟨W, ⟨m0, w0⟩, turn⟩ := hq _ (⟨⟨ps ++ more, upd_same, ht3⟩, fun b hb => upd_ne hb⟩ : GxR.Tabbed T H2 (upd H2 T (.tbl (ps ++ more))))
    have hCn : upd H2 T (.tbl (ps ++ more)) h3.objs.size = none := by rw [upd_ne (nT' _ hsz)]; exact I2.hok.fresh hsz
    have han : upd H2 T (.tbl (ps ++ more)) h'.objs.size = none := by
      have q : (s2.heap.objs.size : Nat) ≤ h'.objs.size := Nat.le_of_lt (Nat.lt_of_le_of_lt hsz hCa)
      rw [upd_ne (nT' _ q)]; exact I2.hok.fresh q
    have hfr : (X.A.in1.in1.over (.compLoop (.GeneratorExp elt [⟨tg, iter, [], 0⟩] scope gpos) 0 (.ref it) .none (genEnv scope (cloFrom X.env.cells scope.names []) h3.objs.size code builtinsNs X.env)) []).frames = some (genEnv scope (cloFrom X.env.cells scope.names []) h3.objs.size code builtinsNs X.env :: X.stack) := by
      rw [over_gen]
      exact Around.frames_deeper I2.ok.frames
    have rB : Room k (X.A.in1.in1.over (.compLoop (.GeneratorExp elt [⟨tg, iter, [], 0⟩] scope gpos) 0 (.ref it) .none (genEnv scope (cloFrom X.env.cells scope.names []) h3.objs.size code builtinsNs X.env)) []) := by
      rw [over_gen]
      refine ⟨hr.hd, ?_, ?_⟩
      · have := hr.dp; show X.A.depth + 1 + 3 * k + 5 < _; omega
      · have := hr.un; show X.A.units + 1 + 1 + 3 + 16 * k + 200 < _; omega
    generalize hB : X.A.in1.in1.over (.compLoop (.GeneratorExp elt [⟨tg, iter, [], 0⟩] scope gpos) 0 (.ref it) .none (genEnv scope (cloFrom X.env.cells scope.names []) h3.objs.size code builtinsNs X.env)) [] = B at hfr rB
    have I5 := gx_start (ys := ys) (B := B) (C := h3.objs.size) (a := h'.objs.size) (code := code) (go := go) (H' := upd H2 T (.tbl (ps ++ more)))
      (s' := { s2 with gens := s2.gens.push (.fresh (.compStart (.GeneratorExp elt [⟨tg, iter, [], 0⟩] scope gpos) 0 (.ref it) .none (genEnv scope (cloFrom X.env.cells scope.names []) h3.objs.size code builtinsNs X.env))), toks := tk + 1 + 1 + 1, heap := h'.push go })
      I2 ok hN hvs (rfl : builtinsNs = builtinsNs) rB.hd hfr (fun b hb => ⟨f2 b hb, szf b hb⟩) rfl bare5 un5 J5.hok hsz hCn (hns.keeps fun b o e => Heap.get?_push_of_some _ e) hpush
      (Nat.le_of_lt (Nat.lt_of_le_of_lt hsz hCa)) (Nat.ne_of_gt hCa) han (fun v q => by rw [hgo] at q; cases q) fun c v z hn _ => by
        obtain ⟨oc, hoc, r⟩ := z
        exact ⟨oc, up c oc (nT c hn) hoc, r⟩
    have n5 : ∀ b ∈ fp, upd H2 T (.tbl (ps ++ more)) b = none := fun b hb => by rw [upd_ne (nT b (f2 b hb).1)]; exact (f2 b hb).1
    have st5 : tn 0 (h'.push go) := Tn.keep _ _ _ st2 fun b hb o e => up b o (nT b (f2 b hb).1) e
    have hgo' : ({ cls := .type "generator", data := .fields #[.int (s2.gens.size : Nat) 0, .str "<genexpr>" (tk + 1), .str (X.env.qual ++ "<genexpr>") (tk + 1 + 1)] } : Obj) = go := hgo.symm
    show Q' (.ref h'.objs.size) { s2 with gens := s2.gens.push (.fresh (.compStart (.GeneratorExp elt [⟨tg, iter, [], 0⟩] scope gpos) 0 (.ref it) .none (genEnv scope (cloFrom X.env.cells scope.names []) h3.objs.size code builtinsNs X.env))), toks := tk + 1 + 1 + 1, heap := h'.push { cls := .type "generator", data := .fields #[.int s2.gens.size 0, .str "<genexpr>" (tk + 1), .str (X.env.qual ++ "<genexpr>") (tk + 1 + 1)] } }
    rw [← hgo]
    refine hQ' B s2 H2 (genEnv scope (cloFrom X.env.cells scope.names []) h3.objs.size code builtinsNs X.env) fp h'.objs.size s2.gens.size go (m0 + 1) _ hgen (hgen _ hpush) J5.nolimit ⟨_, Array.getElem?_push_size .., rfl, ?_⟩ fun s' H' I' =>
      I2.call' (ch := fp) I'.os I'.base I'.hok I'.bare fun b hb => ⟨(f2 b hb).2.2.2.1, (f2 b hb).2.1, (f2 b hb).2.2.2.2.1, (f2 b hb).2.2.2.2.2⟩
    have loop : ∀ s6 : Shared, s6.heap = h'.push go → s6.os = s2.os → AllBare s6.gens → Seg (model X.prog X.w) X.A.in1.in1 _ _ (m0 + 1) s6 (.compLoop (.GeneratorExp elt [⟨tg, iter, [], 0⟩] scope gpos) 0 (.ref it) .none (genEnv scope (cloFrom X.env.cells scope.names []) h3.objs.size code builtinsNs X.env)) _ [] s6 := fun s6 q1 q2 q3 =>
      seg_gx (X' := gxCx X B s2 H2 (genEnv scope (cloFrom X.env.cells scope.names []) h3.objs.size code builtinsNs X.env) ys fp [(h'.objs.size, go)]) (B0 := X.A.in1.in1) hB.symm ok.co rfl rfl rfl
        (fun p hp b hb => by
          rw [List.mem_singleton.mp hp]
          exact Nat.ne_of_gt (Nat.lt_trans (Nat.lt_of_lt_of_le (szf b hb) hsz) hCa))
        Tn (hg B s2 H2 _ _ code fp _ rB) (he B s2 H2 _ _ code fp _ rB)
        (by show _ = (X.N ++ ys).length; rw [wipe_length, List.length_append, List.length_append, List.length_replicate, I2.len]) turn (m0 + 1) 0 m0 s6 s6 _ (Nat.lt_succ_self _) (inv_same I5 q1 q2 q3) (by rw [q1]; exact st5) n5 w0
    have lp := loop (Shared.setGen { s2 with gens := s2.gens.push (.fresh (.compStart (.GeneratorExp elt [⟨tg, iter, [], 0⟩] scope gpos) 0 (.ref it) .none (genEnv scope (cloFrom X.env.cells scope.names []) h3.objs.size code builtinsNs X.env))), toks := tk + 1 + 1 + 1, heap := h'.push go } s2.gens.size .running) rfl rfl (allBare_setGen bare5 rfl)
    show Seg _ X.A.in1.in1 _ _ _ _ _ ((compStart (.GeneratorExp elt [⟨tg, iter, [], 0⟩] scope gpos) 0 (.ref it) .none (genEnv scope (cloFrom X.env.cells scope.names []) h3.objs.size code builtinsNs X.env)).onRaise (leaving _)) [] _
    unfold compStart
    rw [Sem.onRaise_eq_wrap]
    show Seg _ X.A.in1.in1 _ _ _ _ _ ((ask >>= _).wrap _ _ _ _) [] _
    refine seg_bind_wrap (wpAny_askSetting ?_)
    split
    · exact seg_again rfl lp
    · first
        | exact seg_bind_wrap (wpAny_rule (seg_bind_wrap (wpAny_standAt (seg_bind_wrap (Tn.self _ 0 _ _ _ st5 (seg_again rfl lp))))))
        | (refine seg_bind_wrap (wpAny_rule ?_); show Seg _ X.A.in1.in1 _ _ _ _ _ ((standAt iter.pos >>= _).wrap _ _ _ _) [] _; exact seg_bind_wrap (wpAny_standAt (seg_bind_wrap (Tn.self _ 0 _ _ _ st5 (seg_again rfl lp)))))
  cases hf : codeAmong gpos ps.toList with
  | none =>
    refine wpAny_genexprCodeX hcode (cd.code tT htri) (cd.tab tT) hf fun c' h' tk hx hge hlt hco' _ htab' _ => ?_
    obtain ⟨_, _, _, _, _, _, _, _, _, _, _, _, _, _, _, _, _, _, _, htr, _⟩ := hco'
    exact run _ h' tk _ hx (Nat.le_trans hge (Nat.le_of_lt hlt)) htab'.2 ⟨_, rfl⟩ htr
  | some cv =>
    refine wpAny_genexprCode_hit hcode (cd.code tT htri) hf ?_
    exact run cv s2.heap s2.toks ps (Heap.ExtBut.refl _ _) (Nat.le_refl _) tT ⟨#[], by simp⟩ htri
end
end
section
open PySem.Spec PyProof.Rows GenW
/-- all(elt for tg in e), any(..): the element read in full; ny: how many names it has of its own; behind it the def's table may have grown -/
def tAllR (T : Addr) (wi : TI) (g : TG) (te : TE) (ny : Nat) (vs : List Nat) : TE := fun σ H Q => wi σ H fun J H1 => GxR.TabG H1 T ∧ ∀ H1', GxR.Tabbed T H1 H1' → ∃ W : Nat → Nat → Hp → Prop, (∃ m, W 0 m H1') ∧ GxTurn J g te (wipe (σ ++ List.replicate ny none) vs) vs false (fun H2 => Q (.bl true) H2) (fun H2 => Q (.bl false) H2) W
def tAnyR (T : Addr) (wi : TI) (g : TG) (te : TE) (ny : Nat) (vs : List Nat) : TE := fun σ H Q => wi σ H fun J H1 => GxR.TabG H1 T ∧ ∀ H1', GxR.Tabbed T H1 H1' → ∃ W : Nat → Nat → Hp → Prop, (∃ m, W 0 m H1') ∧ GxTurn J g te (wipe (σ ++ List.replicate ny none) vs) vs true (fun H2 => Q (.bl false) H2) (fun H2 => Q (.bl true) H2) W
section
variable {X : Cx}
theorem pe_allR {c0 T : Addr} {elt tg iter : Expr} {p pos gpos : Pos} {scope : Scope} {ys : List Str} {wi : TI} {g : TG} {te : TE} {k : Nat} {own : List (Str × Nat)} {vs : List Nat} (hN : X.N.Nodup) (hvs : ∀ p ∈ own, p.2 ∈ vs)
    (hr : Room (k + 2) X.A) (hgl : Gl X "all") (hm : X.mg "all" = none) (hb : bootBuiltins "all" = some (.builtin "all")) (TB : GxR.TabB X.base X.mg c0 T) (hcode : X.env.code = .ref c0) (ok : GxOk X.N X.env.scope scope own) (hi : PI X tg iter wi)
    (hg : ∀ (B : Around) (s : Shared) (H : Hp) (C : Addr) (cl : List (Str × Addr)) (code : Value) (fp : List Addr) (pn : List (Addr × Obj)), Room k B → PG (gxCx X B s H (genEnv scope cl C code builtinsNs X.env) ys fp pn) tg g)
    (he : ∀ (B : Around) (s : Shared) (H : Hp) (C : Addr) (cl : List (Str × Addr)) (code : Value) (fp : List Addr) (pn : List (Addr × Obj)), Room k B → PE (gxCx X B s H (genEnv scope cl C code builtinsNs X.env) ys fp pn) elt te)
    (hs : ∀ v, genFold iter X.env v = pure v)
    (hst : starEach [.GeneratorExp elt [⟨tg, iter, [], 0⟩] scope gpos] X.env = (false, eval (.GeneratorExp elt [⟨tg, iter, [], 0⟩] scope gpos) X.env) :: starEach [] X.env := by rfl) :
    PE X (.Call (.Name "all" p) [.GeneratorExp elt [⟨tg, iter, [], 0⟩] scope gpos] [] pos) (tAllR T wi g te ys.length vs) := by
  refine ⟨fun pins s σ H Q I h => wpAny_Call_Name_kw (ld_blt I hgl hm hb (PyProof.Rows.callWith_builtin1 ?_ hst (by rfl)))⟩
  rw [hst]
  show wpAny _ _ (spliced ((false, eval (.GeneratorExp elt [⟨tg, iter, [], 0⟩] scope gpos) X.env) :: backTo pos (starEach [] X.env))) _ _ s
  refine Calls.spliced_cons (gx_gen (cb := false) (Fi := fun H2 => Q (.bl true) H2) (Fl := fun H2 => Q (.bl false) H2) hN hvs hr TB hcode ok hi hg he hs I h fun B s2 H2 cenv fp a gn go n s5 hgen hig hlim hgs hback => ?_)
  refine Calls.spliced_nil ?_
  refine call_function_tree F.kind_all F.plain_all F.entry_all (F.args_all1 _) ?_
  unfold Builtin.«all»
  refine wpAny_bind (m := oneArg "all" _) (wpAny_pure ?_)
  refine wpAny_bind (wpAny_pyIter_gen hig ?_)
  refine wpAny_pure ⟨plainId_quiet F.plain_all_loop _, gx_all (X' := gxCx X B s2 H2 cenv ys fp [(a, go)]) (c := false) hr.hd hr.depth hgen (List.mem_singleton.mpr rfl) rfl (fun s' H' I' fi => ?_) (fun s' H' I' fl => ?_) n s5 hig hlim hgs⟩
  · exact ⟨.bl true, H', hback s' H' I', rfl, fi⟩
  · exact ⟨.bl false, H', hback s' H' I', rfl, fl⟩
theorem pe_anyR {c0 T : Addr} {elt tg iter : Expr} {p pos gpos : Pos} {scope : Scope} {ys : List Str} {wi : TI} {g : TG} {te : TE} {k : Nat} {own : List (Str × Nat)} {vs : List Nat} (hN : X.N.Nodup) (hvs : ∀ p ∈ own, p.2 ∈ vs)
    (hr : Room (k + 2) X.A) (hgl : Gl X "any") (hm : X.mg "any" = none) (hb : bootBuiltins "any" = some (.builtin "any")) (TB : GxR.TabB X.base X.mg c0 T) (hcode : X.env.code = .ref c0) (ok : GxOk X.N X.env.scope scope own) (hi : PI X tg iter wi)
    (hg : ∀ (B : Around) (s : Shared) (H : Hp) (C : Addr) (cl : List (Str × Addr)) (code : Value) (fp : List Addr) (pn : List (Addr × Obj)), Room k B → PG (gxCx X B s H (genEnv scope cl C code builtinsNs X.env) ys fp pn) tg g)
    (he : ∀ (B : Around) (s : Shared) (H : Hp) (C : Addr) (cl : List (Str × Addr)) (code : Value) (fp : List Addr) (pn : List (Addr × Obj)), Room k B → PE (gxCx X B s H (genEnv scope cl C code builtinsNs X.env) ys fp pn) elt te)
    (hs : ∀ v, genFold iter X.env v = pure v)
    (hst : starEach [.GeneratorExp elt [⟨tg, iter, [], 0⟩] scope gpos] X.env = (false, eval (.GeneratorExp elt [⟨tg, iter, [], 0⟩] scope gpos) X.env) :: starEach [] X.env := by rfl) :
    PE X (.Call (.Name "any" p) [.GeneratorExp elt [⟨tg, iter, [], 0⟩] scope gpos] [] pos) (tAnyR T wi g te ys.length vs) := by
  refine ⟨fun pins s σ H Q I h => wpAny_Call_Name_kw (ld_blt I hgl hm hb (PyProof.Rows.callWith_builtin1 ?_ hst (by rfl)))⟩
  rw [hst]
  show wpAny _ _ (spliced ((false, eval (.GeneratorExp elt [⟨tg, iter, [], 0⟩] scope gpos) X.env) :: backTo pos (starEach [] X.env))) _ _ s
  refine Calls.spliced_cons (gx_gen (cb := true) (Fi := fun H2 => Q (.bl false) H2) (Fl := fun H2 => Q (.bl true) H2) hN hvs hr TB hcode ok hi hg he hs I h fun B s2 H2 cenv fp a gn go n s5 hgen hig hlim hgs hback => ?_)
  refine Calls.spliced_nil ?_
  refine call_function_tree F.kind_any F.plain_any F.entry_any (F.args_any1 _) ?_
  unfold Builtin.«any»
  refine wpAny_bind (m := oneArg "any" _) (wpAny_pure ?_)
  refine wpAny_bind (wpAny_pyIter_gen hig ?_)
  refine wpAny_pure ⟨plainId_quiet F.plain_any_loop _, gx_any (X' := gxCx X B s2 H2 cenv ys fp [(a, go)]) (c := true) hr.hd hr.depth hgen (List.mem_singleton.mpr rfl) rfl (fun s' H' I' fi => ?_) (fun s' H' I' fl => ?_) n s5 hig hlim hgs⟩
  · exact ⟨.bl false, H', hback s' H' I', rfl, fi⟩
  · exact ⟨.bl true, H', hback s' H' I', rfl, fl⟩
end
end
/-! ### over a tuple, over a range -/
section
variable {K : PySem.W.Frag} {g : TG} {te : TE} {σ : L2.St} {vs : List Nat} {c : Bool} {Fi Fl : Hp → Prop} {H1 : Hp}
theorem gx_tup {a : Addr} {xs : List V} (Pv : Nat → Hp → Prop) (h0 : Pv 0 H1) (hl : ∀ i H, i ≤ xs.length → Pv i H → SqT K H a xs)
    (hs : ∀ i x H, xs[i]? = some x → Pv i H → g x σ H fun σ2 H2 => wipe σ2 vs = σ ∧ te σ2 H2 fun y H3 => ∃ b, y = .bl b ∧ (b = c → Fl H3) ∧ (b = !c → Pv (i + 1) H3)) (hd : ∀ H, Pv xs.length H → Fi H) :
    ∃ W : Nat → Nat → Hp → Prop, (∃ m, W 0 m H1) ∧ GxTurn (Itt K a) g te σ vs c Fi Fl W := by
  refine ⟨fun i m H => m = xs.length - i ∧ i ≤ xs.length ∧ Pv i H, ⟨xs.length, by simp, Nat.zero_le _, h0⟩, ?_⟩
  rintro i m H ⟨rfl, hi, p⟩
  have q := hl i H hi p
  by_cases hlt : i < xs.length
  · refine .inr ⟨⟨xs, xs[i], q, by simp [hlt]⟩, Pv (i + 1), fun H' p' => ⟨xs.length - (i + 1), by omega, rfl, hlt, p'⟩, fun x H' y => ?_⟩
    obtain ⟨e, y⟩ := y
    subst e
    exact hs i x _ (y xs q) p
  · have e : i = xs.length := by omega
    subst e
    exact .inl ⟨⟨xs, q, Nat.le_refl _⟩, hd H p⟩
theorem gx_range {lo : Int} {n : Nat} (Pv : Nat → Hp → Prop) (h0 : Pv 0 H1)
    (hs : ∀ i H, i < n → Pv i H → g (.int (lo + i)) σ H fun σ2 H2 => wipe σ2 vs = σ ∧ te σ2 H2 fun y H3 => ∃ b, y = .bl b ∧ (b = c → Fl H3) ∧ (b = !c → Pv (i + 1) H3)) (hd : ∀ H, Pv n H → Fi H) :
    ∃ W : Nat → Nat → Hp → Prop, (∃ m, W 0 m H1) ∧ GxTurn (Itr lo n) g te σ vs c Fi Fl W := by
  refine ⟨fun i m H => m = n - i ∧ i ≤ n ∧ Pv i H, ⟨n, by simp, Nat.zero_le _, h0⟩, ?_⟩
  rintro i m H ⟨rfl, hi, p⟩
  by_cases hlt : i < n
  · refine .inr ⟨hlt, Pv (i + 1), fun H' p' => ⟨n - (i + 1), by omega, rfl, hlt, p'⟩, fun x H' y => ?_⟩
    obtain ⟨e, y⟩ := y
    subst e y
    exact hs i _ hlt p
  · have e : i = n := by omega
    subst e
    exact .inl ⟨Nat.le_refl _, hd H p⟩
end

/-! ### sorted(xs, key=sum), xs a list or a tuple of tuples of ints -/
section
open PySem.Spec PyProof.Rows PySem.W PySem.Calls
variable {prog : Program} {w : World} {A : Around} {E : Value → Shared → Prop} {s : Shared}
/-- the heap behind collecting -/
abbrev cpH (h : Heap) (vs : List Value) : Heap := (h.push (seqObj "list" #[] 0)).update h.objs.size (Obj.mapSeq (· ++ vs.toArray))
/-- a list's or a tuple's items -/
def SeqAt (h : Heap) (a : Addr) (vs : List Value) : Prop := h.IsList a vs.toArray ∨ h.IsTuple a vs.toArray
theorem collect_seqA {a : Addr} {vs : List Value} {Q : List Value → Shared → Prop} (hs : SeqAt s.heap a vs) (hz : vs.length ≤ sizeLine) (h : Q vs { s with heap := cpH s.heap vs }) :
    wpAny (model prog w) A (collect (.ref a)) Q E s := by
  rcases hs with hs | hs
  · exact collect_list hs h hz
  · obtain ⟨ob, hob, hcl, cnt, hdt⟩ := id hs
    have hob' : (s.heap.push (seqObj "list" #[] 0)).get? a = some ob := Heap.get?_push_of_some _ hob
    have hnew : (s.heap.push (seqObj "list" #[] 0)).get? s.heap.objs.size = some (seqObj "list" #[] 0) := Heap.get?_push_size _ rfl
    unfold collect
    refine wpAny_bind (wpAny_runValue (codeAny_builtin entry_proto_collect' (wpAny_bind (wpAny_newList (wpAny_pure ⟨Code.quiet_builtin _ (by decide +kernel), codeAny_builtin entry_list_iadd' ?_⟩)))))
    show wpAny _ _ (Builtin.List.listExtendWith (.ref s.heap.objs.size) (.ref a) (.ref s.heap.objs.size)) _ _ { s with heap := s.heap.push (seqObj "list" #[] 0) }
    unfold Builtin.List.listExtendWith
    refine wpAny_bind (wpAny_typeOf (T := "tuple") ⟨ob, hob', hcl⟩ ?_)
    rw [if_pos (by rw [show (Value.type "tuple" == Value.type "tuple") = true from rfl]; simp)]
    refine wpAny_bind (listItems_at hob' hdt (wpAny_bind (listItems_at (xs := #[]) (n := 0) hnew rfl ?_)))
    rw [if_neg (by simp)]
    refine wpAny_bind (listUpdate_at (xs := #[]) (n := 0) hnew rfl (wpAny_pure ?_) (Nat.zero_le _) (by show (#[] ++ vs.toArray).size ≤ sizeLine + 1; simp only [Array.size_append, List.size_toArray, List.length_nil]; omega))
    refine wpAny_bind (wpAny_load (get?_update_seq hnew _) ?_)
    show wpAny _ _ (pure ((#[] : Array Value) ++ vs.toArray).toList) Q E _
    rw [show ((#[] : Array Value) ++ vs.toArray).toList = vs by simp]
    exact wpAny_pure h
theorem sorted_ofA {a : Addr} {vs : List Value} {kw : List (Str × Value)} {Q : Value → Shared → Prop} (hs : SeqAt s.heap a vs) (hz : vs.length ≤ sizeLine) (ha1 : argsOk "sorted" ⟨[.ref a], kw⟩) (ha2 : ∀ x, argsOk "list.sort" ⟨[.ref x], kw⟩)
    (body : ∀ E' : Value → Shared → Prop, wpAny (model prog w) A.in1.in1 (Builtin.«list.sort» ⟨[.ref (s.heap.objs.size + 1)], kw⟩) (fun f s' => f = .done (.ret .none) ∧ Q (.ref (s.heap.objs.size + 1)) s') E' { s with heap := copyHeap s.heap vs }) :
    wpAny (model prog w) A (call (.builtin "sorted") [.ref a] kw) Q E s := by
  rcases hs with hs | hs
  · exact sorted_of_sort hs hz ha1 ha2 body
  · refine call_function_entry_kw kind_sorted plain_sorted entry_sorted ha1 ?_
    unfold Builtin.«sorted»
    have hcn : (cpH s.heap vs).objs.size = s.heap.objs.size + 1 := (Heap.size_update ..).trans (size_push' ..)
    refine wpAny_bind (m := checkCount "sorted" 1 1 _) (wpAny_pure (wpAny_bind (collect_seqA (.inr hs) hz (wpAny_bind (wpAny_newList ?_ hz)))))
    show wpAny _ _ _ _ _ { s with heap := copyHeap s.heap vs }
    rw [hcn]
    refine wpAny_bind (wpAny_holding (wpAny_call_entry_kw slot_list_sort ⟨_, copyHeap_at s.heap vs, rfl⟩ entry_list_sort ?bd (ha2 _)))
    case bd =>
      refine wpAny_mono (body _) (fun f s' hf => ?_) fun _ _ e => e
      obtain ⟨rfl, hq⟩ := hf
      exact ⟨_, rfl, wpAny_pure ⟨_, rfl, hq⟩⟩
end
section
open PySem.Spec PyProof.Rows PySem.W
variable {prog : Program} {w : World} {A : Around} {E : Value → Shared → Prop} {s : Shared}
theorem sorted_keyA {β : Type} {a : Addr} {vs : List Value} {bs : List β} {R : Value → β → Prop} {f : Value} {kw : List (Str × Value)} {Q : Value → Shared → Prop} (k : β → PyData) (hs : SeqAt s.heap a vs) (e : EachIs R vs bs)
    (hal : AllAlike (bs.map k)) (hk : Sortable (bs.map k)) (hz : bs.length ≤ sizeLine) (hu : ∀ x, x ∈ bs → A.units + 2 + (k x).depth < cLine)
    (ha1 : argsOk "sorted" ⟨[.ref a], kw⟩) (ha2 : ∀ x, argsOk "list.sort" ⟨[.ref x], kw⟩) (ht : ∀ x, Builtin.«list.sort» ⟨[.ref x], kw⟩ = ksk_tree x f false)
    (turn : ∀ (v : Value) (x : β), R v x → x ∈ bs → ∀ (h : Heap) (tk : Nat), Kp s.heap h → wpAny (model prog w) A.in1.in1 (call f [v]) (KeyPure (k x) { s with heap := h, toks := tk }) (fun _ _ => False) { s with heap := h, toks := tk })
    (h : ∀ out c h' tk, Kp s.heap h' → h'.get? (s.heap.objs.size + 1) = some (seqObj "list" (List.toArray out) c) → EachIs R out (bs.mergeSort (dataLe false k)) → Q (.ref (s.heap.objs.size + 1)) { s with heap := h', toks := tk }) :
    wpAny (model prog w) A (call (.builtin "sorted") [.ref a] kw) Q E s := by
  have hzv : vs.length ≤ sizeLine := by rw [e.length]; exact hz
  have up : ∀ {g : Heap}, KeepsBut (s.heap.objs.size + 1) (copyHeap s.heap vs) g → Kp s.heap g := fun {g} kp b o q => kp b o (Nat.ne_of_lt (Nat.lt_succ_of_lt (Heap.lt_size q))) (copyHeap_old q)
  refine sorted_ofA hs hzv ha1 ha2 fun E' => ?_
  rw [ht]
  have el : (bs.map k).length = vs.length := by rw [List.length_map]; exact e.length.symm
  refine keyH_tree (kz := bs.map k) (s := { s with heap := copyHeap s.heap vs }) (copyHeap_at s.heap vs) el hzv hal hk (bound_map (A := A.in1.in1) hu) (keyH_turns (s := { s with heap := copyHeap s.heap vs }) e fun v x hR hx g tk kp => turn v x hR hx g tk (up kp)) ?_
  exact fun h' tk out c kp hD ko => ⟨rfl, h out c h' tk (up kp) hD (keyedOut_each k ko e)⟩
theorem sort_tree_sum (a : Addr) : Builtin.«list.sort» ⟨[.ref a], [(Str.ofString "key", .builtin "sum")]⟩ = ksk_tree a (.builtin "sum") false := rfl
end
section
open PySem.Spec PyProof.Rows PySem.W
variable {X : Cx}
def tSortSum (X : Cx) (te : TE) : TE := fun σ H Q => tCons te tNil σ H fun vs H1 => ∃ (a : Addr) (bs : List (V × List Int)), vs = [.ref a] ∧ (SqL X.K H1 a (bs.map (·.1)) ∨ SqT X.K H1 a (bs.map (·.1))) ∧
  (∀ b ∈ bs, ∃ p, b.1 = .ref p ∧ SqT X.K H1 p (b.2.map V.int)) ∧ ∀ p, H1 p = none → Q (.ref p) (upd H1 p (.lst ((bs.mergeSort (dataLe false fun b => .int b.2.sum)).map (·.1))))
theorem pe_sortSum {e : Expr} {te : TE} {p pos kpos spos : Pos} {k : Nat} (hr : Room k X.A) (hc : X.calm = true) (hg : Gl X "sorted") (hm : X.mg "sorted" = none) (hg2 : Gl X "sum") (hm2 : X.mg "sum" = none) (he : PE X e te)
    (q0 : starEach [e] X.env = (false, eval e X.env) :: starEach [] X.env := by rfl)
    (q1 : backTo pos (starEach [e] X.env) = (false, eval e X.env) :: backTo pos (starEach [] X.env) := by rfl) (q2 : (backTo pos (starEach [e] X.env)).any (·.1) = false := by rfl)
    (q3 : (backToKw pos (keywordEach [⟨some "key", .Name "sum" spos, kpos⟩] X.env)).all (·.1.isSome) = true := by rfl) (q4 : (backToKw pos (keywordEach [⟨some "key", .Name "sum" spos, kpos⟩] X.env)).any (·.1.isNone) = false := by rfl)
    (q5 : (backToKw pos (keywordEach [⟨some "key", .Name "sum" spos, kpos⟩] X.env)).filterMap (·.1) = [Str.ofString "key"] := by rfl) :
    PE X (.Call (.Name "sorted" p) [e] [⟨some "key", .Name "sum" spos, kpos⟩] pos) (tSortSum X te) := by
  refine ⟨fun pins s σ H Q I h => wpAny_Call_Name_kw (ld_blt I hg hm bo_sorted ?_)⟩
  have ha := pa_cons (X := X) he pa_nil q0
  refine callWith_kw (thn (ha.run pos pins s σ H _ I h) fun us s1 ⟨vs, H1, I1, r1, a, bs, ev, hs, hb, q⟩ => ?_) q1 q2 q3 q4
  rw [q5]
  show wpAny _ _ (evalAll [do let v ← eval (.Name "sum" spos) X.env; standAt pos; pure v]) _ _ s1
  refine wpAny_evalAll_cons (wpAny_bind (ld_blt I1 hg2 hm2 bo_sum (wpAny_bind (wpAny_standAt (wpAny_pure (wpAny_evalAll_nil ?_))))))
  subst ev
  obtain rfl := Vals.ref1 r1
  have hseq : ∃ its : List Value, Vals (bs.map (·.1)) its ∧ SeqAt s1.heap a its ∧ (bs.map (·.1)).length ≤ sizeLine := by
    rcases hs with hs | hs
    · obtain ⟨its, rv, hl, hz⟩ := I1.list hs
      exact ⟨its, rv, .inl hl.isList, hz⟩
    · obtain ⟨its, rv, hl, hz⟩ := I1.tuple hs
      exact ⟨its, rv, .inr hl, hz⟩
  obtain ⟨its, rv, hsq, hz⟩ := hseq
  have e := each_of (g := fun b : V × List Int => b.1) rv
  have hzb : bs.length ≤ sizeLine := by rw [List.length_map] at hz; exact hz
  refine sorted_keyA (R := fun v (b : V × List Int) => RelV b.1 v) (f := .builtin "sum") (kw := [(Str.ofString "key", .builtin "sum")]) (fun b => .int b.2.sum) hsq e (alike_ints _ bs) (sortable_ints _ bs) hzb (fun b hb' => ?_) (PyProof.Rows.ksk_s1 _ _) (fun _ => PyProof.Rows.ksk_l1 _ _) sort_tree_sum (fun v b rr hb' g tk kp => ?_) fun out c h' tk kp hat ho => ?_
  · have := hr.units
    show X.A.units + 2 + (PyData.int b.2.sum).depth < cLine
    simp only [PyData.depth]
    omega
  · obtain ⟨t, et, ht⟩ := hb b hb'
    rw [et] at rr
    obtain rfl : v = Value.ref t := rr
    obtain ⟨jts, rj, hj, _⟩ := I1.tuple ht
    have hi := intsAre_of rj
    obtain ⟨xs, ex⟩ := hi.allInts.items
    have hn : numsOf (intItems xs).toList = b.2 := by rw [← ex]; exact hi.numsOf
    rw [nums_intItems] at hn
    have hl' : Heap.IsTuple g t (intItems xs) := by
      rw [← ex]
      obtain ⟨o, ho, r⟩ := hj
      exact ⟨o, kp _ _ ho, r⟩
    refine ktm_sumG (s := { s1 with heap := g, toks := tk }) hr.hd hl' fun h' tk' t' hk => ⟨h', tk', rfl, hk, ?_⟩
    rw [preSum_eq, List.take_of_length_le (by simp), hn]
    exact .int _ _
  · have hlen : ((bs.mergeSort (dataLe false fun b => .int b.2.sum)).map (·.1)).length ≤ sizeLine := by rw [List.length_map, (List.mergeSort_perm _ _).length_eq]; exact hzb
    exact ⟨.ref _, _, I1.laid (t' := tk) (o := .lst ((bs.mergeSort (dataLe false fun b => .int b.2.sum)).map (·.1))) kp (Nat.le_succ _) ⟨hlen, out, c, vals_of_each ho, hat⟩, rfl, q _ (I1.hok.fresh (Nat.le_succ _))⟩
end
/-- xs += ys, lists -/
theorem ip_ext {X : Cx} : PIp X .Add rExt2 := fun _ _ _ _ _ _ _ _ _ I rx ry q => augR iop_ext I rx ry q

/-! ### set(xs), xs a tuple of tuples of ints; sorted of such a set -/
section
open PySem.Spec PyProof.Rows PySem.Calls
variable {P : Program} {w : World} {A : Around} {E : Value → Shared → Prop} {s : Shared}
abbrev nSet (w : World) : Obj := { cls := .type "set", dict := none, data := .set #[] 0 (.fresh 0 0 (!w.params.followText "set-order")) }
set_option maxHeartbeats 3200000 in
theorem call_set_tupT {l : Addr} {items : Array Value} (ks : List (Addr × List Int)) {Q : Value → Shared → Prop} (hh : A.handled = none) (hl : s.heap.IsTuple l items) (hit : items.toList = ks.map fun p => Value.ref p.1)
    (hk : ∀ p ∈ ks, IsT P w s.heap p.2 p.1) (hfew : ks.length < 64) (hu : A.units + 3 < cLine)
    (h : ∀ (h' : Heap) (tk : Nat) L es ep t, SetTR P w h' s.heap.objs.size L es ep t → Got ks ks.length L → Kp s.heap h' → Q (.ref s.heap.objs.size) { s with heap := h', toks := tk }) :
    wpAny (model P w) A (call (.type "set") [.ref l]) Q E s := by
  have hcnt : items.size = ks.length := by have q := congrArg List.length hit; rwa [Array.length_toList, List.length_map] at q
  obtain ⟨c, tl, hmro⟩ := F.called_set.mro
  have hmade := F.called_set.made; have hsub := F.called_set.sub
  refine wpAny_call (codeAny_of_tree ?_)
  show wpAny _ _ (callAny (.type "set") _) _ _ _
  refine wpAny_pure ⟨Code.quiet_builtin _ (by decide +kernel), codeAny_builtin F.entry_type_call ?_⟩
  rw [Around.under_plain (weight_type_call_type "set" [.ref l] []) rfl]
  have g1 := F.called_set.notType; have g2 := F.called_set.canCreate; have g3 := F.typeCall_set_1 (.ref l)
  repeat (any_goals (first | assumption | wp_step))
  refine codeAny_mono (code_set_led1 (.ref l) (E := E) (Q₁ := fun obj z => obj = .ref s.heap.objs.size ∧ z = { s with heap := s.heap.push (nSet w) }) ⟨rfl, rfl⟩) fun r z hr => ?_
  cases r with
  | error e => exact hr
  | ok fl =>
    cases fl with
    | ret obj =>
      obtain ⟨rfl, rfl⟩ := hr
      have hS : (s.heap.push (nSet w)).get? s.heap.objs.size = some (nSet w) := Heap.get?_push_size _ rfl
      have hT : Shared.TypeIs { s with heap := s.heap.push (nSet w) } (.ref s.heap.objs.size) "set" := ⟨_, hS, rfl⟩
      have hli := F.called_set.init.lookup; have hbi := F.called_set.init.bind (.ref s.heap.objs.size)
      repeat (any_goals (first | assumption | wp_step))
      refine codeAny_mono (codeAny_call_builtin (R := wants (fun r z => r = .none ∧ ∃ h' tk L es ep t, z = { s with heap := h', toks := tk } ∧ SetTR P w h' s.heap.objs.size L es ep t ∧ Got ks ks.length L ∧ Kp s.heap h') E) F.called_set.init.plain F.entry_set_init (check_set_init_1 hT ?_)) fun r2 z2 hr2 => ?_
      · obtain ⟨⟨ocls, odict, odata, oslots⟩, hol, hcl, nl, hdl⟩ := hl
        simp only at hcl hdl
        subst hcl; subst hdl
        have hol' : (s.heap.push (nSet w)).get? l = some { cls := .type "tuple", dict := odict, data := .seq items nl, slots := oslots } := Heap.get?_push_of_some _ hol
        have u1 := F.sub_tuple_set; have u2 := F.sub_tuple_frozenset
        have u3 : (Value.type "tuple" == Value.type "dict") = false := by decide
        have hl1 : (s.heap.push (nSet w)).IsTuple l items := ⟨_, hol', rfl, nl, rfl⟩
        unfold Builtin.«set.__init__» noKeywords Builtin.Frozenset.updateFrom
        generalize hPI : pyIter = PI
        wp_walk
        subst hPI
        refine wpAny_pyIter_tuple hl1 (wpAny_bind (wpAny_runValue ?_))
        have hlS : l < s.heap.objs.size := Heap.lt_size hol
        have hh3 : A.in1.in1.in1.handled = none := by simp [hh]
        have hneI : l ≠ (s.heap.push (nSet w)).objs.size := by rw [Heap.size_push]; exact Nat.ne_of_lt (Nat.lt_succ_of_lt hlS)
        have hSf : s.heap.objs.size ∉ [(s.heap.push (nSet w)).objs.size, l] := fun z => by
          rw [Heap.size_push] at z
          rcases List.mem_cons.mp z with z | z
          · exact absurd z (Nat.ne_of_lt (Nat.lt_succ_self _))
          · exact absurd (List.mem_singleton.mp z) (Nat.ne_of_gt hlS)
        have hval : ∀ (i : Nat) (v : Value), items[i]? = some v → ∃ p, ks[i]? = some p ∧ v = .ref p.1 := fun i v hv => by
          have q : (ks.map fun p => Value.ref p.1)[i]? = some v := by rw [← hit, Array.getElem?_toList]; exact hv
          rw [List.getElem?_map] at q
          obtain ⟨p, hp, e⟩ := Option.map_eq_some_iff.mp q
          exact ⟨p, hp, e.symm⟩
        have fr : ∀ b, s.heap.objs.size ≤ b → s.heap.get? b = none := fun b hb => Heap.get?_none_of_le hb
        refine set_update_tups ((Walks.tuple hh3 _ l hneI items).toS) s.heap.objs.size hSf ks hcnt hfew hval s.heap hk (fr _ (Nat.le_refl _)) (fun b hb => fr b (by rw [List.mem_singleton.mp hb, Heap.size_push]; exact Nat.le_succ _)) hu (items.size - 0) 0 _ (by omega) (Nat.zero_le _)
          ⟨⟨_, Heap.get?_push_size _ rfl, rfl, rfl⟩, (hl1.push _)⟩ (fun b o e => Heap.get?_push_of_some _ (Heap.get?_push_of_some _ e)) ⟨[], #[], 0, _, setTR_fresh (Heap.get?_push_of_some _ hS), Got.zero ks⟩ ?_
        intro s' L es ep t hm hS' g' hkp
        obtain ⟨h', g2, d', tk', os'⟩ := s'
        obtain rfl : g2 = s.gens := hm.gens
        obtain rfl : d' = s.drawn := hm.drawn
        obtain rfl : os' = s.os := hm.os
        rw [hcnt] at g'
        show wpAny _ _ _ _ _ _
        refine wpAny_pure ?_
        show wpAny _ _ (ret Value.none) _ _ _
        exact wpAny_pure ⟨rfl, h', tk', L, es, ep, t, rfl, hS', g', hkp⟩
      · cases r2 with
        | error e => exact hr2
        | ok fl2 =>
          cases fl2 with
          | ret r =>
            obtain ⟨rfl, h', tk, L, es, ep, t, rfl, hS', g', hk'⟩ := hr2
            repeat (any_goals (first | assumption | wp_step))
            exact h _ _ _ _ _ _ hS' g' hk'
          | _ => exact hr2.elim
    | _ => exact hr.elim
end
section
open PySem.Spec PyProof.Rows
variable {X : Cx}
/-- set(xs), xs a list or a tuple of tuples of ints -/
def rSetA (K : PySem.W.Frag) (P : Program) (w : World) : List V → Hp → VK → Prop := fun xs H Q => ∃ (l : Addr) (ks : List (Addr × List Int)), xs = [V.ref l] ∧ (SqL K H l (ks.map fun p => V.ref p.1) ∨ SqT K H l (ks.map fun p => V.ref p.1)) ∧ (∀ p ∈ ks, SqT K H p.1 (p.2.map V.int)) ∧ ks.length < 64 ∧
  ∀ a L, H a = none → (∀ p ∈ L, p ∈ ks) → (∀ p ∈ ks, p.2 ∈ L.map (·.2)) → Q (.ref a) (upd H a (SetTO P w a L))
theorem cr_setA (hc : X.calm = true) (hu : X.A.units + 64 < cLine) : CallR X (.type "set") (rSetA X.K X.prog X.w) := by
  intro pins s σ H xs us Q I r ⟨l, ks, ex, hl, hk, hf, q⟩
  rcases hl with hl | hl
  · exact cr_setOfT hc hu pins s σ H xs us Q I r ⟨l, ks, ex, hl, hk, hf, q⟩
  · subst ex
    obtain rfl := Vals.ref1 r
    obtain ⟨its, rv, pl, hz⟩ := I.tuple hl
    refine call_set_tupT (P := X.prog) (w := X.w) ks (I.ok.hd hc) pl (by simpa using refs_of_vals rv) (fun p hp => I.isT (hk p hp)) hf (by omega) fun h' tk L es ep t R g k => ?_
    exact ⟨.ref s.heap.objs.size, _, I.laid (t' := tk) k (Nat.le_refl _) (setTO_new R.t0), rfl, q _ L (I.hok.fresh (Nat.le_refl _)) (fun p hp => List.mem_of_mem_take (g.sub p hp)) fun p hp => g.all p (by rw [List.take_length]; exact hp)⟩
end

/-! ### sorted(set), the set's items tuples of ints, none empty -/
section
open PySem.Spec PyProof.Rows PySem.Calls PySem.W
variable {P : Program} {w : World} {A : Around} {E : Value → Shared → Prop} {s : Shared}
theorem set_pairs {h : Heap} {L : List (Addr × List Int)} (tup : ∀ p ∈ L, IsT P w h p.2 p.1) (nd : (L.map (·.2)).Nodup) {vs : List Value} (pm : vs.Perm (L.map fun q => Value.ref q.1)) :
    ∃ L1 : List (Addr × List Int), vs = L1.map (fun q => Value.ref q.1) ∧ L1.Perm L := by
  obtain ⟨L1, h1, h2⟩ : ∃ L1 : List (Addr × List Int), L1.Perm L ∧ vs = L1.map (fun q => Value.ref q.1) := by
    clear nd tup
    generalize hm : L.map (fun q => Value.ref q.1) = us at pm
    induction pm generalizing L with
    | nil => exact ⟨[], by rw [List.map_eq_nil_iff.mp hm], rfl⟩
    | @cons x l1 l2 _ ih =>
      obtain ⟨q, L', rfl, e1, e2⟩ := List.map_eq_cons_iff.mp hm
      obtain ⟨L1, a, b⟩ := ih e2
      exact ⟨q :: L1, a.cons q, by rw [List.map_cons, e1, b]⟩
    | swap x y l =>
      obtain ⟨q, L', rfl, e1, e2⟩ := List.map_eq_cons_iff.mp hm
      obtain ⟨r, L'', rfl, e3, e4⟩ := List.map_eq_cons_iff.mp e2
      exact ⟨r :: q :: L'', List.Perm.swap _ _ _, by rw [List.map_cons, List.map_cons, e1, e3, e4]⟩
    | trans _ _ ih1 ih2 =>
      obtain ⟨L1, a, b⟩ := ih2 hm
      obtain ⟨L2, c, d⟩ := ih1 b.symm
      exact ⟨L2, c.trans a, d⟩
  exact ⟨L1, h2, h1⟩
theorem reads_ints {h : Heap} {k : List Int} {b : Addr} (x : IsT P w h k b) : Reads h (.ref b) (.tuple (k.map .int)) [] := by
  obtain ⟨o, items, n, ho, hc, hd, hi⟩ := x
  have key : ∀ {k : List Int} {vs : List Value}, ItemsAre (intKind P w) k vs → ReadsAll h vs (k.map .int) [] := by
    intro k vs hi
    induction hi with
    | nil => exact .nil
    | @cons k0 v ks vs h1 _ ih =>
      obtain ⟨t, rfl⟩ := Value.isInt_shape h1
      exact .cons (.int _ _) ih
  exact .tuple ho hc hd (key hi)
theorem sorted_setD {a : Addr} {L : List (Addr × List Int)} {es : Array (Int × Value)} {ep : Nat} {t : SetTable} {Q : Value → Shared → Prop} (R : SetTR P w s.heap a L es ep t) (hh : A.handled = none) (hne : ∀ p ∈ L, p.2 ≠ []) (hu : A.units + 8 < cLine)
    (hQ : ∀ s' p (out : List Value) (c : Nat) (L1 : List (Addr × List Int)), Kp s.heap s'.heap → s'.gens = s.gens → s'.os = s.os → s.heap.objs.size ≤ p → L1.Perm L →
      s'.heap.get? p = some (seqObj "list" out.toArray c) → EachIs (fun v (q : Addr × List Int) => v = Value.ref q.1) out (L1.mergeSort (dataLe false fun q => .tuple (q.2.map .int))) → Q (.ref p) s') :
    wpAny (model P w) A (call (.builtin "sorted") [.ref a]) Q E s := by
  obtain ⟨o, ho, hex, hd⟩ := R.ob
  have hsz := R.size; have hfew := R.few
  refine call_function_entry kind_sorted plain_sorted entry_sorted (args_sorted1 _) ?_
  unfold Builtin.«sorted»
  refine wpAny_bind (m := checkCount "sorted" 1 1 _) (wpAny_pure (wpAny_bind (collect_set (A := A.in1) hh ⟨o, ho, hex.1, hd⟩ R.fits (by unfold scanBound; omega) R.tab.ris R.led fun s1 vs k1 hz g1 o1 pm => ?_)))
  have hes : es.toList.map (·.2) = L.map fun q => Value.ref q.1 := by rw [R.rows]; unfold L2.rowsOf; rw [List.map_map]; rfl
  rw [hes] at pm
  obtain ⟨L1, ev, pL⟩ := set_pairs R.tup R.nd pm
  have hvl : vs.length < 64 := by rw [pm.length_eq, List.length_map]; exact hfew
  refine wpAny_bind (wpAny_newList ?_ (by rw [sizeLine_eq]; omega))
  have hoL : (s1.heap.push (seqObj "list" vs.toArray 0)).get? s1.heap.objs.size = some (seqObj "list" vs.toArray 0) := Heap.get?_push_size _ rfl
  have el : EachIs (fun v (q : Addr × List Int) => v = Value.ref q.1) vs L1 := by
    rw [ev]
    clear ev pL
    induction L1 with
    | nil => exact .nil
    | cons q L1 ih => exact .cons rfl ih
  have mem : ∀ q ∈ L1, q ∈ L := fun q hq => pL.mem_iff.mp hq
  refine wpAny_bind (wpAny_holding (list_sort_data (s := { s1 with heap := s1.heap.push (seqObj "list" vs.toArray 0) }) (R := fun v (q : Addr × List Int) => v = Value.ref q.1) (enc := fun q => .tuple (q.2.map .int)) hoL el
    (each_and el fun v q hq e => ⟨[], by rw [e]; exact reads_ints (P := P) (w := w) (isT_keep (R.tup q (mem q hq)) fun b u e => Heap.get?_push_of_some _ (k1 b u e)), fun z => nomatch z⟩)
    (PySem.W.AllAlike.of fun b b' => by unfold alike; exact PySem.W.alike_ints _ _) (.inl fun d hd => ?_) (by rw [← el.length, sizeLine_eq]; omega) (fun q hq => ?_) fun out hol ho => ?_))
  · obtain ⟨q, hq, rfl⟩ := List.mem_map.mp hd
    have := hne q (mem q hq)
    cases e : q.2 with
    | nil => exact absurd e this
    | cons x r => exact ⟨.int x, r.map .int, by simp⟩
  · have : (PyData.tuple (q.2.map .int)).depth ≤ 1 := by simp only [PyData.depth, PySem.W.depth_ints]; omega
    show A.in1.units + 1 + _ < cLine
    have e : A.in1.units = A.units + 1 := by simp
    omega
  · obtain ⟨c, hc⟩ := sortedHeap_at (vs := vs) (out := out.toArray) hoL
    refine wpAny_pure ⟨_, rfl, hQ _ s1.heap.objs.size out c L1 (fun b u e => ?_) g1 o1 hz pL hc ho⟩
    have q := k1 b u e
    have hlt := Heap.lt_size q
    show (sortedHeap (s1.heap.push (seqObj "list" vs.toArray 0)) s1.heap.objs.size vs out.toArray).get? b = some u
    rw [sortedHeap_old (Nat.ne_of_lt hlt) (by rw [size_push']; exact Nat.lt_succ_of_lt hlt)]
    exact Heap.get?_push_of_some _ q
end
section
open PySem.Spec PyProof.Rows PySem.W
variable {X : Cx}
def rSortedSet (K : PySem.W.Frag) (P : Program) (w : World) : List V → Hp → VK → Prop := fun vs H Q => ∃ (a : Addr) (L : List (Addr × List Int)), vs = [V.ref a] ∧ H a = some (SetTO P w a L) ∧ (∀ p ∈ L, SqT K H p.1 (p.2.map V.int)) ∧ (∀ p ∈ L, p.2 ≠ []) ∧
  ∀ (L1 : List (Addr × List Int)) (p : Addr), L1.Perm L → (L1.map (·.2)).Nodup → H p = none → Q (.ref p) (upd H p (.lst ((L1.mergeSort (dataLe false fun q => .tuple (q.2.map .int))).map fun q => V.ref q.1)))
theorem cr_sortedSet (hc : X.calm = true) (hu : X.A.units + 64 < cLine) : CallR X (.builtin "sorted") (rSortedSet X.K X.prog X.w) := by
  intro pins s σ H vs us Q I r ⟨a, L, ev, ha, hk, hne, q⟩
  subst ev
  obtain rfl := Vals.ref1 r
  have R0 : SetT0 X.prog X.w s.heap a L := (I.hok a _ ha).1
  obtain ⟨es, ep, t, R⟩ := R0.full fun p hp => I.isT (hk p hp)
  refine sorted_setD R (I.ok.hd hc) hne (by omega) fun s' p out c L1 k g o hp pm hg ho => ?_
  have hfew : L1.length < 64 := by rw [pm.length_eq]; exact R.few
  have hlen : ((L1.mergeSort (dataLe false fun q => .tuple (q.2.map .int))).map fun q => V.ref q.1).length ≤ sizeLine := by rw [List.length_map, (List.mergeSort_perm _ _).length_eq, sizeLine_eq]; omega
  have hn : H p = none := I.hok.fresh hp
  have hv : Vals ((L1.mergeSort (dataLe false fun q => .tuple (q.2.map .int))).map fun q => V.ref q.1) out := vals_of_each (g := fun q : Addr × List Int => V.ref q.1) (each_and ho fun v q _ e => e)
  have J : Inv X pins σ (upd H p (.lst ((L1.mergeSort (dataLe false fun q => .tuple (q.2.map .int))).map fun q => V.ref q.1))) { s with heap := s'.heap, gens := s'.gens, drawn := s'.drawn, toks := s'.toks } :=
    I.call (ch := []) (Un.laid k hp hn) (I.hok.laid k hp ⟨hlen, out, c, hv, hg⟩) (by rw [g]; exact I.bare) (fun _ z => nomatch z)
  have e : s' = { s with heap := s'.heap, gens := s'.gens, drawn := s'.drawn, toks := s'.toks } := by cases s'; cases s; cases o; rfl
  rw [e]
  exact ⟨.ref p, _, J, rfl, q L1 p pm ((pm.map (·.2)).nodup_iff.mpr R.nd) hn⟩
end

/-! ### sorted(set): also of one item, which may be the empty tuple -/
section
open PySem.Spec PyProof.Rows PySem.Calls PySem.W
variable {P : Program} {w : World} {A : Around} {E : Value → Shared → Prop} {s : Shared}
theorem reads_nil {h : Heap} {x : Value} {as : List Addr} (r : Reads h x (.tuple []) as) : ∃ (l : Addr) (o : Obj) (n : Nat), x = .ref l ∧ h.get? l = some o ∧ o.data = .seq #[] n := by
  cases r with
  | @tuple l o xs n _ _ h1 h2 h3 h4 =>
    have e : xs = #[] := by
      cases hx : xs.toList with
      | nil => exact Array.toList_inj.mp hx
      | cons a b => rw [hx] at h4; cases h4
    subst e
    exact ⟨l, o, n, rfl, h1, h3⟩
theorem sortsAt_one {a : Addr} (r : Reads s.heap (.ref a) (.tuple []) []) : SortsAt P w A s (dataKind s.heap [.tuple []]) [.ref a] := by
  refine ⟨fun v hv => ?_, tuples' true, fun E x y ka kb Q ha hb hq => ?_, fun h2 => absurd h2 (by simp)⟩
  · rw [List.mem_singleton.mp hv]
    refine ⟨_, dataKind_some (fun d hd d' hd' => ?_) (List.mem_singleton.mpr rfl) r⟩
    rw [List.mem_singleton.mp hd, List.mem_singleton.mp hd']
    simp [alike, alikeAll]
  · obtain ⟨d, as, hd, ra, rfl⟩ := dataKind_inv ha
    obtain ⟨d', as', hd', rb, rfl⟩ := dataKind_inv hb
    rw [List.mem_singleton] at hd hd'
    subst hd hd'
    obtain ⟨l, o, n, rfl, h1, h2⟩ := reads_nil ra
    obtain ⟨l', o', n', rfl, k1, k2⟩ := reads_nil rb
    refine kat_lt h1 h2 k1 k2 ?_
    show Q _ s
    have e : (dataKind s.heap [.tuple []]).blt (keyToks (.tuple [])) (keyToks (.tuple [])) = decide ((#[] : Array Value).size < (#[] : Array Value).size) := by
      show dataLt (.tuple []) (.tuple []) = _
      rw [dataLt_tuple]
      exact lex_irrefl _
    rw [e] at hq
    exact hq
theorem sorted_set1 {a x : Addr} {es : Array (Int × Value)} {ep : Nat} {t : SetTable} {Q : Value → Shared → Prop} (R : SetTR P w s.heap a [(x, [])] es ep t) (hh : A.handled = none) (hu : A.units + 8 < cLine)
    (hQ : ∀ s' p (c : Nat), Kp s.heap s'.heap → s'.gens = s.gens → s'.os = s.os → s.heap.objs.size ≤ p → s'.heap.get? p = some (seqObj "list" [Value.ref x].toArray c) → Q (.ref p) s') :
    wpAny (model P w) A (call (.builtin "sorted") [.ref a]) Q E s := by
  obtain ⟨o, ho, hex, hd⟩ := R.ob
  have hsz := R.size
  refine call_function_entry kind_sorted plain_sorted entry_sorted (args_sorted1 _) ?_
  unfold Builtin.«sorted»
  refine wpAny_bind (m := checkCount "sorted" 1 1 _) (wpAny_pure (wpAny_bind (collect_set (A := A.in1) hh ⟨o, ho, hex.1, hd⟩ R.fits (by rw [hsz]; show 1 < scanBound; unfold scanBound; omega) R.tab.ris R.led fun s1 vs k1 hz g1 o1 pm => ?_)))
  have ev : vs = [Value.ref x] := by
    have e : es.toList.map (·.2) = [Value.ref x] := by rw [R.rows]; rfl
    rw [e] at pm
    exact List.perm_singleton.mp pm
  subst ev
  refine wpAny_bind (wpAny_newList ?_ (by show 1 ≤ sizeLine; decide))
  have hoL : (s1.heap.push (seqObj "list" [Value.ref x].toArray 0)).get? s1.heap.objs.size = some (seqObj "list" [Value.ref x].toArray 0) := Heap.get?_push_size _ rfl
  have rd : Reads (s1.heap.push (seqObj "list" [Value.ref x].toArray 0)) (.ref x) (.tuple []) [] := reads_ints (P := P) (w := w) (k := []) (isT_keep (R.tup (x, []) List.mem_cons_self) fun b u e => Heap.get?_push_of_some _ (k1 b u e))
  have rd2 : Reads (sortingHeap (s1.heap.push (seqObj "list" [Value.ref x].toArray 0)) s1.heap.objs.size [Value.ref x]) (.ref x) (.tuple []) [] :=
    PySem.W.Reads.keepBut (fun b u hb q => sortingHeap_old hb q) (fun u q => by rw [hoL] at q; rw [← Option.some.inj q]) (.tuple []) _ _ (by simp [alike, alikeAll]) rd (fun z => nomatch z)
  refine wpAny_bind (wpAny_holding (wpAny_call_entry slot_list_sort ⟨_, hoL, rfl⟩ entry_list_sort (list_sort_vals (s := { s1 with heap := s1.heap.push (seqObj "list" [Value.ref x].toArray 0) }) hoL (sortsAt_one (s := { s1 with heap := sortingHeap (s1.heap.push (seqObj "list" [Value.ref x].toArray 0)) s1.heap.objs.size [Value.ref x] }) rd2) (by show 1 ≤ sizeLine; decide) ⟨.none, rfl, ?_⟩) (args_list_sort _)))
  have e1 : ∀ κ : PyProof.Rows.KeyKind, sortVals κ false [Value.ref x] [Value.ref x] = [Value.ref x] := fun κ => by
    unfold sortVals
    show (([(Value.ref x, Value.ref x)].mergeSort _).map Prod.snd) = _
    rw [List.mergeSort_singleton]
    rfl
  rw [e1]
  obtain ⟨c, hc⟩ := sortedHeap_at (vs := [Value.ref x]) (out := [Value.ref x].toArray) hoL
  refine wpAny_pure ⟨_, rfl, hQ _ s1.heap.objs.size c (fun b u e => ?_) g1 o1 hz hc⟩
  have q := k1 b u e
  have hlt := Heap.lt_size q
  show (sortedHeap (s1.heap.push (seqObj "list" [Value.ref x].toArray 0)) s1.heap.objs.size [Value.ref x] [Value.ref x].toArray).get? b = some u
  rw [sortedHeap_old (Nat.ne_of_lt hlt) (by rw [size_push']; exact Nat.lt_succ_of_lt hlt)]
  exact Heap.get?_push_of_some _ q
end
section
open PySem.Spec PyProof.Rows PySem.W
variable {X : Cx}
def rSortedSetE (K : PySem.W.Frag) (P : Program) (w : World) : List V → Hp → VK → Prop := fun vs H Q => ∃ (a : Addr) (L : List (Addr × List Int)), vs = [V.ref a] ∧ H a = some (SetTO P w a L) ∧ (∀ p ∈ L, SqT K H p.1 (p.2.map V.int)) ∧ ((∀ p ∈ L, p.2 ≠ []) ∨ ∀ p ∈ L, p.2 = []) ∧
  ∀ (L1 : List (Addr × List Int)) (p : Addr), L1.Perm L → (L1.map (·.2)).Nodup → H p = none → Q (.ref p) (upd H p (.lst ((L1.mergeSort (dataLe false fun q => .tuple (q.2.map .int))).map fun q => V.ref q.1)))
theorem cr_sortedSetE (hc : X.calm = true) (hu : X.A.units + 64 < cLine) : CallR X (.builtin "sorted") (rSortedSetE X.K X.prog X.w) := by
  intro pins s σ H vs us Q I r ⟨a, L, ev, ha, hk, hne, q⟩
  by_cases hall : ∀ p ∈ L, p.2 ≠ []
  · exact cr_sortedSet hc hu pins s σ H vs us Q I r ⟨a, L, ev, ha, hk, hall, q⟩
  · have hnil : ∀ p ∈ L, p.2 = [] := hne.resolve_left hall
    have R0 : SetT0 X.prog X.w s.heap a L := (I.hok a _ ha).1
    obtain ⟨_, _, _, R⟩ := R0.full fun p hp => I.isT (hk p hp)
    have nd := R.nd
    have h1 : ∃ x, L = [(x, [])] := by
      match L, hnil, hall, nd with
      | [], _, h, _ => exact absurd (fun p hp => by cases hp) h
      | [(x, l)], z, _, _ =>
        have e : l = [] := z (x, l) List.mem_cons_self
        exact ⟨x, by rw [e]⟩
      | (x, l) :: (y, m) :: r, z, _, nd =>
        exfalso
        have e1 : l = [] := z (x, l) List.mem_cons_self
        have e2 : m = [] := z (y, m) (List.mem_cons_of_mem _ List.mem_cons_self)
        rw [List.map_cons, List.map_cons, e1, e2] at nd
        exact (List.nodup_cons.mp nd).1 List.mem_cons_self
    clear R0 R nd hnil
    obtain ⟨x, rfl⟩ := h1
    subst ev
    obtain rfl := Vals.ref1 r
    have R0 : SetT0 X.prog X.w s.heap a [(x, [])] := (I.hok a _ ha).1
    obtain ⟨es, ep, t, R⟩ := R0.full fun p hp => I.isT (hk p hp)
    refine sorted_set1 R (I.ok.hd hc) (by omega) fun s' p c k g o hp hg => ?_
    have hn : H p = none := I.hok.fresh hp
    have e0 : (([(x, [])] : List (Addr × List Int)).mergeSort (dataLe false fun q => .tuple (q.2.map .int))).map (fun q => V.ref q.1) = [V.ref x] := by rw [List.mergeSort_singleton]; rfl
    have J : Inv X pins σ (upd H p (.lst [V.ref x])) { s with heap := s'.heap, gens := s'.gens, drawn := s'.drawn, toks := s'.toks } :=
      I.call (ch := []) (Un.laid k hp hn) (I.hok.laid k hp ⟨(by show 1 ≤ sizeLine; decide), [Value.ref x], c, .cons rfl .nil, hg⟩) (by rw [g]; exact I.bare) (fun _ z => nomatch z)
    have e : s' = { s with heap := s'.heap, gens := s'.gens, drawn := s'.drawn, toks := s'.toks } := by cases s'; cases s; cases o; rfl
    rw [e]
    have q1 := q [(x, [])] p (List.Perm.refl _) (by simp) hn
    rw [e0] at q1
    exact ⟨.ref p, _, J, rfl, q1⟩
end

/-! ### reading, step by step -/
theorem iteV {a b : Int} {A B : Prop} (h1 : a = b → A) (h2 : a ≠ b → B) : if decide (V.int a = V.int b) = true then A else B := by
  by_cases h : a = b
  · rw [if_pos (decide_eq_true (congrArg V.int h))]; exact h1 h
  · rw [if_neg (by rw [decide_eq_false (fun z => h (V.int.inj z))]; exact Bool.false_ne_true)]; exact h2 h
theorem iteVn {a b : Int} {A B : Prop} (h1 : a ≠ b → A) (h2 : a = b → B) : if (!decide (V.int a = V.int b)) = true then A else B := by
  by_cases h : a = b
  · rw [if_neg (by rw [decide_eq_true (congrArg V.int h)]; exact Bool.false_ne_true)]; exact h2 h
  · rw [if_pos (by rw [decide_eq_false (fun z => h (V.int.inj z))]; rfl)]; exact h1 h
theorem iteD {c A B : Prop} [Decidable c] (h1 : c → A) (h2 : ¬ c → B) : if decide c = true then A else B := by
  by_cases h : c
  · rw [if_pos (decide_eq_true h)]; exact h1 h
  · rw [if_neg (by rw [decide_eq_false h]; exact Bool.false_ne_true)]; exact h2 h
theorem iteDn {c A B : Prop} [Decidable c] (h1 : ¬ c → A) (h2 : c → B) : if (!decide c) = true then A else B := by
  by_cases h : c
  · rw [if_neg (by rw [decide_eq_true h]; exact Bool.false_ne_true)]; exact h2 h
  · rw [if_pos (by rw [decide_eq_false h]; rfl)]; exact h1 h
theorem iteB {b : Bool} {A B : Prop} (h1 : b = true → A) (h2 : b = false → B) : if b = true then A else B := by
  cases b with
  | true => exact iteT (h1 rfl)
  | false => exact iteF (h2 rfl)
theorem iteN0 {i : Int} {A B : Prop} (h1 : i ≠ 0 → A) (h2 : i = 0 → B) : if (i != 0) = true then A else B := by
  by_cases h : i = 0
  · rw [if_neg (by simp [h])]; exact h2 h
  · rw [if_pos (by simpa using h)]; exact h1 h
theorem vdec {a b : Int} : decide (V.int a = V.int b) = decide (a = b) := by
  by_cases h : a = b
  · subst h; simp
  · rw [decide_eq_false h, decide_eq_false (fun z => h (V.int.inj z))]
theorem sql_ne {K : PySem.W.Frag} {H : Hp} {r a : Addr} {o : HO} {xs : List V} (h : SqL K H a xs) (n : a ≠ r) : SqL K (upd H r o) a xs := by
  rcases h with (h | ⟨u, h⟩) | h
  · exact .inl (.inl (by rw [upd_ne n]; exact h))
  · exact .inl (.inr ⟨u, by rw [upd_ne n]; exact h⟩)
  · exact .inr h
theorem mulW64 {i j : Int} (hi : i.natAbs < 2 ^ 64) (hj : j.natAbs < 2 ^ 64) : CMulW i j := wide_mul hi hj (by decide) (by decide) (by decide)
section
variable {K : PySem.W.Frag}
theorem kit_int_int : PySem.W.kitOne K (.type "int") (.type "int") = some true := kit_ty (by decide +kernel)
theorem kit_int_bool : PySem.W.kitOne K (.type "int") (.type "bool") = some false := kit_ty (by decide +kernel)
theorem kit_int_str : PySem.W.kitOne K (.type "int") (.type "str") = some false := kit_ty (by decide +kernel)
theorem kit_int_tuple : PySem.W.kitOne K (.type "int") (.type "tuple") = some false := kit_ty (by decide +kernel)
theorem kit_int_list : PySem.W.kitOne K (.type "int") (.type "list") = some false := kit_ty (by decide +kernel)
theorem kit_tuple_tuple : PySem.W.kitOne K (.type "tuple") (.type "tuple") = some true := kit_ty (by decide +kernel)
theorem kit_tuple_list : PySem.W.kitOne K (.type "tuple") (.type "list") = some false := kit_ty (by decide +kernel)
theorem kit_tuple_str : PySem.W.kitOne K (.type "tuple") (.type "str") = some false := kit_ty (by decide +kernel)
theorem kit_tuple_int : PySem.W.kitOne K (.type "tuple") (.type "int") = some false := kit_ty (by decide +kernel)
theorem kit_tuple_bool : PySem.W.kitOne K (.type "tuple") (.type "bool") = some false := kit_ty (by decide +kernel)
theorem kitA_int : PySem.W.kitAny K (.type "int") [.type "tuple", .type "list"] = some false :=
  kitAny_cons kit_int_tuple (fun _ => kitAny_cons kit_int_list (fun _ => kitAny_nil) (fun z => nomatch z)) (fun z => nomatch z)
theorem kitA_tuple : PySem.W.kitAny K (.type "tuple") [.type "tuple", .type "list"] = some true :=
  kitAny_cons kit_tuple_tuple (fun z => nomatch z) (fun _ => rfl)
end
local macro_rules | `(tactic| walk_at "rd1") => `(tactic| first
  | refine ⟨_, rfl, ?_⟩
  | refine ⟨_, _, rfl, rfl, ?_⟩
  | refine ⟨_, _, rfl, ?_⟩
  | refine ⟨rfl, ?_⟩
  | refine ⟨(show (0 : Int) < _ by omega), ?_⟩
  | refine .inl ⟨_, rfl, ?_⟩
  | refine ⟨mulW64 (by omega) (by omega), ?_⟩
  | refine ⟨cdivZ (b := 64) (by omega) (by omega) (by decide) (by decide), ?_⟩
  | refine ⟨(show CPowW _ _ from ⟨by decide, by decide +kernel⟩), ?_⟩
  | refine ⟨_, _, rfl, .inr (.inl (.inl (by assumption))), ?_⟩
  | refine ⟨_, _, rfl, .inl (.inl (.inl (by assumption))), ?_⟩
  | refine ⟨_, _, rfl, .inl (.inl upd_same), rfl, ?_⟩
  | refine iteT ?_
  | refine iteF ?_
  | refine ⟨_, _, _, _, rfl, rfl, .inl (.inl (by assumption)), rfl, ?_⟩
  | refine ⟨_, _, _, _, rfl, rfl, .inl (.inl upd_same), rfl, ?_⟩
  | refine ⟨_, _, _, _, rfl, rfl, (by assumption), rfl, ?_⟩
  | refine ⟨_, _, _, _, rfl, rfl, upd_same, rfl, ?_⟩
  | refine ⟨_, _, _, _, _, rfl, .ty _, .base (.int _), kit_int_int, ?_⟩
  | refine ⟨_, _, _, _, _, rfl, .ty _, .base (.int _), kit_int_bool, ?_⟩
  | refine ⟨_, _, _, _, _, rfl, .ty _, .base (.int _), kit_int_str, ?_⟩
  | refine ⟨_, _, _, _, _, rfl, .ty _, .base (.tup (by assumption)), kit_tuple_tuple, ?_⟩
  | refine ⟨_, _, _, _, _, rfl, .ty _, .base (.tup (by assumption)), kit_tuple_list, ?_⟩
  | refine ⟨_, _, _, _, _, rfl, .ty _, .base (.tup (by assumption)), kit_tuple_str, ?_⟩)
local macro_rules | `(tactic| walk_at "rd") => `(tactic| repeat walk_at "rd1")

/-- a tuple of ints; a tuple of these -/
abbrev rD (r : List Int) : PyData := .tuple (r.map .int)
abbrev rsD (rs : List (List Int)) : PyData := .tuple (rs.map rD)
section
variable {K : PySem.W.Frag} {H H' : Hp}
theorem dpAll_of {α : Type} {f : α → V} {g : α → PyData} : ∀ {l : List α}, (∀ x ∈ l, Dp K H (f x) (g x)) → DpAll K H (l.map f) (l.map g)
  | [], _ => .nil
  | _ :: _, h => .cons (h _ List.mem_cons_self) (dpAll_of fun x hx => h x (List.mem_cons_of_mem _ hx))
theorem dpAll_ints (r : List Int) : DpAll K H (r.map V.int) (r.map .int) := dpAll_of fun x _ => .int x
theorem dp_ints {a : Addr} {r : List Int} (h : SqT K H a (r.map V.int)) : Dp K H (.ref a) (rD r) := .tup h (dpAll_ints r)
mutual
theorem Dp.same (s : Same H H') : ∀ (d : PyData) (v : V), Dp K H v d → Dp K H' v d
  | _, _, .non => .non
  | _, _, .bl b => .bl b
  | _, _, .int i => .int i
  | _, _, .str x => .str x
  | _, _, .lst h a => .lst (L2.Same.seq s h) (DpAll.same s _ _ a)
  | _, _, .tup h a => .tup (Toy.Same.tup s h) (DpAll.same s _ _ a)
theorem DpAll.same (s : Same H H') : ∀ (ds : List PyData) (vs : List V), DpAll K H vs ds → DpAll K H' vs ds
  | _, _, .nil => .nil
  | _, _, .cons h t => .cons (Dp.same s _ _ h) (DpAll.same s _ _ t)
end
end
/-! ### what stays: tuples; all but tables -/
/-- the tuples stay -/
def Tp (H H' : Hp) : Prop := ∀ b xs, Rd H b (.tup xs) → Rd H' b (.tup xs)
theorem Tp.refl (H : Hp) : Tp H H := fun _ _ h => h
theorem Tp.trans {H H1 H2 : Hp} (a : Tp H H1) (b : Tp H1 H2) : Tp H H2 := fun c xs h => b c xs (a c xs h)
theorem tp_ext {H H' : Hp} (e : LamX.ExtN H H') : Tp H H' := fun b xs h => by
  rcases h with h | ⟨o, h⟩
  · exact .inl (e _ _ h fun ps z => by cases z)
  · exact .inr ⟨o, e _ _ h fun ps z => by cases z⟩
theorem tp_same {H H' : Hp} (s : Same H H') : Tp H H' := tp_ext (LamX.ExtN.of s)
theorem tp_lst {H : Hp} {D : Addr} {xs ys : List V} (h : H D = some (.lst xs)) : Tp H (upd H D (.lst ys)) := fun b zs q => by
  have n : b ≠ D := fun e => by
    subst e
    rcases q with q | ⟨o, q⟩
    · rw [h] at q; cases q
    · rw [h] at q; cases q
  rcases q with q | ⟨o, q⟩
  · exact .inl ((upd_ne n).trans q)
  · exact .inr ⟨o, (upd_ne n).trans q⟩
theorem tp_new {H : Hp} {D : Addr} {o : HO} (h : H D = Option.none) : Tp H (upd H D o) := tp_same (same_upd h)
section
variable {K : PySem.W.Frag} {H H' : Hp}
theorem Tp.sqt {a : Addr} {xs : List V} (s : Tp H H') (h : SqT K H a xs) : SqT K H' a xs := by
  rcases h with h | h
  · exact .inl (s _ _ h)
  · exact .inr h
mutual
/-- ints, texts, tuples of such -/
def tOnly : PyData → Bool
  | .int _ => true
  | .str _ => true
  | .tuple xs => tOnlyAll xs
  | _ => false
def tOnlyAll : List PyData → Bool
  | [] => true
  | x :: xs => tOnly x && tOnlyAll xs
end
mutual
theorem Dp.tp (s : Tp H H') : ∀ (d : PyData) (v : V), tOnly d = true → Dp K H v d → Dp K H' v d
  | .int i, _, _, h => by cases h; exact .int i
  | .str x, _, _, h => by cases h; exact .str x
  | .tuple xs, _, t, h => by
    cases h with
    | tup h1 h2 => exact .tup (s.sqt h1) (DpAll.tp s xs _ (by simpa [tOnly] using t) h2)
  | .none, _, t, _ => by simp [tOnly] at t
  | .bool _, _, t, _ => by simp [tOnly] at t
  | .list _, _, t, _ => by simp [tOnly] at t
  | .dict _, _, t, _ => by simp [tOnly] at t
theorem DpAll.tp (s : Tp H H') : ∀ (ds : List PyData) (vs : List V), tOnlyAll ds = true → DpAll K H vs ds → DpAll K H' vs ds
  | [], _, _, h => by cases h; exact .nil
  | d :: ds, _, t, h => by
    cases h with
    | cons h1 h2 =>
      have t' : tOnly d = true ∧ tOnlyAll ds = true := by simpa [tOnlyAll] using t
      exact .cons (Dp.tp s d _ t'.1 h1) (DpAll.tp s ds _ t'.2 h2)
end
theorem tOnly_ints (r : List Int) : tOnlyAll (r.map .int) = true := by
  induction r with
  | nil => rfl
  | cons x xs ih => simp [tOnlyAll, tOnly, ih]
theorem tOnly_rD (r : List Int) : tOnly (rD r) = true := tOnly_ints r
theorem tOnly_rows (rs : List (List Int)) : tOnlyAll (rs.map rD) = true := by
  induction rs with
  | nil => rfl
  | cons x xs ih => simp [tOnlyAll, tOnly, ih, tOnly_ints]
/-! ### comprehensions that map -/
/-- i items are made at D, each as R says; all that was before stands -/
def MapAt (H1 : Hp) (D : Addr) (R : Nat → V → Hp → Prop) (i : Nat) (H : Hp) : Prop := ∃ ys, Same H1 H ∧ H D = some (.lst ys) ∧ ys.length = i ∧ ∀ (j : Nat) (y : V), ys[j]? = some y → R j y H
theorem mapAt_0 {H1 : Hp} {D : Addr} {R : Nat → V → Hp → Prop} (hD : H1 D = Option.none) : MapAt H1 D R 0 (upd H1 D (.lst [])) := ⟨[], same_upd hD, upd_same, rfl, fun j y h => by simp at h⟩
theorem mapAt_step {H1 H H4 : Hp} {D : Addr} {R : Nat → V → Hp → Prop} {i : Nat} {y : V} (h : MapAt H1 D R i H) (hD : H1 D = Option.none) (hz : i < sizeLine) (s : Same H H4) (hR : ∀ i v H H', R i v H → Tp H H' → R i v H') (r : R i y H4) :
    ∃ acc, H4 D = some (.lst acc) ∧ acc.length < sizeLine ∧ MapAt H1 D R (i + 1) (upd H4 D (.lst (acc ++ [y]))) := by
  obtain ⟨ys, h1, h2, h3, h4⟩ := h
  have e4 := s _ _ h2
  have t : Tp H4 (upd H4 D (.lst (ys ++ [y]))) := tp_lst e4
  refine ⟨ys, e4, by rw [h3]; exact hz, ys ++ [y], fun b o e => ?_, upd_same, by simp [h3], fun j z hz => ?_⟩
  · rw [upd_ne (ne_of_none e hD)]
    exact s _ _ (h1 _ _ e)
  · by_cases hj : j < ys.length
    · rw [List.getElem?_append_left hj] at hz
      exact hR _ _ _ _ (hR _ _ _ _ (h4 j z hz) (tp_same s)) t
    · rw [List.getElem?_append_right (by omega)] at hz
      have ej : j - ys.length = 0 := by
        by_cases q : j - ys.length = 0
        · exact q
        · rw [List.getElem?_eq_none (by simp; omega)] at hz; cases hz
      rw [ej] at hz
      simp at hz
      subst hz
      have : j = i := by omega
      subst this
      exact hR _ _ _ _ r t
/-- the items as a list, when each is told by its place -/
theorem items_eq {n : Nat} {ys : List V} {f : Nat → V} (h : ys.length = n) (e : ∀ (j : Nat) (y : V), ys[j]? = some y → y = f j) : ys = (List.range n).map f := by
  refine List.ext_getElem? fun i => ?_
  by_cases hi : i < n
  · have hi' : i < ys.length := by omega
    rw [List.getElem?_map, List.getElem?_range hi, List.getElem?_eq_getElem hi', e i _ (List.getElem?_eq_getElem hi')]
    rfl
  · rw [List.getElem?_eq_none (by omega), List.getElem?_eq_none (by simp; omega)]
/-- rows made one by one read as the rows -/
theorem dpAll_get {ys : List V} {ds : List PyData} (hl : ys.length = ds.length) (e : ∀ (j : Nat) (y : V) (d : PyData), ys[j]? = some y → ds[j]? = some d → Dp K H y d) : DpAll K H ys ds := by
  induction ys generalizing ds with
  | nil =>
    cases ds with
    | nil => exact .nil
    | cons d ds => simp at hl
  | cons y ys ih =>
    cases ds with
    | nil => simp at hl
    | cons d ds => exact .cons (e 0 y d rfl rfl) (ih (by simpa using hl) fun j y d h1 h2 => e (j + 1) y d (by simpa using h1) (by simpa using h2))
end
/-! ### a comprehension's scope, by its place -/
def rvOf : Stmt → Expr
  | .Return (some e) _ => e
  | .Assign _ e _ => e
  | _ => .Constant .none 0 ⟨0, 0, 0, 0⟩
def scOf : Expr → Scope
  | .ListComp _ _ s _ => s
  | _ => { kind := .function, names := [], isGenerator := false, isCoroutine := false }
theorem relabel_look {env : Env} {y : Str} : ∀ {names : List (Str × NameKind)}, names.lookup y = some .cell ∨ names.lookup y = some .free →
    (names.map fun (n, k) => if (k == NameKind.free && env.scope.kind == .function && env.kindOf n == some .cell) then (n, NameKind.cell) else (n, k)).lookup y = some .cell ∨
    (names.map fun (n, k) => if (k == NameKind.free && env.scope.kind == .function && env.kindOf n == some .cell) then (n, NameKind.cell) else (n, k)).lookup y = some .free
  | [], h => by simp at h
  | (n, k) :: r, h => by
    have ih := @relabel_look env y r
    by_cases e : y = n
    · subst e
      simp only [List.lookup_cons, beq_self_eq_true] at h
      simp only [List.map_cons]
      rcases h with h | h <;> (cases h; split <;> simp)
    · have e' : (y == n) = false := by simpa using e
      simp only [List.lookup_cons, e'] at h
      have q := ih h
      simp only [List.map_cons]
      split <;> simpa [List.lookup_cons, e'] using q
/-- a comprehension within a comprehension -/
theorem blkOk_in {N : List Str} {sc scope : Scope} {own : List (Str × Nat)} {env : Env} (h : blkC N sc scope own = true) : BlkOk N (relabel sc env) scope own := by
  have b := blkOk_by h
  exact ⟨b.kind, b.uniq, b.ix, fun y hy e => relabel_look (b.free y hy e), b.own⟩
/-- tuple(xs) -/
def rTupOf (K : PySem.W.Frag) : List V → Hp → VK → Prop := fun xs H Q => ∃ p ys, xs = [.ref p] ∧ ((SqL K H p ys ∧ ∀ l, H l = Option.none → Q (.ref l) (upd H l (.tup ys))) ∨ (SqT K H p ys ∧ Q (.ref p) H))
theorem dpAll_app {K : PySem.W.Frag} {H : Hp} : ∀ {xs ys : List V} {ds es : List PyData}, DpAll K H xs ds → DpAll K H ys es → DpAll K H (xs ++ ys) (ds ++ es)
  | _, _, _, _, .nil, h => h
  | _, _, _, _, .cons h t, h2 => .cons h (dpAll_app t h2)
theorem DpAll.len {K : PySem.W.Frag} {H : Hp} : ∀ {xs : List V} {ds : List PyData}, DpAll K H xs ds → xs.length = ds.length
  | _, _, .nil => rfl
  | _, _, .cons _ t => congrArg (· + 1) (DpAll.len t)
theorem dpAll_at {K : PySem.W.Frag} {H : Hp} : ∀ {xs : List V} {ds : List PyData} {i : Nat} {x : V} {d : PyData}, DpAll K H xs ds → xs[i]? = some x → ds[i]? = some d → Dp K H x d
  | _, _, _, _, _, .nil, h, _ => by simp at h
  | _, _, 0, _, _, .cons a _, h1, h2 => by
    simp at h1 h2
    subst h1 h2
    exact a
  | _, _, i + 1, _, _, .cons _ t, h1, h2 => dpAll_at (i := i) t (by simpa using h1) (by simpa using h2)
theorem dpAll_ints_eq {K : PySem.W.Frag} {H : Hp} : ∀ {xs : List V} {r : List Int}, DpAll K H xs (r.map .int) → xs = r.map V.int
  | _, [], h => by cases h; rfl
  | _, n :: r, h => by
    cases h with
    | cons a t =>
      cases a
      rw [dpAll_ints_eq t]
      rfl
section
variable {P : Program} {w : World} {K : PySem.W.Frag} {mg : Str → Option Value} {base : Heap}
/-- a tuple's items read as ints -/
theorem dpAll_ints_eq' {H : Hp} : ∀ {xs : List V} {ns : List Int}, DpAll K H xs (ns.map .int) → xs = ns.map V.int
  | [], [], _ => rfl
  | [], _ :: _, h => by cases h
  | _ :: _, [], h => by cases h
  | x :: xs, n :: ns, h => by
    cases h with
    | cons h1 h2 =>
      cases h1
      rw [dpAll_ints_eq' h2]
      rfl
theorem row_at {H : Hp} {xs : List V} {rs : List (List Int)} {i : Nat} {x : V} (h : DpAll K H xs (rs.map rD)) (hx : xs[i]? = some x) : ∃ a r, rs[i]? = some r ∧ x = .ref a ∧ SqT K H a (r.map V.int) := by
  have hi : i < rs.length := by
    have h1 := Toy.DpAll.len h
    have h2 := (List.getElem?_eq_some_iff.mp hx).1
    rw [List.length_map] at h1
    omega
  have dx2 : Dp K H x (rD rs[i]) := dpAll_at h hx (by rw [List.getElem?_map, List.getElem?_eq_getElem hi]; rfl)
  cases dx2 with
  | @tup b zs _ hb hbs =>
    have ez := dpAll_ints_eq' hbs
    subst ez
    exact ⟨b, rs[i], List.getElem?_eq_getElem hi, rfl, hb⟩
theorem rows_tup {H : Hp} {v : V} {rs : List (List Int)} (h : Dp K H v (rsD rs)) : ∃ a xs, v = .ref a ∧ SqT K H a xs ∧ DpAll K H xs (rs.map rD) := by
  cases h with
  | @tup b zs _ hb hbs => exact ⟨b, zs, rfl, hb, hbs⟩
end

/-! ### is_integer, is_integer_in, of bools too -/
section
variable {P : Program} {w : World} {K : PySem.W.Frag} {mg : Str → Option Value} {base : Heap}
theorem kit_bool_int : PySem.W.kitOne K (.type "bool") (.type "int") = some true := kit_ty (by decide +kernel)
theorem kit_bool_bool : PySem.W.kitOne K (.type "bool") (.type "bool") = some true := kit_ty (by decide +kernel)
theorem kit_bool_tuple : PySem.W.kitOne K (.type "bool") (.type "tuple") = some false := kit_ty (by decide +kernel)
theorem kit_bool_list : PySem.W.kitOne K (.type "bool") (.type "list") = some false := kit_ty (by decide +kernel)
theorem kit_bool_str : PySem.W.kitOne K (.type "bool") (.type "str") = some false := kit_ty (by decide +kernel)
def sp_is_integer : Sp := fun vs H Q _ => ∃ x, vs = [x] ∧ ((∃ i : Int, x = .int i ∧ Q (.bl true) H) ∨ (∃ b, x = .bl b ∧ Q (.bl false) H))
theorem ok_is_integer (T : Txt K mg) : FnOk P w K mg base CX0 1 T.is_integer.f T.is_integer.fd P_is_integer sp_is_integer := by
  refine T.is_integer.F.ok sc_is_integer (fun vs H Q E h => ?_) (fun cdv A outer s H vs Q E hr h => ?_)
  · obtain ⟨x, rfl, _⟩ := h; rfl
  · obtain ⟨x, rfl, h⟩ := h
    refine ⟨_, (pss_one (ps_ret (pe_and (pe_callB (r := rIsi K) call_isi rfl T.n_isinstance bo_isinstance (pa_cons (pv 0) (pa_cons (pe_bltn (v := .ty "int") rfl T.n_int bo_int rfl) pa_nil))) (pe_one (pe_not (pe_callB (r := rIsi K) call_isi rfl T.n_isinstance bo_isinstance (pa_cons (pv 0) (pa_cons (pe_bltn (v := .ty "bool") rfl T.n_bool bo_bool rfl) pa_nil)))))))), ?_⟩
    rcases h with ⟨i, rfl, q⟩ | ⟨b, rfl, q⟩
    · walk_at "rd"
      exact q
    · walk_at "rd"
      refine ⟨_, _, _, _, _, rfl, .ty _, .base (.bl _), kit_bool_int, ?_⟩
      walk_at "rd"
      refine ⟨_, _, _, _, _, rfl, .ty _, .base (.bl _), kit_bool_bool, ?_⟩
      exact ⟨_, rfl, q⟩
def sp_is_integer_in : Sp := fun vs H Q _ => ∃ (x : V) (lo hi : Int), vs = [x, .int lo, .int hi] ∧ ((∃ i : Int, x = .int i ∧ Q (.bl (decide (lo ≤ i) && decide (i ≤ hi))) H) ∨ (∃ b, x = .bl b ∧ Q (.bl false) H))
theorem ok_is_integer_in (T : Txt K mg) : FnOk P w K mg base CX0 2 T.is_integer_in.f T.is_integer_in.fd P_is_integer_in sp_is_integer_in := by
  refine T.is_integer_in.F.ok sc_is_integer_in (fun vs H Q E h => ?_) (fun cdv A outer s H vs Q E hr h => ?_)
  · obtain ⟨x, lo, hi, rfl, _⟩ := h; rfl
  · obtain ⟨x, lo, hi, rfl, h⟩ := h
    refine ⟨_, (pss_one (ps_ret (pe_and (pe_call (ok_is_integer T) (hr.mono (by decide)) rfl T.is_integer.g T.is_integer.F.kp (b_is_integer T) .nil pass0 (pa_cons (pv 0) pa_nil)) (pe_one (pe_chain op_le op_le (pv 1) (pv 0) (pv 2)))))), ?_⟩
    rcases h with ⟨i, rfl, q⟩ | ⟨b, rfl, q⟩
    · walk_at "rd"
      by_cases h1 : lo ≤ i
      · rw [decide_eq_true h1] at q ⊢
        rw [Bool.true_and] at q
        rw [if_pos rfl]
        walk_at "rd"
        exact q
      · rw [decide_eq_false h1] at q ⊢
        exact q
    · walk_at "rd"
      refine .inr ⟨b, rfl, ?_⟩
      exact ⟨_, rfl, q⟩
end

section
variable {P : Program} {w : World} {K : PySem.W.Frag} {mg : Str → Option Value} {base : Heap}
theorem okC {x qual : Str} {st : Stmt} {f : Addr} {fd : FuncData} {N ps : List Str} {k : Nat} {sp : Sp} {c : Addr} (F : Fun K x qual st f fd) (hc : fd.code = .ref c) (S : FnScope N ps (defScope st)) (len : ∀ vs H Q E, sp vs H Q E → vs.length = ps.length)
    (hbody : ∀ (A : Around) (outer : List Env) (s : Shared) (H : Hp) (vs : List V) (Q : VK) (E : XK), Room k (A.deeper (PyProof.Rows.envOfC qual (defScope st) s.heap.objs.size f (.ref c))) → sp vs H Q E →
      ∃ t, PSs (cxOf CX0 P w K mg base N qual (defScope st) f (.ref c) A outer s H E).nox (defBody st) t ∧ t { nx := fun _ H' => Q .non H', rt := Q } (L2.start N vs) H) : FnOk P w K mg base CX0 (k + 1) f fd ps sp := by
  obtain ⟨oc, od, kV, doc, pm, an, cdv, ct, osl, rfl, lk, hcd⟩ := F.ex
  have e : cdv = .ref c := hc
  subst e
  refine fn_of lk hcd S len fun A outer s H vs Q E hr hsp => ?_
  obtain ⟨t, h, q⟩ := hbody A outer s H vs Q E hr hsp
  exact ⟨t, h.nox, q⟩
end

/-! ### tables of the defs that make generator expressions and lambdas -/
def gensL : List Str := ["is_row_of_integers", "reaches", "divides", "least_ones"]
def lamsL : List Str := []
structure TabsAt where
  a : Str → Addr
  ne : ∀ x ∈ gensL ++ lamsL, ∀ y ∈ gensL ++ lamsL, x ≠ y → a x ≠ a y
def qLam (x : Str) : Str := x ++ ".<locals>." ++ "<lambda>"
def lamT (x : Str) (Pt : Addr) : List (Addr × Str) := [(Pt, qLam x)]
structure TS (t : TabsAt) (H : Hp) : Prop where
  g : ∀ x ∈ gensL, GxR.TabG H (t.a x)
  l : ∀ x ∈ lamsL, LamX.Tabs (lamT x (t.a x)) H
theorem tabG_eq {H H' : Hp} {p : Addr} (h : GxR.TabG H p) (e : H' p = H p) : GxR.TabG H' p := by
  obtain ⟨ps, h1, h2⟩ := h
  exact ⟨ps, e.trans h1, h2⟩
theorem TS.same {t : TabsAt} {H H' : Hp} (h : TS t H) (s : Same H H') : TS t H' := by
  have g : ∀ {p : Addr}, GxR.TabG H p → GxR.TabG H' p := fun {p} ⟨ps, h1, h2⟩ => ⟨ps, s _ _ h1, h2⟩
  exact ⟨fun x hx => g (h.g x hx), fun x hx => (h.l x hx).ext s⟩
theorem tabs_off {H H' : Hp} {x : Str} {l p : Addr} (h : LamX.Tabs (lamT x l) H) (hp : GxR.TabG H p) (n : p ≠ l) (e : ∀ b, b ≠ p → H' b = H b) : LamX.Tabs (lamT x l) H' := fun z hz => by
  unfold lamT at hz
  rw [List.mem_singleton] at hz
  subst hz
  obtain ⟨ps, a1, a2, a3⟩ := h (l, qLam x) List.mem_cons_self
  obtain ⟨ps', p1, _⟩ := hp
  refine ⟨ps, (e _ n.symm).trans a1, a2, fun pos cv hcv => ?_⟩
  obtain ⟨cz, q1, q2⟩ := a3 pos cv hcv
  refine ⟨cz, q1, (e _ fun z => ?_).trans q2⟩
  rw [z, p1] at q2
  unfold LamX.CodeO at q2
  cases q2
theorem ext_tab {H H' : Hp} {p : Addr} (hp : GxR.TabG H p) (e : GxR.Tabbed p H H') : LamX.ExtN H H' := fun b o h n => by
  obtain ⟨ps, p1, _⟩ := hp
  have nb : b ≠ p := fun z => by
    subst z
    rw [p1] at h
    exact n ps (Option.some.inj h).symm
  exact (e.2 b nb).trans h
/-- the tables when one of a generator expression has grown -/
theorem TS.tab {t : TabsAt} {H H' : Hp} (h : TS t H) {x : Str} (hx : x ∈ gensL) (hd : x ∉ lamsL) (e : GxR.Tabbed (t.a x) H H') : TS t H' := by
  refine ⟨fun y hy => ?_, fun y hy => ?_⟩
  · by_cases hxy : y = x
    · subst hxy; exact e.1
    · exact tabG_eq (h.g y hy) (e.2 _ (t.ne y (List.mem_append_left _ hy) x (List.mem_append_left _ hx) hxy))
  · have hxy : x ≠ y := fun z => hd (z ▸ hy)
    exact tabs_off (h.l y hy) (h.g x hx) (t.ne x (List.mem_append_left _ hx) y (List.mem_append_right _ hy) hxy) e.2
/-- the tables when a lambda's has grown -/
theorem TS.lam {t : TabsAt} {H H' : Hp} (h : TS t H) {x : Str} (hx : x ∈ lamsL) (hd : x ∉ gensL) (kb : ∀ b o, b ≠ t.a x → H b = some o → H' b = some o) (n : LamX.Tabs (lamT x (t.a x)) H') (hp : ∃ ps, H (t.a x) = some (.tbl ps)) : TS t H' := by
  refine ⟨fun y hy => ?_, fun y hy => ?_⟩
  · obtain ⟨ps, h1, h2⟩ := h.g y hy
    exact ⟨ps, kb _ _ (t.ne y (List.mem_append_left _ hy) x (List.mem_append_right _ hx) fun z => hd (z ▸ hy)) h1, h2⟩
  · by_cases hxy : y = x
    · subst hxy; exact n
    · intro z hz
      unfold lamT at hz
      rw [List.mem_singleton] at hz
      subst hz
      obtain ⟨ps, a1, a2, a3⟩ := h.l y hy (t.a y, qLam y) List.mem_cons_self
      obtain ⟨ps', p1⟩ := hp
      refine ⟨ps, kb _ _ (t.ne y (List.mem_append_right _ hy) x (List.mem_append_right _ hx) hxy) a1, a2, fun pos cv hcv => ?_⟩
      obtain ⟨cz, q1, q2⟩ := a3 pos cv hcv
      refine ⟨cz, q1, kb _ _ (fun z => ?_) q2⟩
      rw [z, p1] at q2
      unfold LamX.CodeO at q2
      cases q2
/-- all but tables stays, and the tables are in order -/
structure Ex (t : TabsAt) (H H' : Hp) : Prop where
  keep : LamX.ExtN H H'
  ts : TS t H'
theorem Ex.same {t : TabsAt} {H H1 H2 : Hp} (a : Ex t H H1) (s : Same H1 H2) : Ex t H H2 := ⟨fun b o e n => s _ _ (a.keep b o e n), a.ts.same s⟩
theorem Ex.trans {t : TabsAt} {H H1 H2 : Hp} (a : Ex t H H1) (b : Ex t H1 H2) : Ex t H H2 := ⟨a.keep.trans b.keep, b.ts⟩
theorem Ex.of {t : TabsAt} {H H1 : Hp} (h : TS t H) (s : Same H H1) : Ex t H H1 := ⟨LamX.ExtN.of s, h.same s⟩
theorem Ex.tab {t : TabsAt} {H H' : Hp} (h : TS t H) {x : Str} (hx : x ∈ gensL) (hd : x ∉ lamsL) (e : GxR.Tabbed (t.a x) H H') : Ex t H H' := ⟨ext_tab (h.g x hx) e, h.tab hx hd e⟩
/-! ### the generator expressions' scopes -/
def geSc : Expr → Scope
  | .GeneratorExp _ _ s _ => s
  | _ => { kind := .function, names := [], isGenerator := false, isCoroutine := false }
def ar0 : Expr → Expr
  | .Call _ (e :: _) _ _ => e
  | _ => .Constant .none 0 ⟨0, 0, 0, 0⟩
def bo0 : Expr → Expr
  | .BoolOp _ (e :: _) _ => e
  | _ => .Constant .none 0 ⟨0, 0, 0, 0⟩
def ifT : Stmt → Expr
  | .If e _ _ _ => e
  | _ => .Constant .none 0 ⟨0, 0, 0, 0⟩
def stN (s : Stmt) (i : Nat) : Stmt := (defBody s).getD i (.Pass ⟨0, 0, 0, 0⟩)
/-- the tables' owners -/
structure TBs {K : PySem.W.Frag} {mg : Str → Option Value} (T : Txt K mg) (base : Heap) (t : TabsAt) where
  c : Str → Addr
  h_is_row_of_integers : T.is_row_of_integers.fd.code = .ref (c "is_row_of_integers")
  b_is_row_of_integers : GxR.TabB base mg (c "is_row_of_integers") (t.a "is_row_of_integers")
  h_reaches : T.reaches.fd.code = .ref (c "reaches")
  b_reaches : GxR.TabB base mg (c "reaches") (t.a "reaches")
  h_divides : T.divides.fd.code = .ref (c "divides")
  b_divides : GxR.TabB base mg (c "divides") (t.a "divides")
  h_least_ones : T.least_ones.fd.code = .ref (c "least_ones")
  b_least_ones : GxR.TabB base mg (c "least_ones") (t.a "least_ones")

/-- a tuple's kind -/
theorem ty_tup {K : PySem.W.Frag} {H : Hp} {a : Addr} {xs : List V} (h : SqT K H a xs) : TyX K H (.ref a) (.type "tuple") := by
  rcases h with (h | ⟨o, h⟩) | ⟨o, its, n, e1, e2, _⟩
  · exact .base (.tup h)
  · exact .fTuple h
  · exact .kTuple e1 e2
theorem gx_row : ("is_row_of_integers" : Str) ∈ gensL := by decide
theorem lx_row : ("is_row_of_integers" : Str) ∉ lamsL := by decide
section
variable {P : Program} {w : World} {K : PySem.W.Frag} {mg : Str → Option Value} {base : Heap}
/-- what is no tuple -/
def NotTup (K : PySem.W.Frag) (H : Hp) (v : V) : Prop := ∃ t, TyX K H v t ∧ PySem.W.kitOne K t (.type "tuple") = some false
/-- for a tuple: has it so many items -/
def sp_is_tuple_of (K : PySem.W.Frag) : Sp := fun vs H Q _ => ∃ (v : V) (m : Int), vs = [v, .int m] ∧ ((∃ a xs, v = .ref a ∧ SqT K H a xs ∧ Q (.bl (decide ((xs.length : Int) = m))) H) ∨ (NotTup K H v ∧ Q (.bl false) H))
theorem ok_is_tuple_of (T : Txt K mg) : FnOk P w K mg base CX0 1 T.is_tuple_of.f T.is_tuple_of.fd P_is_tuple_of (sp_is_tuple_of K) := by
  refine T.is_tuple_of.F.ok sc_is_tuple_of (fun vs H Q E h => ?_) (fun cdv A outer s H vs Q E hr h => ?_)
  · obtain ⟨v, m, rfl, _⟩ := h; rfl
  · obtain ⟨v, m, rfl, h⟩ := h
    refine ⟨_, (pss_one (ps_ret (pe_and (pe_callB (r := rIsi K) call_isi rfl T.n_isinstance bo_isinstance (pa_cons (pv 0) (pa_cons (pe_bltn (v := .ty "tuple") rfl T.n_tuple bo_tuple rfl) pa_nil))) (pe_one (pe_cmpR op_eq (pe_callB (r := rLenS K) call_len_seq rfl T.n_len bo_len (pa_cons (pv 0) pa_nil)) (pv 1) (nomark _)))))), ?_⟩
    rcases h with ⟨a, xs, rfl, hT, k⟩ | ⟨⟨t, ht, hk⟩, k⟩
    · walk_at "rd"
      refine ⟨_, _, _, _, _, rfl, .ty _, ty_tup hT, kit_tuple_tuple, ?_⟩
      walk_at "rd"
      refine ⟨_, _, rfl, .inr hT, ?_⟩
      walk_at "rd"
      rw [vdec]
      exact k
    · walk_at "rd"
      refine ⟨_, _, _, _, _, rfl, .ty _, ht, hk, ?_⟩
      walk_at "rd"
      exact k
def rowB (m lo hi : Int) (ns : List Int) : Bool := decide ((ns.length : Int) = m) && ns.all fun i => decide (lo ≤ i) && decide (i ≤ hi)
/-- a value and whether it is a row of so many integers -/
def RowV (K : PySem.W.Frag) (m lo hi : Int) (H : Hp) (v : V) (b : Bool) : Prop := (∃ a ns, v = .ref a ∧ SqT K H a (ns.map V.int) ∧ b = rowB m lo hi ns) ∨ (b = false ∧ (NotTup K H v ∨ ∃ a k, v = .ref a ∧ SqT K H a (List.replicate (k + 1) (V.bl true))))
def sp_is_row_of_integers (t : TabsAt) (K : PySem.W.Frag) : Sp := fun vs H Q _ => ∃ (v : V) (m lo hi : Int) (b : Bool), vs = [v, .int m, .int lo, .int hi] ∧ RowV K m lo hi H v b ∧ TS t H ∧ ∀ H', Ex t H H' → Q (.bl b) H'
theorem ok_is_row_of_integers (T : Txt K mg) {t : TabsAt} (B : TBs T base t) : FnOk P w K mg base CX0 10 T.is_row_of_integers.f T.is_row_of_integers.fd P_is_row_of_integers (sp_is_row_of_integers t K) := by
  refine okC T.is_row_of_integers.F B.h_is_row_of_integers sc_is_row_of_integers (fun vs H Q E h => ?_) (fun A outer s H vs Q E hr h => ?_)
  · obtain ⟨v, m, lo, hi, b, rfl, _⟩ := h; rfl
  · obtain ⟨v, m, lo, hi, b, rfl, hrv, ts, k⟩ := h
    refine ⟨_, (pss_one (ps_ret (pe_and (pe_call (ok_is_tuple_of T) (hr.mono (by decide)) rfl T.is_tuple_of.g T.is_tuple_of.F.kp (b_is_tuple_of T) .nil pass0 (pa_cons (pv 0) (pa_cons (pv 1) pa_nil))) (pe_one (pe_allR (ys := (["number"] : List Str)) (own := []) (vs := [4]) sc_is_row_of_integers.nd (by decide) hr rfl T.n_all bo_all B.b_is_row_of_integers rfl (gxOk_by (N := N_is_row_of_integers) (sc := defScope s_is_row_of_integers) (own := []) (by decide +kernel)) (pi_tup (pv 0)) (fun _ _ _ _ _ _ _ _ hr => (pg_name (i := 4) (show List.Nodup (N_is_row_of_integers ++ (["number"] : List Str)) by decide +kernel) rfl (Or.inl rfl))) (fun _ _ _ _ _ _ _ _ hr => (pe_call (ok_is_integer_in T) (hr.mono (by decide)) rfl T.is_integer_in.g T.is_integer_in.F.kp (b_is_integer_in T) .nil pass0 (pa_cons (pv 4) (pa_cons (pv 2) (pa_cons (pv 3) pa_nil))))) (fun _ => rfl)))))), ?_⟩
    rcases hrv with ⟨a, ns, rfl, hT, rfl⟩ | ⟨rfl, hnt | ⟨a, c, rfl, hT⟩⟩
    · walk_at "rd"
      refine .inl ⟨a, _, rfl, hT, ?_⟩
      by_cases hl : (ns.length : Int) = m
      · rw [List.length_map, decide_eq_true hl]
        walk_at "rd"
        refine ⟨⟨_, hT⟩, ts.g _ gx_row, fun H2 e2 => ?_⟩
        have x2 : Ex t H H2 := Ex.tab ts gx_row lx_row e2
        refine gx_tup (Pv := fun i H' => Ex t H H' ∧ (ns.take i).all (fun i => decide (lo ≤ i) && decide (i ≤ hi)) = true) ⟨x2, rfl⟩ (fun i H' _ x => (tp_ext x.1.keep).sqt hT) (fun i v H' hv x => ?_) (fun H3 x3 => ?_)
        · rw [List.getElem?_map] at hv
          obtain ⟨n, hn, rfl⟩ := Option.map_eq_some_iff.mp hv
          walk_at "rd"
          refine ⟨_, _, _, rfl, .inl ⟨n, rfl, ?_⟩⟩
          refine ⟨_, rfl, fun z => ?_, fun z => ⟨x.1, ?_⟩⟩
          · have e : rowB m lo hi ns = false := by
              unfold rowB
              rw [decide_eq_true hl, Bool.true_and, List.all_eq_false]
              exact ⟨n, List.mem_of_getElem? hn, by rw [z]; exact Bool.false_ne_true⟩
            rw [← e]
            exact k _ x.1
          · rw [List.take_add_one, hn]
            simp only [Option.toList_some, List.all_append, x.2, List.all_cons, List.all_nil, Bool.and_true, Bool.true_and]
            exact z
        · have e : rowB m lo hi ns = true := by
            unfold rowB
            have := x3.2
            rw [List.length_map, List.take_length] at this
            rw [decide_eq_true hl, this]; rfl
          rw [← e]
          exact k _ x3.1
      · rw [List.length_map, decide_eq_false hl]
        have e : rowB m lo hi ns = false := by unfold rowB; rw [decide_eq_false hl]; rfl
        walk_at "rd"
        rw [← e]
        exact k _ (Ex.of ts (Same.refl _))
    · walk_at "rd"
      refine .inr ⟨hnt, ?_⟩
      walk_at "rd"
      exact k _ (Ex.of ts (Same.refl _))
    · walk_at "rd"
      refine .inl ⟨a, _, rfl, hT, ?_⟩
      rw [List.length_replicate]
      by_cases hl : ((c + 1 : Nat) : Int) = m
      · rw [decide_eq_true hl]
        walk_at "rd"
        refine ⟨⟨_, hT⟩, ts.g _ gx_row, fun H2 e2 => ?_⟩
        have x2 : Ex t H H2 := Ex.tab ts gx_row lx_row e2
        refine gx_tup (Pv := fun i H' => Ex t H H' ∧ i = 0) ⟨x2, rfl⟩ (fun i H' _ x => (tp_ext x.1.keep).sqt hT) (fun i v H' hv x => ?_) (fun H3 x3 => ?_)
        · have hv' : v = .bl true := List.eq_of_mem_replicate (List.mem_of_getElem? hv)
          subst hv'
          walk_at "rd"
          refine ⟨_, _, _, rfl, .inr ⟨true, rfl, ?_⟩⟩
          exact ⟨_, rfl, fun _ => k _ x.1, fun z => (by cases z)⟩
        · rw [List.length_replicate] at x3
          exact absurd x3.2 (by omega)
      · rw [decide_eq_false hl]
        walk_at "rd"
        exact k _ (Ex.of ts (Same.refl _))
theorem row_true {m lo hi : Int} {ns : List Int} (h1 : (ns.length : Int) = m) (h2 : ∀ i ∈ ns, lo ≤ i ∧ i ≤ hi) : rowB m lo hi ns = true := by
  unfold rowB
  rw [decide_eq_true h1, Bool.true_and, List.all_eq_true]
  intro i hi'
  simp only [Bool.and_eq_true, decide_eq_true_eq]
  exact h2 i hi'
end

/-! ### corners of a monomial ideal: the mathematics -/
def gI (l : List Int) (i : Nat) : Int := l.getD i 0
theorem gI_get {l : List Int} {i : Nat} (h : i < l.length) : l[i]? = some (gI l i) := by
  unfold gI; rw [List.getD_eq_getElem?_getD, List.getElem?_eq_getElem h]; rfl
theorem gI_ext {a b : List Int} {n : Nat} (ha : a.length = n) (hb : b.length = n) (h : ∀ i, i < n → gI a i = gI b i) : a = b := by
  refine List.ext_getElem? fun i => ?_
  by_cases hi : i < n
  · rw [gI_get (by omega), gI_get (by omega), h i hi]
  · rw [List.getElem?_eq_none (by omega), List.getElem?_eq_none (by omega)]
theorem gI_set {l : List Int} {p i : Nat} {v : Int} (hp : p < l.length) : gI (l.set p v) i = if i = p then v else gI l i := by
  unfold gI
  rw [List.getD_eq_getElem?_getD, List.getD_eq_getElem?_getD, List.getElem?_set]
  by_cases h : i = p
  · subst h; simp [hp]
  · rw [if_neg (Ne.symm h), if_neg h]
def reachB (n : Nat) (m c : List Int) : Bool := (List.range n).any fun i => decide (gI c i ≤ gI m i)
def touchB (n : Nat) (o c : List Int) (k : Nat) : Bool := decide (gI o k = gI c k) && (List.range n).all fun j => decide (j = k) || decide (gI o j < gI c j)
def guardB (n : Nat) (c : List Int) (ahead : List (List Int)) (place : Nat) (e : Int) (k : Nat) : Bool := ahead.any fun o => touchB n o c k && decide (gI o place < e)
def lowB (n : Nat) (c m : List Int) (ahead : List (List Int)) (place : Nat) : Bool :=
  decide (0 < gI m place) && (List.range n).all fun k => !decide (gI c k < 1000) || (decide (k = place) || guardB n c ahead place (gI m place) k)
def lowered (n : Nat) (c m : List Int) (ahead : List (List Int)) : List (List Int) := ((List.range n).filter (lowB n c m ahead)).map fun p => c.set p (gI m p)
def stepC (n : Nat) (m : List Int) (ahead : List (List Int)) (c : List Int) : List (List Int) := if reachB n m c = true then [c] else lowered n c m ahead
def corners (n : Nat) (ms : List (List Int)) : Nat → List (List Int)
  | 0 => [List.replicate n 1000]
  | i + 1 => (corners n ms i).flatMap (stepC n (ms.getD i []) (ms.take i))
structure Corner (n : Nat) (G : List (List Int)) (c : List Int) : Prop where
  len : c.length = n
  lo : ∀ i, i < n → 1 ≤ gI c i ∧ gI c i ≤ 1000
  F : ∀ g ∈ G, ∃ i, i < n ∧ gI c i ≤ gI g i
  B : ∀ k, k < n → gI c k < 1000 → ∃ g ∈ G, gI g k = gI c k ∧ ∀ j, j < n → j ≠ k → gI g j < gI c j
def MsOk (n : Nat) (G : List (List Int)) : Prop := ∀ g ∈ G, g.length = n ∧ ∀ i, i < n → 0 ≤ gI g i ∧ gI g i < 1000
theorem reach_iff {n : Nat} {m c : List Int} : reachB n m c = true ↔ ∃ i, i < n ∧ gI c i ≤ gI m i := by
  unfold reachB
  simp only [List.any_eq_true, List.mem_range, decide_eq_true_eq]
theorem touch_iff {n : Nat} {o c : List Int} {k : Nat} : touchB n o c k = true ↔ gI o k = gI c k ∧ ∀ j, j < n → j ≠ k → gI o j < gI c j := by
  unfold touchB
  simp only [Bool.and_eq_true, List.all_eq_true, List.mem_range, Bool.or_eq_true, decide_eq_true_eq]
  refine ⟨fun ⟨a, b⟩ => ⟨a, fun j hj hk => (b j hj).resolve_left hk⟩, fun ⟨a, b⟩ => ⟨a, fun j hj => ?_⟩⟩
  by_cases e : j = k
  · exact .inl e
  · exact .inr (b j hj e)
theorem guard_iff {n : Nat} {c : List Int} {G : List (List Int)} {p : Nat} {e : Int} {k : Nat} : guardB n c G p e k = true ↔ ∃ g ∈ G, (gI g k = gI c k ∧ ∀ j, j < n → j ≠ k → gI g j < gI c j) ∧ gI g p < e := by
  unfold guardB
  simp only [List.any_eq_true, Bool.and_eq_true, decide_eq_true_eq, touch_iff]
theorem low_iff {n : Nat} {c m : List Int} {G : List (List Int)} {p : Nat} : lowB n c m G p = true ↔ 0 < gI m p ∧ ∀ k, k < n → gI c k < 1000 → k ≠ p → ∃ g ∈ G, (gI g k = gI c k ∧ ∀ j, j < n → j ≠ k → gI g j < gI c j) ∧ gI g p < gI m p := by
  unfold lowB
  simp only [Bool.and_eq_true, List.all_eq_true, List.mem_range, Bool.or_eq_true, decide_eq_true_eq, Bool.not_eq_true', decide_eq_false_iff_not, guard_iff]
  refine ⟨fun ⟨a, b⟩ => ⟨a, fun k hk hc hp => ?_⟩, fun ⟨a, b⟩ => ⟨a, fun k hk => ?_⟩⟩
  · rcases b k hk with h | h | h
    · exact absurd hc h
    · exact absurd h hp
    · exact h
  · by_cases hc : gI c k < 1000
    · by_cases e : k = p
      · exact .inr (.inl e)
      · exact .inr (.inr (b k hk hc e))
    · exact .inl hc
theorem mem_lowered {n : Nat} {c m d : List Int} {G : List (List Int)} : d ∈ lowered n c m G ↔ ∃ p, p < n ∧ lowB n c m G p = true ∧ d = c.set p (gI m p) := by
  unfold lowered
  simp only [List.mem_map, List.mem_filter, List.mem_range]
  exact ⟨fun ⟨p, ⟨a, b⟩, e⟩ => ⟨p, a, b, e.symm⟩, fun ⟨p, a, b, e⟩ => ⟨p, ⟨a, b⟩, e.symm⟩⟩
/-- the greatest number at k below which no generator stands -/
theorem least_at (k : Nat) (Pq : List Int → Prop) : ∀ (G : List (List Int)), (∀ g ∈ G, gI g k < 1000) →
    ∃ v, v ≤ 1000 ∧ (∀ g ∈ G, Pq g → v ≤ gI g k) ∧ (v < 1000 → ∃ g ∈ G, Pq g ∧ gI g k = v)
  | [], _ => ⟨1000, Int.le_refl _, fun g h => (by cases h), fun h => absurd h (by omega)⟩
  | g :: G, hG => by
    obtain ⟨v, h1, h2, h3⟩ := least_at k Pq G fun x hx => hG x (List.mem_cons_of_mem _ hx)
    by_cases hp : Pq g ∧ gI g k < v
    · refine ⟨gI g k, by omega, fun x hx px => ?_, fun _ => ⟨g, List.mem_cons_self, hp.1, rfl⟩⟩
      rcases List.mem_cons.mp hx with e | hx
      · subst e; exact Int.le_refl _
      · have := h2 x hx px; omega
    · refine ⟨v, h1, fun x hx px => ?_, fun hv => ?_⟩
      · rcases List.mem_cons.mp hx with e | hx
        · subst e
          exact Int.not_lt.mp fun z => hp ⟨px, z⟩
        · exact h2 x hx px
      · obtain ⟨x, hx, q⟩ := h3 hv
        exact ⟨x, List.mem_cons_of_mem _ hx, q⟩
/-- what the step makes are corners -/
theorem step_sound {n : Nat} {G : List (List Int)} {m c d : List Int} (hm : ∀ i, i < n → 0 ≤ gI m i ∧ gI m i < 1000) (hc : Corner n G c) (hd : d ∈ stepC n m G c) : Corner n (G ++ [m]) d := by
  unfold stepC at hd
  split at hd
  case isTrue hr =>
    rw [List.mem_singleton] at hd
    subst hd
    refine ⟨hc.len, hc.lo, fun g hg => ?_, fun k hk hb => ?_⟩
    · rcases List.mem_append.mp hg with z | z
      · exact hc.F g z
      · rw [List.mem_singleton.mp z]; exact reach_iff.mp hr
    · obtain ⟨g, h1, h2⟩ := hc.B k hk hb
      exact ⟨g, List.mem_append_left _ h1, h2⟩
  case isFalse hr =>
    obtain ⟨p, hp, hl, rfl⟩ := mem_lowered.mp hd
    obtain ⟨hm0, hgd⟩ := low_iff.mp hl
    have nr : ∀ i, i < n → gI m i < gI c i := fun i hi => Int.not_le.mp fun z => hr (reach_iff.mpr ⟨i, hi, z⟩)
    have hpl : p < c.length := by rw [hc.len]; exact hp
    have sv : ∀ i, gI (c.set p (gI m p)) i = if i = p then gI m p else gI c i := fun i => gI_set hpl
    refine ⟨by rw [List.length_set]; exact hc.len, fun i hi => ?_, fun g hg => ?_, fun k hk hb => ?_⟩
    · rw [sv]
      by_cases e : i = p
      · rw [if_pos e]; have := hm p hp; omega
      · rw [if_neg e]; exact hc.lo i hi
    · rcases List.mem_append.mp hg with z | z
      · obtain ⟨i, hi, hle⟩ := hc.F g z
        refine ⟨i, hi, ?_⟩
        rw [sv]
        by_cases e : i = p
        · rw [if_pos e]; subst e; have := nr i hi; omega
        · rw [if_neg e]; exact hle
      · rw [List.mem_singleton.mp z]
        exact ⟨p, hp, by rw [sv, if_pos rfl]; exact Int.le_refl _⟩
    · rw [sv] at hb
      by_cases e : k = p
      · subst e
        refine ⟨m, List.mem_append_right _ (List.mem_singleton.mpr rfl), by rw [sv, if_pos rfl], fun j hj hjk => ?_⟩
        rw [sv, if_neg hjk]
        exact nr j hj
      · rw [if_neg e] at hb
        obtain ⟨g, h1, ⟨h2, h3⟩, h4⟩ := hgd k hk hb e
        refine ⟨g, List.mem_append_left _ h1, by rw [sv, if_neg e]; exact h2, fun j hj hjk => ?_⟩
        rw [sv]
        by_cases ej : j = p
        · rw [if_pos ej, ej]; exact h4
        · rw [if_neg ej]; exact h3 j hj hjk
/-- each corner comes from one -/
theorem step_all {n : Nat} {G : List (List Int)} {m d : List Int} (hG : MsOk n G) (hd : Corner n (G ++ [m]) d) : ∃ c, Corner n G c ∧ d ∈ stepC n m G c := by
  have FG : ∀ g ∈ G, ∃ i, i < n ∧ gI d i ≤ gI g i := fun g hg => hd.F g (List.mem_append_left _ hg)
  obtain ⟨i0, hi0, hr⟩ := hd.F m (List.mem_append_right _ (List.mem_singleton.mpr rfl))
  by_cases hB : ∀ k, k < n → gI d k < 1000 → ∃ g ∈ G, gI g k = gI d k ∧ ∀ j, j < n → j ≠ k → gI g j < gI d j
  · refine ⟨d, ⟨hd.len, hd.lo, FG, hB⟩, ?_⟩
    unfold stepC
    rw [if_pos (reach_iff.mpr ⟨i0, hi0, hr⟩)]
    exact List.mem_singleton.mpr rfl
  · obtain ⟨k, hk, hb, hno⟩ : ∃ k, k < n ∧ gI d k < 1000 ∧ ¬ ∃ g ∈ G, gI g k = gI d k ∧ ∀ j, j < n → j ≠ k → gI g j < gI d j := by
      refine Classical.byContradiction fun z => hB fun k hk hb => Classical.byContradiction fun y => z ⟨k, hk, hb, y⟩
    obtain ⟨g, hg, hgk, hgj⟩ := hd.B k hk hb
    have egm : g = m := by
      rcases List.mem_append.mp hg with z | z
      · exact absurd ⟨g, z, hgk, hgj⟩ hno
      · exact List.mem_singleton.mp z
    subst egm
    obtain ⟨v, v1, v2, v3⟩ := least_at k (fun o => ∀ j, j < n → j ≠ k → gI o j < gI d j) G fun o ho => ((hG o ho).2 k hk).2
    have hvd : gI d k < v := by
      rcases Int.lt_or_le (gI d k) v with z | z
      · exact z
      · exfalso
        obtain ⟨o, ho, po, eo⟩ := v3 (by omega)
        obtain ⟨i, hi, hle⟩ := FG o ho
        by_cases e : i = k
        · subst e
          exact hno ⟨o, ho, by omega, po⟩
        · have := po i hi e; omega
    have hkl : k < d.length := by rw [hd.len]; exact hk
    have sv : ∀ i, gI (d.set k v) i = if i = k then v else gI d i := fun i => gI_set hkl
    have hdk := hd.lo k hk
    refine ⟨d.set k v, ⟨by rw [List.length_set]; exact hd.len, fun i hi => ?_, fun o ho => ?_, fun i hi hb2 => ?_⟩, ?_⟩
    · rw [sv]
      by_cases e : i = k
      · rw [if_pos e]; omega
      · rw [if_neg e]; exact hd.lo i hi
    · by_cases po : ∀ j, j < n → j ≠ k → gI o j < gI d j
      · exact ⟨k, hk, by rw [sv, if_pos rfl]; exact v2 o ho po⟩
      · obtain ⟨j, hj, hjk, hle⟩ : ∃ j, j < n ∧ j ≠ k ∧ gI d j ≤ gI o j := by
          refine Classical.byContradiction fun z => po fun j hj hjk => ?_
          exact Int.not_le.mp fun y => z ⟨j, hj, hjk, y⟩
        exact ⟨j, hj, by rw [sv, if_neg hjk]; exact hle⟩
    · rw [sv] at hb2
      by_cases e : i = k
      · subst e
        rw [if_pos rfl] at hb2
        obtain ⟨o, ho, po, eo⟩ := v3 hb2
        refine ⟨o, ho, by rw [sv, if_pos rfl]; exact eo, fun j hj hji => ?_⟩
        rw [sv, if_neg hji]; exact po j hj hji
      · rw [if_neg e] at hb2
        obtain ⟨o, ho, hok, hoj⟩ := hd.B i hi hb2
        rcases List.mem_append.mp ho with z | z
        · refine ⟨o, z, by rw [sv, if_neg e]; exact hok, fun j hj hji => ?_⟩
          rw [sv]
          by_cases ej : j = k
          · rw [if_pos ej]; have := hoj j hj hji; rw [ej] at this ⊢; omega
          · rw [if_neg ej]; exact hoj j hj hji
        · rw [List.mem_singleton.mp z] at hok
          have := hgj i hi e
          omega
    · have hnr : ¬ reachB n g (d.set k v) = true := fun z => by
        obtain ⟨i, hi, hle⟩ := reach_iff.mp z
        rw [sv] at hle
        by_cases e : i = k
        · rw [if_pos e, e] at hle; omega
        · rw [if_neg e] at hle; have := hgj i hi e; omega
      unfold stepC
      rw [if_neg hnr]
      refine mem_lowered.mpr ⟨k, hk, low_iff.mpr ⟨by omega, fun i hi hb2 e => ?_⟩, ?_⟩
      · rw [sv, if_neg e] at hb2
        obtain ⟨o, ho, hok, hoj⟩ := hd.B i hi hb2
        rcases List.mem_append.mp ho with z | z
        · refine ⟨o, z, ⟨by rw [sv, if_neg e]; exact hok, fun j hj hji => ?_⟩, ?_⟩
          · rw [sv]
            by_cases ej : j = k
            · rw [if_pos ej]; have := hoj j hj hji; rw [ej] at this ⊢; omega
            · rw [if_neg ej]; exact hoj j hj hji
          · have := hoj k hk (Ne.symm e); omega
        · rw [List.mem_singleton.mp z] at hok
          have := hgj i hi e
          omega
      · refine gI_ext (n := n) hd.len (by rw [List.length_set, List.length_set]; exact hd.len) fun i hi => ?_
        rw [gI_set (by rw [List.length_set]; exact hkl), sv]
        by_cases e : i = k
        · rw [if_pos e, e]; exact hgk.symm
        · rw [if_neg e, if_neg e]
/-- a corner that lies above another one is it -/
theorem corner_anti {n : Nat} {G : List (List Int)} {c d : List Int} (hc : Corner n G c) (hd : Corner n G d) (h : ∀ i, i < n → gI c i ≤ gI d i) : c = d := by
  refine gI_ext hc.len hd.len fun i hi => ?_
  rcases Int.lt_or_le (gI c i) (gI d i) with z | z
  · exfalso
    obtain ⟨g, hg, e1, e2⟩ := hc.B i hi (by have := hd.lo i hi; omega)
    obtain ⟨j, hj, hle⟩ := hd.F g hg
    by_cases e : j = i
    · rw [e] at hle; omega
    · have := e2 j hj e; have := h j hj; omega
  · have := h i hi; omega
theorem step_nodup {n : Nat} {G : List (List Int)} {m c : List Int} (hc : Corner n G c) : (stepC n m G c).Nodup := by
  unfold stepC
  split
  · exact List.nodup_cons.mpr ⟨by simp, List.nodup_nil⟩
  case isFalse hr =>
    unfold lowered
    refine List.pairwise_map.mpr ?_
    refine List.Pairwise.imp_of_mem ?_ (List.Pairwise.filter _ (List.nodup_range (n := n)))
    intro a b ha hb hab e
    have ha' : a < n := by simpa using (List.mem_filter.mp ha).1
    have hb' : b < n := by simpa using (List.mem_filter.mp hb).1
    have q : gI (c.set a (gI m a)) a = gI (c.set b (gI m b)) a := congrArg (fun l => gI l a) e
    rw [gI_set (by rw [hc.len]; exact ha'), gI_set (by rw [hc.len]; exact hb'), if_pos rfl, if_neg hab] at q
    exact hr (reach_iff.mpr ⟨a, ha', by omega⟩)
/-- unlike corners make unlike ones -/
theorem step_apart {n : Nat} {G : List (List Int)} {m c c' d : List Int} (hG : MsOk n G) (hc : Corner n G c) (hc' : Corner n G c') (h : d ∈ stepC n m G c) (h' : d ∈ stepC n m G c') : c = c' := by
  have key : ∀ {a b : List Int}, Corner n G a → Corner n G b → d ∈ stepC n m G a → d ∈ stepC n m G b → ∀ i, i < n → gI a i ≤ gI b i := by
    intro a b ha hb h1 h2 i hi
    unfold stepC at h1 h2
    split at h1
    case isTrue hr =>
      rw [List.mem_singleton] at h1
      subst h1
      split at h2
      · rw [List.mem_singleton] at h2
        rw [h2]; exact Int.le_refl _
      case isFalse hr2 =>
        obtain ⟨p, hp, hl, e⟩ := mem_lowered.mp h2
        have sv : ∀ j, gI d j = if j = p then gI m p else gI b j := fun j => by rw [e]; exact gI_set (by rw [hb.len]; exact hp)
        have hlt : gI m p < gI b p := Int.not_le.mp fun z => hr2 (reach_iff.mpr ⟨p, hp, z⟩)
        rw [sv]
        by_cases e : i = p
        · rw [if_pos e, e]; omega
        · rw [if_neg e]; exact Int.le_refl _
    case isFalse hr =>
      obtain ⟨p, hp, hl, e⟩ := mem_lowered.mp h1
      have sv : ∀ j, gI d j = if j = p then gI m p else gI a j := fun j => by rw [e]; exact gI_set (by rw [ha.len]; exact hp)
      have hlt : ∀ j, j < n → gI m j < gI a j := fun j hj => Int.not_le.mp fun z => hr (reach_iff.mpr ⟨j, hj, z⟩)
      have hb' : ∃ q, q < n ∧ gI d q = gI m q ∧ (∀ j, j < n → j ≠ q → gI d j = gI b j) ∧ gI d q ≤ gI b q := by
        split at h2
        case isTrue hr2 =>
          exfalso
          rw [List.mem_singleton] at h2
          subst h2
          have hpb := sv p
          rw [if_pos rfl] at hpb
          have := hlt p hp
          have hap := (ha.lo p hp).2
          obtain ⟨g, hg, e1, e2⟩ := hb.B p hp (by omega)
          obtain ⟨j, hj, hle⟩ := ha.F g hg
          by_cases ej : j = p
          · rw [ej] at hle; omega
          · have h3 := e2 j hj ej
            rw [sv, if_neg ej] at h3
            omega
        case isFalse hr2 =>
          obtain ⟨q, hq, hl2, e'⟩ := mem_lowered.mp h2
          have sv2 : ∀ j, gI d j = if j = q then gI m q else gI b j := fun j => by rw [e']; exact gI_set (by rw [hb.len]; exact hq)
          refine ⟨q, hq, by rw [sv2, if_pos rfl], fun j hj hjq => by rw [sv2, if_neg hjq], ?_⟩
          rw [sv2, if_pos rfl]
          exact Int.le_of_lt (Int.not_le.mp fun z => hr2 (reach_iff.mpr ⟨q, hq, z⟩))
      obtain ⟨q, hq, e1, e2, e3⟩ := hb'
      have epq : q = p := by
        by_cases e : q = p
        · exact e
        · rw [sv, if_neg e] at e1
          have := hlt q hq
          omega
      subst epq
      by_cases e : i = q
      · rw [e]
        -- at q: a's number is reached by a generator below b
        rcases Int.lt_or_le (gI b q) (gI a q) with z | z
        · exfalso
          obtain ⟨g, hg, g1, g2⟩ := hb.B q hq (by have := ha.lo q hq; omega)
          obtain ⟨j, hj, hle⟩ := ha.F g hg
          by_cases ej : j = q
          · rw [ej] at hle; omega
          · have h3 := g2 j hj ej
            rw [← e2 j hj ej, sv, if_neg ej] at h3
            omega
        · exact z
      · have := e2 i hi e
        rw [sv, if_neg e] at this
        omega
  exact corner_anti hc hc' (key hc hc' h h')
theorem nodup_flatMap {α β : Type} {f : α → List β} : ∀ {l : List α}, l.Nodup → (∀ a ∈ l, (f a).Nodup) → (∀ a ∈ l, ∀ b ∈ l, ∀ x, x ∈ f a → x ∈ f b → a = b) → (l.flatMap f).Nodup
  | [], _, _, _ => by simp
  | a :: l, h, h1, h2 => by
    rw [List.flatMap_cons, List.nodup_append]
    have hc := List.nodup_cons.mp h
    refine ⟨h1 a List.mem_cons_self, nodup_flatMap hc.2 (fun b hb => h1 b (List.mem_cons_of_mem _ hb)) fun b hb c hc' => h2 b (List.mem_cons_of_mem _ hb) c (List.mem_cons_of_mem _ hc'), fun x hx y hy e => ?_⟩
    subst e
    obtain ⟨b, hb, hxb⟩ := List.mem_flatMap.mp hy
    have := h2 a List.mem_cons_self b (List.mem_cons_of_mem _ hb) x hx hxb
    subst this
    exact hc.1 hb
theorem take_get {α : Type} [Inhabited α] {l : List α} {i : Nat} {d : α} (h : i < l.length) : l.take (i + 1) = l.take i ++ [l.getD i d] := by
  rw [List.take_add_one, List.getElem?_eq_getElem h, List.getD_eq_getElem?_getD, List.getElem?_eq_getElem h]; rfl
/-- THE CORNERS -/
theorem corners_all {n : Nat} {ms : List (List Int)} (hG : MsOk n ms) : ∀ i, i ≤ ms.length → (corners n ms i).Nodup ∧ ∀ c, c ∈ corners n ms i ↔ Corner n (ms.take i) c
  | 0, _ => by
    refine ⟨List.nodup_cons.mpr ⟨by simp, List.nodup_nil⟩, fun c => ?_⟩
    show c ∈ [List.replicate n 1000] ↔ _
    rw [List.mem_singleton, List.take_zero]
    have gr : ∀ i, i < n → gI (List.replicate n 1000) i = 1000 := fun i hi => by unfold gI; simp [List.getD_eq_getElem?_getD, hi]
    constructor
    · intro e
      subst e
      exact ⟨List.length_replicate, fun i hi => by rw [gr i hi]; omega, fun g hg => (by cases hg), fun k hk hb => by rw [gr k hk] at hb; omega⟩
    · intro h
      refine gI_ext h.len List.length_replicate fun i hi => ?_
      rw [gr i hi]
      rcases Int.lt_or_le (gI c i) 1000 with z | z
      · obtain ⟨g, hg, _⟩ := h.B i hi z
        cases hg
      · have := h.lo i hi; omega
  | i + 1, hi => by
    obtain ⟨h1, h2⟩ := corners_all hG i (by omega)
    have hlt : i < ms.length := hi
    have hm : ms.getD i [] ∈ ms := by
      rw [List.getD_eq_getElem?_getD, List.getElem?_eq_getElem hlt]; exact List.getElem_mem hlt
    have hGt : MsOk n (ms.take i) := fun g hg => hG g (List.mem_of_mem_take hg)
    have et : ms.take (i + 1) = ms.take i ++ [ms.getD i []] := take_get hlt
    rw [et]
    refine ⟨nodup_flatMap h1 (fun c hc => step_nodup ((h2 c).mp hc)) fun a ha b hb d hd hd' => step_apart hGt ((h2 a).mp ha) ((h2 b).mp hb) hd hd', fun d => ?_⟩
    show d ∈ (corners n ms i).flatMap _ ↔ _
    rw [List.mem_flatMap]
    constructor
    · rintro ⟨c, hc, hd⟩
      exact step_sound (hG _ hm).2 ((h2 c).mp hc) hd
    · intro hd
      obtain ⟨c, hc, h⟩ := step_all hGt hd
      exact ⟨c, (h2 c).mpr hc, h⟩

/-! ### corners: what the law asks of them -/
theorem corner_raise {n : Nat} {G : List (List Int)} (hG : MsOk n G) {i : Nat} (hi : i < n) {c : List Int} (h1 : c.length = n) (h2 : ∀ i, i < n → 1 ≤ gI c i ∧ gI c i ≤ 1000) (h3 : ∀ g ∈ G, ∃ i, i < n ∧ gI c i ≤ gI g i)
    (h4 : ∀ k, k < i → gI c k < 1000 → ∃ g ∈ G, gI g k = gI c k ∧ ∀ j, j < n → j ≠ k → gI g j < gI c j) :
    ∃ d : List Int, d.length = n ∧ (∀ i, i < n → 1 ≤ gI d i ∧ gI d i ≤ 1000) ∧ (∀ g ∈ G, ∃ i, i < n ∧ gI d i ≤ gI g i) ∧
      (∀ k, k < i + 1 → gI d k < 1000 → ∃ g ∈ G, gI g k = gI d k ∧ ∀ j, j < n → j ≠ k → gI g j < gI d j) ∧ ∀ j, j < n → gI c j ≤ gI d j := by
  obtain ⟨v, v1, v2, v3⟩ := least_at i (fun o => ∀ j, j < n → j ≠ i → gI o j < gI c j) G fun o ho => ((hG o ho).2 i hi).2
  have hv : gI c i ≤ v := by
    rcases Int.lt_or_le v 1000 with z | z
    · obtain ⟨g, hg, p, e⟩ := v3 z
      obtain ⟨j, hj, hle⟩ := h3 g hg
      by_cases ej : j = i
      · rw [ej] at hle; omega
      · have := p j hj ej; omega
    · have := h2 i hi; omega
  have sv : ∀ j, gI (c.set i v) j = if j = i then v else gI c j := fun j => gI_set (by omega)
  have up : ∀ j, j < n → gI c j ≤ gI (c.set i v) j := fun j hj => by
    rw [sv]
    by_cases e : j = i
    · rw [if_pos e, e]; exact hv
    · rw [if_neg e]; exact Int.le_refl _
  have hci := h2 i hi
  refine ⟨c.set i v, by rw [List.length_set]; exact h1, fun j hj => ?_, fun g hg => ?_, fun k hk hb => ?_, up⟩
  · rw [sv]
    by_cases e : j = i
    · rw [if_pos e]; omega
    · rw [if_neg e]; exact h2 j hj
  · by_cases po : ∀ j, j < n → j ≠ i → gI g j < gI c j
    · exact ⟨i, hi, by rw [sv, if_pos rfl]; exact v2 g hg po⟩
    · obtain ⟨j, hj, hjk, hle⟩ : ∃ j, j < n ∧ j ≠ i ∧ gI c j ≤ gI g j := by
        refine Classical.byContradiction fun z => po fun j hj hjk => Int.not_le.mp fun y => z ⟨j, hj, hjk, y⟩
      exact ⟨j, hj, by rw [sv, if_neg hjk]; exact hle⟩
  · rw [sv] at hb
    by_cases e : k = i
    · subst e
      rw [if_pos rfl] at hb
      obtain ⟨g, hg, p, eg⟩ := v3 hb
      refine ⟨g, hg, by rw [sv, if_pos rfl]; exact eg, fun j hj hjk => ?_⟩
      rw [sv, if_neg hjk]; exact p j hj hjk
    · rw [if_neg e] at hb
      obtain ⟨g, hg, e1, e2⟩ := h4 k (by omega) hb
      refine ⟨g, hg, by rw [sv, if_neg e]; exact e1, fun j hj hjk => ?_⟩
      have := e2 j hj hjk
      have := up j hj
      omega
theorem corner_above {n : Nat} {G : List (List Int)} (hG : MsOk n G) {c : List Int} (h1 : c.length = n) (h2 : ∀ i, i < n → 1 ≤ gI c i ∧ gI c i ≤ 1000) (h3 : ∀ g ∈ G, ∃ i, i < n ∧ gI c i ≤ gI g i) :
    ∃ d, Corner n G d ∧ ∀ j, j < n → gI c j ≤ gI d j := by
  have key : ∀ i, i ≤ n → ∃ d : List Int, d.length = n ∧ (∀ i, i < n → 1 ≤ gI d i ∧ gI d i ≤ 1000) ∧ (∀ g ∈ G, ∃ i, i < n ∧ gI d i ≤ gI g i) ∧
      (∀ k, k < i → gI d k < 1000 → ∃ g ∈ G, gI g k = gI d k ∧ ∀ j, j < n → j ≠ k → gI g j < gI d j) ∧ ∀ j, j < n → gI c j ≤ gI d j := by
    intro i
    induction i with
    | zero => intro _; exact ⟨c, h1, h2, h3, fun k hk => absurd hk (Nat.not_lt_zero _), fun j _ => Int.le_refl _⟩
    | succ i ih =>
      intro hi
      obtain ⟨d, d1, d2, d3, d4, d5⟩ := ih (by omega)
      obtain ⟨e, e1, e2, e3, e4, e5⟩ := corner_raise hG (show i < n by omega) d1 d2 d3 d4
      exact ⟨e, e1, e2, e3, e4, fun j hj => Int.le_trans (d5 j hj) (e5 j hj)⟩
  obtain ⟨d, d1, d2, d3, d4, d5⟩ := key n (Nat.le_refl _)
  exact ⟨d, ⟨d1, d2, d3, d4⟩, d5⟩
/-- the least generators have the same corners -/
theorem corner_least {n : Nat} {G L : List (List Int)} (hs : ∀ g ∈ L, g ∈ G) (hl : ∀ g ∈ G, ∃ l ∈ L, ∀ i, i < n → gI l i ≤ gI g i) (c : List Int) : Corner n L c ↔ Corner n G c := by
  constructor
  · intro h
    refine ⟨h.len, h.lo, fun g hg => ?_, fun k hk hb => ?_⟩
    · obtain ⟨l, hl1, hle⟩ := hl g hg
      obtain ⟨i, hi, z⟩ := h.F l hl1
      exact ⟨i, hi, Int.le_trans z (hle i hi)⟩
    · obtain ⟨g, hg, z⟩ := h.B k hk hb
      exact ⟨g, hs g hg, z⟩
  · intro h
    have F : ∀ g ∈ L, ∃ i, i < n ∧ gI c i ≤ gI g i := fun g hg => h.F g (hs g hg)
    refine ⟨h.len, h.lo, F, fun k hk hb => ?_⟩
    obtain ⟨g, hg, e1, e2⟩ := h.B k hk hb
    obtain ⟨l, hl1, hle⟩ := hl g hg
    have lo : ∀ j, j < n → j ≠ k → gI l j < gI c j := fun j hj hjk => Int.lt_of_le_of_lt (hle j hj) (e2 j hj hjk)
    obtain ⟨i, hi, z⟩ := F l hl1
    have hik : i = k := by
      by_cases e : i = k
      · exact e
      · have := lo i hi e; omega
    subst hik
    exact ⟨l, hl1, by have := hle i hi; omega, lo⟩
/-- the part of a corner -/
def ptC (c : List Int) : List Int := c.map fun b => if b < 1000 then b else 0
theorem gI_pt {c : List Int} {i : Nat} : gI (ptC c) i = if gI c i < 1000 then gI c i else 0 := by
  unfold gI ptC
  rw [List.getD_eq_getElem?_getD, List.getD_eq_getElem?_getD, List.getElem?_map]
  cases c[i]? <;> rfl
theorem len_pt {c : List Int} : (ptC c).length = c.length := List.length_map ..
/-- is the monomial in the part's ideal -/
def InP (n : Nat) (p w : List Int) : Prop := ∃ i, i < n ∧ 0 < gI p i ∧ gI p i ≤ gI w i
def HoldsP (n : Nat) (G : List (List Int)) (w : List Int) : Prop := ∃ g ∈ G, ∀ i, i < n → gI g i ≤ gI w i
theorem inP_pt {n : Nat} {G : List (List Int)} {c w : List Int} (hc : Corner n G c) : InP n (ptC c) w ↔ ∃ i, i < n ∧ gI c i < 1000 ∧ gI c i ≤ gI w i := by
  unfold InP
  constructor
  · rintro ⟨i, hi, h1, h2⟩
    rw [gI_pt] at h1 h2
    by_cases e : gI c i < 1000
    · rw [if_pos e] at h2; exact ⟨i, hi, e, h2⟩
    · rw [if_neg e] at h1; omega
  · rintro ⟨i, hi, h1, h2⟩
    have := hc.lo i hi
    exact ⟨i, hi, by rw [gI_pt, if_pos h1]; omega, by rw [gI_pt, if_pos h1]; exact h2⟩
theorem parts_meet {n : Nat} {G : List (List Int)} (hG : MsOk n G) {w : List Int} (hw : ∀ i, i < n → 0 ≤ gI w i ∧ gI w i < 1000) : (∀ c, Corner n G c → InP n (ptC c) w) ↔ HoldsP n G w := by
  constructor
  · intro h
    refine Classical.byContradiction fun z => ?_
    have lw : ∀ i, i < n → gI ((List.range n).map fun i => gI w i + 1) i = gI w i + 1 := fun i hi => by
      conv => lhs; unfold gI
      rw [List.getD_eq_getElem?_getD, List.getElem?_map, List.getElem?_range hi]; rfl
    obtain ⟨d, hd, hle⟩ := corner_above hG (c := (List.range n).map fun i => gI w i + 1) (by simp) (fun i hi => by rw [lw i hi]; have := hw i hi; omega) (fun g hg => by
      refine Classical.byContradiction fun y => z ⟨g, hg, fun i hi => ?_⟩
      have := Int.not_le.mp fun q => y ⟨i, hi, q⟩
      rw [lw i hi] at this
      omega)
    obtain ⟨i, hi, h1, h2⟩ := (inP_pt hd).mp (h d hd)
    have := hle i hi
    rw [lw i hi] at this
    omega
  · rintro ⟨g, hg, hle⟩ c hc
    obtain ⟨i, hi, z⟩ := hc.F g hg
    exact (inP_pt hc).mpr ⟨i, hi, by have := (hG g hg).2 i hi; omega, Int.le_trans z (hle i hi)⟩
/-- a corner's own witness: in all other parts, not in the ideal -/
def witC (top : Int) (c : List Int) : List Int := c.map fun b => if b < 1000 then b - 1 else top
theorem gI_wit {top : Int} {c : List Int} {i : Nat} (h : i < c.length) : gI (witC top c) i = if gI c i < 1000 then gI c i - 1 else top := by
  unfold witC
  conv => lhs; unfold gI
  rw [List.getD_eq_getElem?_getD, List.getElem?_map, gI_get h]; rfl
theorem corner_top {n : Nat} {G : List (List Int)} {top : Int} (ht : ∀ g ∈ G, ∀ i, i < n → gI g i ≤ top) {c : List Int} (hc : Corner n G c) {i : Nat} (hi : i < n) (hb : gI c i < 1000) : gI c i ≤ top := by
  obtain ⟨g, hg, e, _⟩ := hc.B i hi hb
  rw [← e]; exact ht g hg i hi
theorem wit_box {n : Nat} {G : List (List Int)} {top : Int} (h0 : 0 ≤ top) (ht : ∀ g ∈ G, ∀ i, i < n → gI g i ≤ top) {c : List Int} (hc : Corner n G c) : (witC top c).length = n ∧ ∀ i, i < n → 0 ≤ gI (witC top c) i ∧ gI (witC top c) i ≤ top := by
  refine ⟨by unfold witC; rw [List.length_map]; exact hc.len, fun i hi => ?_⟩
  rw [gI_wit (by rw [hc.len]; exact hi)]
  by_cases e : gI c i < 1000
  · rw [if_pos e]
    have := corner_top ht hc hi e
    have := hc.lo i hi
    omega
  · rw [if_neg e]; omega
theorem wit_out {n : Nat} {G : List (List Int)} {top : Int} (ht2 : top < 1000) (ht : ∀ g ∈ G, ∀ i, i < n → gI g i ≤ top) {c : List Int} (hc : Corner n G c) : ¬ HoldsP n G (witC top c) := by
  rintro ⟨g, hg, hle⟩
  obtain ⟨i, hi, z⟩ := hc.F g hg
  have h1 := hle i hi
  rw [gI_wit (by rw [hc.len]; exact hi)] at h1
  have := ht g hg i hi
  by_cases e : gI c i < 1000
  · rw [if_pos e] at h1; omega
  · omega
theorem wit_in {n : Nat} {G : List (List Int)} {top : Int} (ht : ∀ g ∈ G, ∀ i, i < n → gI g i ≤ top) {c d : List Int} (hc : Corner n G c) (hd : Corner n G d) (hne : c ≠ d) : InP n (ptC d) (witC top c) := by
  refine Classical.byContradiction fun z => hne (corner_anti hc hd fun i hi => ?_)
  rcases Int.lt_or_le (gI d i) 1000 with e | e
  · have h1 : ¬ gI d i ≤ gI (witC top c) i := fun y => z ((inP_pt hd).mpr ⟨i, hi, e, y⟩)
    rw [gI_wit (by rw [hc.len]; exact hi)] at h1
    by_cases e2 : gI c i < 1000
    · rw [if_pos e2] at h1; omega
    · rw [if_neg e2] at h1
      exact absurd (corner_top ht hd hi e) h1
  · have := hc.lo i hi; omega
/-- unlike corners have unlike parts -/
theorem pt_inj {n : Nat} {G : List (List Int)} {c d : List Int} (hc : Corner n G c) (hd : Corner n G d) (h : ptC c = ptC d) : c = d := by
  refine gI_ext hc.len hd.len fun i hi => ?_
  have e := congrArg (fun l => gI l i) h
  simp only [gI_pt] at e
  have a := hc.lo i hi
  have b := hd.lo i hi
  split at e <;> split at e <;> omega
/-- the law's own way to a part: no wider one holds all -/
def raiseP (top : Int) (b : List Int) (i : Nat) : List Int := b.set i (if gI b i < top then gI b i + 1 else 0)
def DueP (n : Nat) (top : Int) (G : List (List Int)) (b : List Int) : Prop := (∀ g ∈ G, InP n b g) ∧ ∀ i, i < n → 0 < gI b i → ¬ ∀ g ∈ G, InP n (raiseP top b i) g
theorem due_iff {n : Nat} {G : List (List Int)} {top : Int} (ht0 : 0 ≤ top) (ht2 : top < 1000) (hG : MsOk n G) (ht : ∀ g ∈ G, ∀ i, i < n → gI g i ≤ top) {b : List Int} (hb : b.length = n) (hb2 : ∀ i, i < n → 0 ≤ gI b i ∧ gI b i ≤ top) :
    DueP n top G b ↔ ∃ c, Corner n G c ∧ b = ptC c := by
  have sv : ∀ i j, i < n → gI (raiseP top b i) j = if j = i then (if gI b i < top then gI b i + 1 else 0) else gI b j := fun i j hi => gI_set (by omega)
  constructor
  · rintro ⟨h1, h2⟩
    have gc : ∀ i, i < n → gI (b.map fun x => if x = 0 then 1000 else x) i = if gI b i = 0 then 1000 else gI b i := fun i hi => by
      conv => lhs; unfold gI
      rw [List.getD_eq_getElem?_getD, List.getElem?_map, gI_get (by omega)]; rfl
    refine ⟨b.map fun x => if x = 0 then 1000 else x, ⟨by rw [List.length_map]; exact hb, fun i hi => ?_, fun g hg => ?_, fun k hk hk2 => ?_⟩, gI_ext hb (by rw [len_pt, List.length_map]; exact hb) fun i hi => ?_⟩
    · rw [gc i hi]
      have := hb2 i hi
      split <;> omega
    · obtain ⟨i, hi, a1, a2⟩ := h1 g hg
      exact ⟨i, hi, by rw [gc i hi, if_neg (by omega)]; exact a2⟩
    · rw [gc k hk] at hk2
      have hk0 : ¬ gI b k = 0 := fun z => by rw [if_pos z] at hk2; omega
      rw [if_neg hk0] at hk2
      have hkb := hb2 k hk
      obtain ⟨g, hg, hno⟩ : ∃ g ∈ G, ¬ InP n (raiseP top b k) g := by
        refine Classical.byContradiction fun z => h2 k hk (by omega) fun g hg => Classical.byContradiction fun y => z ⟨g, hg, y⟩
      have low : ∀ j, j < n → j ≠ k → 0 < gI b j → gI g j < gI b j := fun j hj hjk h0 => Int.not_le.mp fun y => hno ⟨j, hj, by rw [sv k j hk, if_neg hjk]; exact h0, by rw [sv k j hk, if_neg hjk]; exact y⟩
      refine ⟨g, hg, ?_, fun j hj hjk => ?_⟩
      · rw [gc k hk, if_neg hk0]
        obtain ⟨i, hi, a1, a2⟩ := h1 g hg
        have hik : i = k := by
          by_cases e : i = k
          · exact e
          · have := low i hi e a1; omega
        subst hik
        have hgt := ht g hg i hi
        by_cases e : gI b i < top
        · have : ¬ gI b i + 1 ≤ gI g i := fun y => hno ⟨i, hi, by rw [sv i i hi, if_pos rfl, if_pos e]; omega, by rw [sv i i hi, if_pos rfl, if_pos e]; exact y⟩
          omega
        · omega
      · rw [gc j hj]
        by_cases e : gI b j = 0
        · rw [if_pos e]; exact ((hG g hg).2 j hj).2
        · rw [if_neg e]
          have := hb2 j hj
          exact low j hj hjk (by omega)
    · rw [gI_pt, gc i hi]
      have := hb2 i hi
      by_cases e : gI b i = 0
      · rw [if_pos e, if_neg (by omega), e]
      · rw [if_neg e, if_pos (by omega)]
  · rintro ⟨c, hc, rfl⟩
    refine ⟨fun g hg => ?_, fun i hi h0 hall => ?_⟩
    · obtain ⟨i, hi, z⟩ := hc.F g hg
      exact (inP_pt hc).mpr ⟨i, hi, by have := (hG g hg).2 i hi; omega, z⟩
    · have e1 : gI c i < 1000 := by
        rw [gI_pt] at h0
        by_cases e : gI c i < 1000
        · exact e
        · rw [if_neg e] at h0; omega
      obtain ⟨g, hg, g1, g2⟩ := hc.B i hi e1
      obtain ⟨j, hj, a1, a2⟩ := hall g hg
      rw [sv i j hi] at a1 a2
      by_cases e : j = i
      · rw [if_pos e] at a1 a2
        rw [gI_pt, if_pos e1] at a1 a2
        by_cases e2 : gI c i < top
        · rw [if_pos e2] at a2; rw [e, g1] at a2; omega
        · rw [if_neg e2] at a1; omega
      · rw [if_neg e] at a1 a2
        rw [gI_pt] at a1 a2
        have := g2 j hj e
        by_cases e2 : gI c j < 1000
        · rw [if_pos e2] at a2; omega
        · rw [if_neg e2] at a1; omega

/-! ### enumerate(tuple) -/
section
open PySem.Spec PyProof.Rows
theorem meets_enumT {v : Value} {o : Obj} {H : Heap → Prop} (B : Begins v o H) :
    Meets (Builtin.«enumerate.__new__» ⟨[.type "enumerate", v], []⟩) (fun _ R s => H s.heap ∧
      R (.ok (.ret (.ref (s.heap.push o).objs.size))) { s with heap := (s.heap.push o).push { cls := .type "enumerate", data := .fields #[.none, .bool false, .ref s.heap.objs.size, rawInt 0, .none, .none] } }) :=
  .of_wp fun prog w A R s h => by
    obtain ⟨hp, g, d, tk, os⟩ := s
    obtain ⟨h1, h⟩ := h
    have hsub := sub_enumerate
    have q1 : ∀ {A' : Around} {E : Value → Shared → Prop} {Q : Value → Shared → Prop}, Q (.ref hp.objs.size) ⟨hp.push o, g, d, tk, os⟩ → wpAny (model prog w) A' (pyIter v) Q E ⟨hp, g, d, tk, os⟩ :=
      fun q => B.iter prog w _ _ ⟨hp, g, d, tk, os⟩ _ h1 q
    wp_walk using q1
    refine wpAny_stack_any fun st => wpAny_pure ?_
    split
    · rename_i c _ _ _ _ _
      cases (c == Value.type "enumerate")
      · wp_walk using q1
        exact ⟨_, rfl, h⟩
      · wp_walk using q1
        exact ⟨_, rfl, h⟩
    · wp_walk using q1
      exact ⟨_, rfl, h⟩
theorem enum_beginsT {prog : Program} {w : World} {A : Around} {E : Value → Shared → Prop} {s : Shared} {v : Value} {o : Obj} {H : Heap → Prop} {Q : Value → Shared → Prop} (B : Begins v o H) (h1 : H s.heap)
    (h : ∀ h', IsEnum h' (s.heap.objs.size + 1) s.heap.objs.size 0 .none → h'.get? s.heap.objs.size = some o → h'.objs.size = s.heap.objs.size + 2 →
      (∀ b o, s.heap.get? b = some o → h'.get? b = some o) → Q (.ref (s.heap.objs.size + 1)) { s with heap := h' }) :
    wpAny (model prog w) A (call (.type "enumerate") [v]) Q E s := by
  refine callType_new PySem.F.called_enumerate (by decide) (PySem.F.typeCall_enumerate_1 _) (PySem.F.newCall_enumerate_1 _) (fun obj => PySem.F.args_object_init_2 obj _) PySem.F.entry_enumerate_new (meets_enumT B) ⟨h1, ?_⟩
  have hz : (s.heap.push o).objs.size = s.heap.objs.size + 1 := Heap.size_push ..
  show _ ∧ _
  rw [hz]
  have he : IsEnum ((s.heap.push o).push { cls := .type "enumerate", data := .fields #[.none, .bool false, .ref s.heap.objs.size, rawInt 0, .none, .none] }) (s.heap.objs.size + 1) s.heap.objs.size 0 .none := by
    have := Heap.get?_push_size (s.heap.push o) (o := { cls := .type "enumerate", data := .fields #[.none, .bool false, .ref s.heap.objs.size, rawInt 0, .none, .none] }) rfl
    rw [hz] at this
    exact this
  refine ⟨⟨_, he, rfl⟩, h _ he (Heap.get?_push_of_some _ (Heap.get?_push_size _ B.free)) (by rw [Heap.size_push, hz]) fun b o x => Heap.get?_push_of_some _ (Heap.get?_push_of_some _ x)⟩
end
section
open PySem.Spec PyProof.Rows
/-- the tuple at a, each item in a new pair -/
def ItET (K : PySem.W.Frag) (a : Addr) : It :=
  ⟨fun i H => ∃ (xs : List V) (x : V), SqT K H a xs ∧ xs[i]? = some x, fun i H v H' => ∃ T x, v = .ref T ∧ H T = none ∧ H' = upd H T (.tup [.int (i : Nat), x]) ∧ ∀ xs, SqT K H a xs → xs[i]? = some x, fun i H => ∃ xs : List V, SqT K H a xs ∧ xs.length = i⟩
theorem turn_enumT {P : Program} {w : World} {K : PySem.W.Frag} {elts : List Expr} {kk : Nat} {tpos : Pos} (a e it : Addr) :
    Turn P w K (.Tuple elts kk tpos) (ItET K a) [e, it] e (fun i h => (∃ old, IsEnum h e it ((i : Nat) : Int) old) ∧ h.IsTupleIter it a i ∧ e ≠ it ∧ a ≠ it ∧ a ≠ e) where
  mem := by simp
  obj := fun i h st b hb => by
    obtain ⟨⟨old, he⟩, ⟨o, ho, hc, hd⟩, _⟩ := st
    have e' : b = e ∨ b = it := by simpa using hb
    rcases e' with z | z
    · rw [z]; exact ⟨_, he, fun v q => nomatch q⟩
    · rw [z]; exact ⟨o, ho, fun v q => by rw [hd] at q; cases q⟩
  keep := fun i h h' st k => let ⟨⟨old, he⟩, hi, hne⟩ := st; ⟨⟨old, k e (by simp) _ he⟩, hi.at fun o q => k it (by simp) o q, hne⟩
  item := by
    intro X hP hw hK hc i pins s σ H E I hf st hg
    subst hP hw hK
    obtain ⟨⟨old, he⟩, hit, hne, hai, hae⟩ := st
    obtain ⟨xs, x, hq, hx⟩ := hg
    obtain ⟨its, rv, htup, hz⟩ := I.tuple hq
    obtain ⟨u, hu, ru⟩ := rv.get hx
    have hlt : i < its.toArray.size := by simpa using (List.getElem?_eq_some_iff.mp hu).1
    have hel : e < s.heap.objs.size := Heap.lt_size he
    have hil : it < s.heap.objs.size := by obtain ⟨_, q, _⟩ := hit; exact Heap.lt_size q
    have hef : e ∉ [it, a] := by simp [hne, Ne.symm hae]
    refine wpAny_pyNext_enum_itemD (Draws.tuple (A := X.A.in1) (I.ok.hd hc) it a hai its.toArray) he ⟨hit, htup⟩ hlt hne hef fun x' h' tk hx' ho hst' hT hsz hk => ?_
    have ex : x' = u := by
      have q : its[i]? = some x' := by simpa using hx'
      rw [hu] at q
      exact (Option.some.inj q).symm
    subst ex
    refine ⟨_, rfl, wpAny_letOwnedTupleGo_enum (s := { s with heap := h', toks := tk + 1 }) ho fun h'' he' sb => ?_⟩
    have hT2 : h''.get? s.heap.objs.size = some { cls := .type "tuple", data := .seq #[.int i tk, x'] } := (sb.2 _ (Nat.ne_of_gt hel)).trans hT
    have new : ObjOk X.prog X.w (upd H s.heap.objs.size (.tup [.int (i : Nat), x])) h'' s.heap.objs.size (.tup [.int (i : Nat), x]) :=
      ⟨by show 2 ≤ sizeLine; decide, [.int i tk, x'], .cons ⟨_, rfl⟩ (.cons ru .nil), ⟨_, hT2, rfl, _, rfl⟩⟩
    have I1 : Inv X pins σ (upd H s.heap.objs.size (.tup [.int (i : Nat), x])) { s with heap := h'', toks := tk + 1 } :=
      I.turnedNew (ch := [e, it]) (fun b ob hb q => (sb.2 b (fun z => hb (by simp [z]))).trans (hk b ob (fun z => hb (by simp [z])) (fun z => hb (by simp [z])) q)) hf (Nat.le_refl _) new
    refine ⟨.ref s.heap.objs.size, _, I1, rfl, ⟨_, x, rfl, I.hok.fresh (Nat.le_refl _), rfl, fun ys hy => ?_⟩, ⟨⟨x', ?_⟩, hst'.1.at fun o q => (sb.2 it (Ne.symm hne)).trans q, hne, hai, hae⟩, fun b hb => ?_⟩
    · rw [I.tuple_inj hy hq]
      exact hx
    · have e1 : ((i + 1 : Nat) : Int) = (i : Int) + 1 := by omega
      rw [e1]; exact he'
    · have hb' : b < s.heap.objs.size := by
        have e' : b = e ∨ b = it := by simpa using hb
        rcases e' with z | z
        · rw [z]; exact hel
        · rw [z]; exact hil
      rw [upd_ne (Nat.ne_of_lt hb')]
      exact (hf b hb).1
  done := by
    intro X hP hw hK hc i pins s σ H E I hf st hg
    subst hP hw hK
    obtain ⟨⟨old, he⟩, hit, hne, hai, hae⟩ := st
    obtain ⟨xs, hq, hx⟩ := hg
    obtain ⟨its, rv, htup, hz⟩ := I.tuple hq
    obtain ⟨f0, f1, f2, f3, f4, f5⟩ := hf it (by simp)
    have hl : its.toArray.size = i := by rw [List.size_toArray, ← hx]; exact rv.length.symm
    refine wpAny_pyNext_enum_endD (Draws.tuple (A := X.A.in1) (I.ok.hd hc) it a hai its.toArray) he (by rw [hl]; exact ⟨hit, htup⟩) fun h' eb => ⟨rfl, I.turned (t' := s.toks) (fun b o hb q => eb b o hb q) f0 f1 f3 f4 f5⟩
  self := fun A i s Q E st h => let ⟨⟨_, he⟩, _⟩ := st; wpAny_pyIter_enum he h
def iEnumT (K : PySem.W.Frag) (ta : TA) : TI := fun σ H R => ta σ H fun vs H1 => ∃ a xs, vs = [.ref a] ∧ SqT K H1 a xs ∧ R (ItET K a) H1
theorem pi_enumT {X : Cx} {e : Expr} {ta : TA} {p pos tpos : Pos} {elts : List Expr} {kk : Nat} (hg : Gl X "enumerate") (hm : X.mg "enumerate" = none) (ha : PA X [e] ta) (hs : starEach [e] X.env = [(false, eval e X.env)] := by rfl) :
    PI X (.Tuple elts kk tpos) (.Call (.Name "enumerate" p) [e] [] pos) (iEnumT X.K ta) := by
  refine ⟨fun pins s σ H R I h => ?_⟩
  refine Call_ (ld_blt I hg hm boot_enumerate (PyProof.Rows.callWith_type1 (thn (ha.run pos pins s σ H _ I h) fun us s1 ⟨vs, H1, I1, r1, q1⟩ => ?_) hs rfl))
  obtain ⟨a, xs, ex, hq, q⟩ := q1
  subst ex
  cases r1 with
  | cons r rr =>
    cases rr
    cases r
    obtain ⟨its, rv, htup, hz⟩ := I1.tuple hq
    have htup' : s1.heap.IsTuple a its.toArray := htup
    have la : a < s1.heap.objs.size := by obtain ⟨o, e, _⟩ := htup; exact Heap.lt_size e
    refine enum_beginsT (begins_tuple a its.toArray) htup' fun h' he hit hsz hk => wpAny_pyIter_enum he ?_
    have I2 : Inv X pins σ H1 { s1 with heap := h' } := I1.kept (t' := s1.toks) hk
    refine ⟨s1.heap.objs.size + 1, [s1.heap.objs.size + 1, s1.heap.objs.size], _, _, H1, rfl, I2, turn_enumT a (s1.heap.objs.size + 1) s1.heap.objs.size, ⟨⟨.none, he⟩, ⟨_, hit, rfl, rfl⟩, Nat.succ_ne_self _, Nat.ne_of_lt la, Nat.ne_of_lt (Nat.lt_succ_of_lt la)⟩, fun b hb => ?_, q⟩
    have e' : b = s1.heap.objs.size + 1 ∨ b = s1.heap.objs.size := by simpa using hb
    have hle : s1.heap.objs.size ≤ b := by
      rcases e' with z | z
      · rw [z]; exact Nat.le_add_right _ _
      · rw [z]; exact Nat.le_refl _
    exact I1.fpOk hle (I1.hok.fresh hle)
theorem walk_enumT {K : PySem.W.Frag} {a : Addr} {xs : List V} : Walk (ItET K a) xs.length (fun H => SqT K H a xs) (YPair (fun i => some (.int (i : Nat))) (fun i => xs[i]?)) := by
  refine ⟨fun i _ hi q => ⟨xs, xs[i], q, by simp [hi]⟩, fun _ q => ⟨xs, q, rfl⟩, fun i H v H' _ q y => ?_⟩
  obtain ⟨T, x, h1, h2, h3, h4⟩ := y
  exact ⟨T, .int (i : Nat), x, h1, h2, h3, rfl, h4 xs q⟩
end

theorem pg_tupK {X : Cx} {K : PySem.W.Frag} {es : List Expr} {k : Nat} {pos : Pos} {t : TGs} {n : Nat} (hK : X.K = K) (hc : X.calm = true) (h : PGs X es t)
    (hn : (assignEach es X.env).length = n := by rfl) (hst : (assignEach es X.env).findIdx? (·.1) = none := by rfl) : PG X (.Tuple es k pos) (gTup K n t) := by
  subst hK
  exact pg_tup hc h hn hst
theorem walk_zipTT {K : PySem.W.Frag} {a b : Addr} {xs ys : List V} {n : Nat} (hn : n = min xs.length ys.length) : Walk (RZ.ItzT K a b) n (fun H => SqT K H a xs ∧ SqT K H b ys) (YPair (fun i => xs[i]?) (fun i => ys[i]?)) := by
  refine ⟨fun i H hi h => ?_, fun H h => ?_, fun i H x H' hi h q => ?_⟩
  · have h1 : i < xs.length := by omega
    have h2 : i < ys.length := by omega
    exact ⟨xs, ys, _, _, h.1, h.2, List.getElem?_eq_getElem h1, List.getElem?_eq_getElem h2⟩
  · exact ⟨xs, ys, h.1, h.2, by omega⟩
  · obtain ⟨T, x1, y1, e1, e2, e3, e4, e5⟩ := q
    exact ⟨T, x1, y1, e1, e2, e3, e4 _ h.1, e5 _ h.2⟩

/-! ### the checks -/
/-- a lot of monomials as the law draws them -/
def LotOk (n : Nat) (ms : List (List Int)) : Prop := ms.length ≤ 12 ∧ ∀ m ∈ ms, m.length = n ∧ ∀ e ∈ m, 0 ≤ e ∧ e ≤ 8
section
variable {P : Program} {w : World} {K : PySem.W.Frag} {mg : Str → Option Value} {base : Heap}
def sp_is_tuple_up_to (K : PySem.W.Frag) : Sp := fun vs H Q _ => ∃ (a : Addr) (m : Int) (xs : List V), vs = [.ref a, .int m] ∧ SqT K H a xs ∧ Q (.bl (decide ((xs.length : Int) ≤ m))) H
theorem ok_is_tuple_up_to (T : Txt K mg) : FnOk P w K mg base CX0 1 T.is_tuple_up_to.f T.is_tuple_up_to.fd P_is_tuple_up_to (sp_is_tuple_up_to K) := by
  refine T.is_tuple_up_to.F.ok sc_is_tuple_up_to (fun vs H Q E h => ?_) (fun cdv A outer s H vs Q E hr h => ?_)
  · obtain ⟨a, m, xs, rfl, _⟩ := h; rfl
  · obtain ⟨a, m, xs, rfl, hT, k⟩ := h
    refine ⟨_, (pss_one (ps_ret (pe_and (pe_callB (r := rIsi K) call_isi rfl T.n_isinstance bo_isinstance (pa_cons (pv 0) (pa_cons (pe_bltn (v := .ty "tuple") rfl T.n_tuple bo_tuple rfl) pa_nil))) (pe_one (pe_cmpR op_le (pe_callB (r := rLenS K) call_len_seq rfl T.n_len bo_len (pa_cons (pv 0) pa_nil)) (pv 1) (nomark _)))))), ?_⟩
    walk_at "rd"
    refine ⟨_, _, _, _, _, rfl, .ty _, ty_tup hT, kit_tuple_tuple, ?_⟩
    walk_at "rd"
    refine ⟨_, _, rfl, .inr hT, ?_⟩
    walk_at "rd"
    exact k
def sp_is_mono (t : TabsAt) (K : PySem.W.Frag) : Sp := fun vs H Q _ => ∃ (v : V) (m : Int) (b : Bool), vs = [.int m, v] ∧ RowV K m 0 8 H v b ∧ TS t H ∧ ∀ H', Ex t H H' → Q (.bl b) H'
theorem ok_is_mono (T : Txt K mg) {t : TabsAt} (B : TBs T base t) : FnOk P w K mg base CX0 11 T.is_mono.f T.is_mono.fd P_is_mono (sp_is_mono t K) := by
  refine T.is_mono.F.ok sc_is_mono (fun vs H Q E h => ?_) (fun cdv A outer s H vs Q E hr h => ?_)
  · obtain ⟨v, m, b, rfl, _⟩ := h; rfl
  · obtain ⟨v, m, b, rfl, hv, ts, k⟩ := h
    refine ⟨_, (pss_one (ps_ret (pe_call (ok_is_row_of_integers T B) (hr.mono (by decide)) rfl T.is_row_of_integers.g T.is_row_of_integers.F.kp (b_is_row_of_integers T) .nil pass0 (pa_cons (pv 1) (pa_cons (pv 0) (pa_cons pe_int (pa_cons (pe_glob rfl T.g_MOST_MONO_EXPONENT (v := .int 8) ⟨_, rfl⟩) pa_nil))))))), ?_⟩
    walk_at "rd"
    exact ⟨v, m, 0, 8, b, rfl, hv, ts, k⟩
def sp_check_integer_in : Sp := fun vs H Q _ => ∃ n lo hi, vs = [.int n, .int lo, .int hi] ∧ (lo ≤ n ∧ n ≤ hi) ∧ Q .non H
theorem ok_check_integer_in (T : Txt K mg) : FnOk P w K mg base CX0 3 T.check_integer_in.f T.check_integer_in.fd P_check_integer_in sp_check_integer_in := by
  refine T.check_integer_in.F.ok sc_check_integer_in (fun vs H Q E h => ?_) (fun cdv A outer s H vs Q E hr h => ?_)
  · obtain ⟨n, lo, hi, rfl, _⟩ := h; rfl
  · obtain ⟨n, lo, hi, rfl, hb, k⟩ := h
    refine ⟨_, (pss_one (ps_if (pt_not (pt_val (pe_call (ok_is_integer_in T) (hr.mono (by decide)) rfl T.is_integer_in.g T.is_integer_in.F.kp (b_is_integer_in T) .nil pass0 (pa_cons (pv 0) (pa_cons (pv 1) (pa_cons (pv 2) pa_nil)))))) (pss_one ps_never) pss_nil)), ?_⟩
    walk_at "rd"
    refine ⟨_, _, _, rfl, .inl ⟨_, rfl, ?_⟩⟩
    rw [decide_eq_true hb.1, decide_eq_true hb.2]
    walk_at "rd"
    exact k
def sp_check_many : Sp := fun vs H Q _ => ∃ n : Int, vs = [.int n] ∧ 1 ≤ n ∧ n ≤ 8 ∧ Q .non H
theorem ok_check_many (T : Txt K mg) : FnOk P w K mg base CX0 4 T.check_many.f T.check_many.fd P_check_many sp_check_many := by
  refine T.check_many.F.ok sc_check_many (fun vs H Q E h => ?_) (fun cdv A outer s H vs Q E hr h => ?_)
  · obtain ⟨n, rfl, _⟩ := h; rfl
  · obtain ⟨n, rfl, h1, h2, k⟩ := h
    refine ⟨_, (pss_one (ps_expr (pe_call (ok_check_integer_in T) (hr.mono (by decide)) rfl T.check_integer_in.g T.check_integer_in.F.kp (b_check_integer_in T) .nil pass0 (pa_cons (pv 0) (pa_cons pe_int (pa_cons (pe_glob rfl T.g_MOST_MONO_VARIABLES (v := .int 8) ⟨_, rfl⟩) pa_nil)))))), ?_⟩
    walk_at "rd"
    refine ⟨n, 1, 8, rfl, ⟨h1, h2⟩, ?_⟩
    walk_at "rd"
    exact k
def sp_check_monos (t : TabsAt) (K : PySem.W.Frag) : Sp := fun vs H Q _ => ∃ (n : Nat) (v : V) (ms : List (List Int)), vs = [.int n, v] ∧ Dp K H v (rsD ms) ∧ LotOk n ms ∧ TS t H ∧ ∀ H', Ex t H H' → Q .non H'
theorem ok_check_monos (T : Txt K mg) {t : TabsAt} (B : TBs T base t) : FnOk P w K mg base CX0 12 T.check_monos.f T.check_monos.fd P_check_monos (sp_check_monos t K) := by
  refine T.check_monos.F.ok sc_check_monos (fun vs H Q E h => ?_) (fun cdv A outer s H vs Q E hr h => ?_)
  · obtain ⟨n, v, ms, rfl, _⟩ := h; rfl
  · obtain ⟨n, v, ms, rfl, hv, ⟨hl, hm⟩, ts, k⟩ := h
    obtain ⟨a, xs, rfl, ha, hxs⟩ := rows_tup hv
    have hlen : xs.length = ms.length := by have := Toy.DpAll.len hxs; rwa [List.length_map] at this
    refine ⟨_, (pss_cons (ps_if (pt_not (pt_val (pe_call (ok_is_tuple_up_to T) (hr.mono (by decide)) rfl T.is_tuple_up_to.g T.is_tuple_up_to.F.kp (b_is_tuple_up_to T) .nil pass0 (pa_cons (pv 1) (pa_cons (pe_glob rfl T.g_MOST_MONOS (v := .int 12) ⟨_, rfl⟩) pa_nil))))) (pss_one ps_never) pss_nil)
  (pss_one (ps_for PassesOwn.never rfl (pi_enumT rfl T.n_enumerate (pa_cons (pv 1) pa_nil)) (pg_tup rfl (pgs_cons (pg_name (i := 2) sc_check_monos.nd rfl (Or.inl rfl)) (pgs_cons (pg_name (i := 3) sc_check_monos.nd rfl (Or.inl rfl)) pgs_nil))) (pss_one (ps_if (pt_not (pt_val (pe_call (ok_is_mono T B) (hr.mono (by decide)) rfl T.is_mono.g T.is_mono.F.kp (b_is_mono T) .nil pass0 (pa_cons (pv 0) (pa_cons (pv 3) pa_nil))))) (pss_one ps_never) pss_nil))))), ?_⟩
    walk_at "rd"
    refine ⟨_, _, _, rfl, ha, ?_⟩
    rw [decide_eq_true (show ((xs.length : Nat) : Int) ≤ 12 by omega)]
    walk_at "rd"
    refine ⟨_, _, rfl, ha, ?_⟩
    refine for_it (walk_enumT (K := K) (a := a) (xs := xs)) (fun i σ H' => Ex t H H' ∧ ∃ y z, σ = [some (.int n), some (.ref a), y, z]) ⟨Ex.of ts (Same.refl _), _, _, rfl⟩ (fun i σ H' _ q => (tp_ext q.1.keep).sqt ha) (fun i x σ H1 H2 hi q hY => ?_) (fun σ H' q => ?_)
    · obtain ⟨x1, y, z, rfl⟩ := q
      obtain ⟨Tq, c, v, rfl, hn, rfl, e1, e2⟩ := hY
      cases e1
      obtain ⟨b, r, hr', rfl, hb⟩ := row_at hxs e2
      have hmr := hm r (List.mem_of_getElem? hr')
      have x2 : Ex t H (upd H1 Tq (.tup [.int (i : Nat), .ref b])) := x1.same (same_upd hn)
      walk_at "rd"
      refine ⟨.ref b, n, _, rfl, .inl ⟨b, r, rfl, (tp_ext x2.keep).sqt hb, rfl⟩, x2.ts, fun H3 x3 => ?_⟩
      rw [row_true (by rw [hmr.1]) hmr.2]
      walk_at "rd"
      exact ⟨x2.trans x3, _, _, rfl⟩
    · obtain ⟨x1, _⟩ := q
      exact k _ x1
def sp_check_ideal (t : TabsAt) (K : PySem.W.Frag) : Sp := fun vs H Q _ => ∃ (n : Nat) (v : V) (ms : List (List Int)), vs = [.int n, v] ∧ 1 ≤ n ∧ n ≤ 8 ∧ Dp K H v (rsD ms) ∧ LotOk n ms ∧ TS t H ∧ ∀ H', Ex t H H' → Q .non H'
theorem ok_check_ideal (T : Txt K mg) {t : TabsAt} (B : TBs T base t) : FnOk P w K mg base CX0 13 T.check_ideal.f T.check_ideal.fd P_check_ideal (sp_check_ideal t K) := by
  refine T.check_ideal.F.ok sc_check_ideal (fun vs H Q E h => ?_) (fun cdv A outer s H vs Q E hr h => ?_)
  · obtain ⟨n, v, ms, rfl, _⟩ := h; rfl
  · obtain ⟨n, v, ms, rfl, h1, h2, hv, hm, ts, k⟩ := h
    refine ⟨_, (pss_cons (ps_expr (pe_call (ok_check_many T) (hr.mono (by decide)) rfl T.check_many.g T.check_many.F.kp (b_check_many T) .nil pass0 (pa_cons (pv 0) pa_nil)))
  (pss_one (ps_expr (pe_call (ok_check_monos T B) (hr.mono (by decide)) rfl T.check_monos.g T.check_monos.F.kp (b_check_monos T) .nil pass0 (pa_cons (pv 0) (pa_cons (pv 1) pa_nil)))))), ?_⟩
    walk_at "rd"
    refine ⟨by omega, ?_⟩
    walk_at "rd"
    refine ⟨n, v, ms, rfl, hv, hm, ts, fun H' x => ?_⟩
    exact k _ x
end

section
variable {g : TG} {te : TE} {σ : L2.St} {vs : List Nat} {c : Bool} {Fi Fl : Hp → Prop} {H1 : Hp} {J : It} {n : Nat} {G : Hp → Prop} {Y : Nat → Hp → V → Hp → Prop}
/-- over any walk -/
theorem gx_it (w : Walk J n G Y) (Pv : Nat → Hp → Prop) (h0 : Pv 0 H1) (hG : ∀ i H, i ≤ n → Pv i H → G H)
    (hs : ∀ i x H H', i < n → Pv i H → Y i H x H' → g x σ H' fun σ2 H2 => wipe σ2 vs = σ ∧ te σ2 H2 fun y H3 => ∃ b, y = .bl b ∧ (b = c → Fl H3) ∧ (b = !c → Pv (i + 1) H3)) (hd : ∀ H, Pv n H → Fi H) :
    ∃ W : Nat → Nat → Hp → Prop, (∃ m, W 0 m H1) ∧ GxTurn J g te σ vs c Fi Fl W := by
  refine ⟨fun i m H => m = n - i ∧ i ≤ n ∧ Pv i H, ⟨n, by simp, Nat.zero_le _, h0⟩, ?_⟩
  rintro i m H ⟨rfl, hi, p⟩
  have q := hG i H hi p
  by_cases hlt : i < n
  · exact .inr ⟨w.goes i H hlt q, Pv (i + 1), fun H' p' => ⟨n - (i + 1), by omega, rfl, hlt, p'⟩, fun x H' y => hs i x H H' hlt p (w.yields i H x H' hlt q y)⟩
  · have e : i = n := by omega
    subst e
    exact .inl ⟨w.stops H q, hd H p⟩
end
theorem at_gI {ns : List Int} {i : Nat} (h : i < ns.length) : (ns.map V.int)[i]? = some (.int (gI ns i)) := by rw [List.getElem?_map, gI_get h]; rfl
theorem gI_of {ns : List Int} {i : Nat} {x : V} (h : (ns.map V.int)[i]? = some x) : i < ns.length ∧ x = .int (gI ns i) := by
  have hi : i < ns.length := by have := (List.getElem?_eq_some_iff.mp h).1; simpa using this
  rw [at_gI hi] at h
  exact ⟨hi, (Option.some.inj h).symm⟩
theorem pi_tupK {X : Cx} {K : PySem.W.Frag} {tg l : Expr} {tl : TE} (hK : X.K = K) (hl : PE X l tl) : PI X tg l (iTup K tl) := by
  subst hK
  exact pi_tup hl
theorem pi_listK {X : Cx} {K : PySem.W.Frag} {tg l : Expr} {tl : TE} (hK : X.K = K) (hl : PE X l tl) : PI X tg l (iList K tl) := by
  subst hK
  exact pi_list hl
theorem two_line : 2 ≤ sizeLine := by decide
/-- t + u, tuples: one of them, or a new one -/
theorem catA {K : PySem.W.Frag} {H : Hp} {a b : Addr} {xs ys : List V} {Q : VK} (ha : SqT K H a xs) (hb : SqT K H b ys) (hz : xs.length + ys.length ≤ sizeLine) (h : ∀ p H', Same H H' → SqT K H' p (xs ++ ys) → Q (.ref p) H') : rCatA K (.ref a) (.ref b) H Q := by
  refine ⟨a, b, xs, ys, rfl, rfl, ha, hb, hz, fun e => ?_, fun _ e => ?_, fun _ _ p hp => h p _ (same_upd hp) (.inl (.inl upd_same))⟩
  · subst e; exact h b H (Same.refl _) hb
  · subst e; exact h a H (Same.refl _) (by rw [List.append_nil]; exact ha)
/-- (x,) * n -/
theorem repA {K : PySem.W.Frag} {H : Hp} {a : Addr} {x : V} {n : Nat} {Q : VK} (ha : SqT K H a [x]) (hn : 1 ≤ n) (hz : n ≤ 1000) (h : ∀ p H', Same H H' → SqT K H' p (List.replicate n x) → Q (.ref p) H') : rRepA K (.ref a) (.int n) H Q := by
  by_cases e : n = 1
  · subst e
    exact .inr ⟨a, _, rfl, rfl, ha, h a H (Same.refl _) ha⟩
  · refine .inl ⟨a, n, [x], rfl, rfl, ha, by simp, by omega, by omega, by simp, fun p hp => h p _ (same_upd hp) (.inl (.inl ?_))⟩
    have ef : ∀ k : Nat, (List.replicate k [x]).flatten = List.replicate k x := fun k => by
      induction k with
      | zero => rfl
      | succ k ih => rw [List.replicate_succ, List.flatten_cons, ih]; rfl
    rw [upd_same, Int.toNat_natCast, ef]
theorem TS.lst {t : TabsAt} {H : Hp} {p : Addr} {ys zs : List V} (h : TS t H) (hp : H p = some (.lst ys)) : TS t (upd H p (.lst zs)) := by
  refine ⟨fun x hx => ?_, fun x hx => ?_⟩
  · obtain ⟨ps, h1, h2⟩ := h.g x hx
    exact ⟨ps, (upd_ne fun z => by rw [z, hp] at h1; cases h1).trans h1, h2⟩
  · have : x ∈ ([] : List Str) := hx
    cases this
/-- nothing but a table stood there -/
def NewP (H : Hp) (p : Addr) : Prop := ∀ o, H p = some o → ∃ ps, o = .tbl ps
theorem NewP.of {H : Hp} {p : Addr} (h : H p = none) : NewP H p := fun o e => by rw [h] at e; cases e
theorem NewP.ex {t : TabsAt} {H H' : Hp} {p : Addr} (x : Ex t H H') (h : NewP H' p) : NewP H p := fun o e => Classical.byContradiction fun n => n (h o (x.keep p o e fun ps z => n ⟨ps, z⟩))
theorem NewP.ne {H : Hp} {p b : Addr} {o : HO} (h : NewP H p) (e : H b = some o) (n : ∀ ps, o ≠ .tbl ps) : b ≠ p := fun z => by
  subst z
  obtain ⟨ps, q⟩ := h o e
  exact n ps q
theorem Ex.lst {t : TabsAt} {H H' : Hp} {p : Addr} {ys zs : List V} (x : Ex t H H') (h0 : NewP H p) (hp : H' p = some (.lst ys)) : Ex t H (upd H' p (.lst zs)) :=
  ⟨fun b o e n => (upd_ne (h0.ne e n)).trans (x.keep b o e n), x.ts.lst hp⟩

/-! ### reaches, touches -/
theorem gx_reaches : ("reaches" : Str) ∈ gensL := by decide
theorem lx_reaches : ("reaches" : Str) ∉ lamsL := by decide
theorem any_range_succ {n : Nat} {f : Nat → Bool} : (List.range (n + 1)).any f = ((List.range n).any f || f n) := by rw [List.range_succ, List.any_append]; simp
theorem all_range_succ {n : Nat} {f : Nat → Bool} : (List.range (n + 1)).all f = ((List.range n).all f && f n) := by rw [List.range_succ, List.all_append]; simp
theorem any_lt {n i : Nat} {f : Nat → Bool} (h : i < n) (e : f i = true) : (List.range n).any f = true := List.any_eq_true.mpr ⟨i, List.mem_range.mpr h, e⟩
section
variable {P : Program} {w : World} {K : PySem.W.Frag} {mg : Str → Option Value} {base : Heap}
def sp_reaches (t : TabsAt) (K : PySem.W.Frag) : Sp := fun vs H Q _ => ∃ (a b : Addr) (m c : List Int) (n : Nat), vs = [.ref a, .ref b] ∧ SqT K H a (m.map V.int) ∧ SqT K H b (c.map V.int) ∧ m.length = n ∧ c.length = n ∧ TS t H ∧ ∀ H', Ex t H H' → Q (.bl (reachB n m c)) H'
theorem ok_reaches (T : Txt K mg) {t : TabsAt} (B : TBs T base t) : FnOk P w K mg base CX0 10 T.reaches.f T.reaches.fd P_reaches (sp_reaches t K) := by
  refine okC T.reaches.F B.h_reaches sc_reaches (fun vs H Q E h => ?_) (fun A outer s H vs Q E hr h => ?_)
  · obtain ⟨a, b, m, c, n, rfl, _⟩ := h; rfl
  · obtain ⟨a, b, m, c, n, rfl, ha, hb, hm, hc, ts, k⟩ := h
    refine ⟨_, (pss_one (ps_ret (pe_anyR (ys := (["exponent", "bound"] : List Str)) (own := []) (vs := [2, 3]) sc_reaches.nd (by decide) hr rfl T.n_any bo_any B.b_reaches rfl (gxOk_by (N := N_reaches) (sc := defScope s_reaches) (own := []) (by decide +kernel)) (RZ.pi_zipA rfl T.n_zip (pa_cons (pv 0) (pa_cons (pv 1) pa_nil))) (fun _ _ _ _ _ _ _ _ hr => (pg_tupK (K := K) (n := 2) rfl rfl (pgs_cons (pg_name (i := 2) (show List.Nodup (N_reaches ++ (["exponent", "bound"] : List Str)) by decide +kernel) rfl (Or.inl rfl)) (pgs_cons (pg_name (i := 3) (show List.Nodup (N_reaches ++ (["exponent", "bound"] : List Str)) by decide +kernel) rfl (Or.inl rfl)) pgs_nil)))) (fun _ _ _ _ _ _ _ _ hr => (pe_cmpR op_ge (pv 2) (pv 3) (nomark _))) (fun _ => rfl)))), ?_⟩
    walk_at "rd"
    refine ⟨a, b, _, _, rfl, .inr ⟨ha, hb, ts.g _ gx_reaches, fun H2 e2 => ?_⟩⟩
    have x2 : Ex t H H2 := Ex.tab ts gx_reaches lx_reaches e2
    refine gx_it (walk_zipTT (K := K) (a := a) (b := b) (xs := m.map V.int) (ys := c.map V.int) (n := n) (by simp [hm, hc])) (fun i H' => Ex t H H' ∧ (List.range i).any (fun i => decide (gI c i ≤ gI m i)) = false) ⟨x2, rfl⟩ (fun i H' _ x => ⟨(tp_ext x.1.keep).sqt ha, (tp_ext x.1.keep).sqt hb⟩) (fun i x H3 H4 hi q y => ?_) (fun H3 q => ?_)
    · obtain ⟨x3, q3⟩ := q
      obtain ⟨Tz, x1, y1, rfl, nT, rfl, ex, ey⟩ := y
      obtain ⟨_, rfl⟩ := gI_of ex
      obtain ⟨_, rfl⟩ := gI_of ey
      refine ⟨Tz, _, rfl, .inl (.inl upd_same), rfl, ?_⟩
      walk_at "rd"
      refine ⟨fun z => ?_, fun z => ⟨x3.same (same_upd nT), ?_⟩⟩
      · have e : reachB n m c = true := any_lt hi (by simpa using z)
        rw [← e]
        exact k _ (x3.same (same_upd nT))
      · rw [any_range_succ, q3]
        simpa using z
    · have e : reachB n m c = false := q.2
      rw [← e]
      exact k _ q.1
def sp_touches (K : PySem.W.Frag) : Sp := fun vs H Q _ => ∃ (a b : Addr) (o c : List Int) (n k : Nat), vs = [.ref a, .ref b, .int k] ∧ SqT K H a (o.map V.int) ∧ SqT K H b (c.map V.int) ∧ o.length = n ∧ c.length = n ∧ k < n ∧ n ≤ 8 ∧ ∀ H', Same H H' → Q (.bl (touchB n o c k)) H'
theorem ok_touches (T : Txt K mg) : FnOk P w K mg base CX0 1 T.touches.f T.touches.fd P_touches (sp_touches K) := by
  refine T.touches.F.ok sc_touches (fun vs H Q E h => ?_) (fun cdv A outer s H vs Q E hr h => ?_)
  · obtain ⟨a, b, o, c, n, k, rfl, _⟩ := h; rfl
  · obtain ⟨a, b, o, c, n, k, rfl, ha, hb, ho, hc, hk, hn, kk⟩ := h
    have h8 : 8 < sizeLine := by decide
    refine ⟨_, (pss_cons (ps_if (pt_cmpR op_ne (pe_ix (r := rIxT K) ix_tup (pv 0) (pv 2) (fun _ _ => rfl)) (pe_ix (r := rIxT K) ix_tup (pv 1) (pv 2) (fun _ _ => rfl)) (nomark _)) (pss_one (ps_ret pe_bl)) pss_nil)
  (pss_one (ps_ret (pe_callB (r := rAll K) (cr_all rfl) rfl T.n_all bo_all (pa_cons (pe_lc (own := [("k", 3), ("exponent", 4)]) rfl sc_touches.nd (pi_enumT rfl T.n_enumerate (pa_cons (pv 0) pa_nil)) (blkOk_by (own := [("k", 3), ("exponent", 4)]) (N := N_touches) (sc := defScope s_touches) (by decide +kernel)) (fun _ _ _ _ _ => (pg_tupK (K := K) (n := 2) rfl rfl (pgs_cons (pg_name (i := 3) sc_touches.nd rfl (Or.inl rfl)) (pgs_cons (pg_name (i := 4) sc_touches.nd rfl (Or.inl rfl)) pgs_nil)))) (fun _ _ _ _ _ => pts_one (pt_cmpR op_ne (pv 3) (pv 2) (nomark _))) (fun _ _ _ _ _ => (pe_cmpR op_lt (pv 4) (pe_ix (r := rIxT K) ix_tup (pv 1) (pv 3) (fun _ _ => rfl)) (nomark _)))) pa_nil))))), ?_⟩
    walk_at "rd"
    refine ⟨_, _, _, _, rfl, rfl, ha, atI_nat (at_gI (by omega)), ?_⟩
    walk_at "rd"
    refine ⟨_, _, _, _, rfl, rfl, hb, atI_nat (at_gI (by omega)), ?_⟩
    walk_at "rd"
    refine iteVn (fun hne => ?_) (fun he => ?_)
    · walk_at "rd"
      have e : touchB n o c k = false := by unfold touchB; rw [decide_eq_false hne]; rfl
      rw [← e]
      exact kk _ (Same.refl _)
    · walk_at "rd"
      refine ⟨_, _, rfl, ha, fun D hD => ?_⟩
      have hz : (o.map V.int).length = n := by rw [List.length_map]; exact ho
      refine lc_it (walk_enumT (K := K) (a := a) (xs := o.map V.int)) (fun i H' => ∃ bs : List Bool, Same H H' ∧ H' D = some (.lst (bs.map V.bl)) ∧ bs.length ≤ i ∧ bs.all id = (List.range i).all fun j => decide (j = k) || decide (gI o j < gI c j))
        ⟨[], same_upd hD, upd_same, Nat.le_refl _, rfl⟩ (fun i H' _ q => ?_) (fun i x H2 H3 hi q y => ?_) (fun H2 q => ?_)
      · obtain ⟨bs, q1, _⟩ := q
        exact Toy.Same.tup q1 ha
      · obtain ⟨bs, q1, q2, q3, q4⟩ := q
        obtain ⟨Tz, x1, y1, rfl, nT, rfl, ex, ey⟩ := y
        cases ex
        obtain ⟨_, rfl⟩ := gI_of ey
        have nD : D ≠ Tz := fun z => by rw [z, nT] at q2; cases q2
        rw [hz] at hi
        refine ⟨Tz, _, rfl, .inl (.inl upd_same), rfl, ?_⟩
        walk_at "rd"
        refine iteVn (fun hik => ?_) (fun hik => ?_)
        · walk_at "rd"
          refine ⟨_, _, _, _, rfl, rfl, Toy.Same.tup (Same.trans q1 (same_upd nT)) hb, atI_nat (at_gI (by omega)), ?_⟩
          walk_at "rd"
          refine ⟨bs.map V.bl, (upd_ne nD).trans q2, by rw [List.length_map]; omega, bs ++ [decide (gI o i < gI c i)], fun b' u e => ?_, by rw [upd_same]; simp, by simp; omega, ?_⟩
          · rw [upd_ne (ne_of_none e hD)]
            exact Same.trans q1 (same_upd nT) _ _ e
          · rw [List.all_append, q4, all_range_succ, decide_eq_false (show ¬ i = k by omega)]
            simp
        · refine ⟨bs, Same.trans q1 (same_upd nT), (upd_ne nD).trans q2, by omega, ?_⟩
          rw [q4, all_range_succ, decide_eq_true (show i = k by omega)]
          simp
      · obtain ⟨bs, q1, q2, q3, q4⟩ := q
        walk_at "rd"
        refine ⟨D, bs, rfl, .inl (.inl q2), ?_⟩
        have e : touchB n o c k = bs.all id := by rw [q4, hz]; unfold touchB; rw [decide_eq_true he]; rfl
        rw [← e]
        exact kk _ q1
end

/-! ### lowered_corners -/
theorem cut_from (xs : List V) (k : Nat) (h : k ≤ xs.length) : cutV xs (some (k : Int)) none = xs.drop k := by
  unfold cutV
  rw [HT.sIx_nat, HT.sIx_none, Nat.min_eq_left h, List.take_of_length_le (by rw [List.length_drop]; omega)]
theorem cut_to (xs : List V) (k : Nat) (h : k ≤ xs.length) : cutV xs none (some (k : Int)) = xs.take k := by
  unfold cutV
  rw [HT.sIx_nat, HT.sIx_none, Nat.min_eq_left h]
  simp
theorem cut_ok1 {n k : Nat} (h : k < n) : ¬ (HT.sIx n 0 Option.none = 0 ∧ HT.sIx n n (some (k : Int)) = n) := by
  rw [HT.sIx_nat]
  omega
theorem cut_ok2 {n k : Nat} (h : 1 ≤ k) (h2 : k ≤ n) : ¬ (HT.sIx n 0 (some (k : Int)) = 0 ∧ HT.sIx n n Option.none = n) := by
  rw [HT.sIx_nat]
  omega
theorem set_cut {α : Type} (l : List α) (p : Nat) (v : α) (h : p < l.length) : l.take p ++ [v] ++ l.drop (p + 1) = l.set p v := by
  rw [List.set_eq_take_append_cons_drop, if_pos h, List.append_assoc]; rfl
/-- i items are made at D, each as R says; all that was before stands; R may speak of what D is not -/
def MapD (H1 : Hp) (D : Addr) (R : Nat → V → Hp → Prop) (i : Nat) (H : Hp) : Prop := ∃ ys, Same H1 H ∧ H D = some (.lst ys) ∧ ys.length = i ∧ ∀ (j : Nat) (y : V), ys[j]? = some y → R j y H
theorem mapD_0 {H1 : Hp} {D : Addr} {R : Nat → V → Hp → Prop} (hD : H1 D = Option.none) : MapD H1 D R 0 (upd H1 D (.lst [])) := ⟨[], same_upd hD, upd_same, rfl, fun j y h => by simp at h⟩
theorem mapD_step {H1 H H4 : Hp} {D : Addr} {R : Nat → V → Hp → Prop} {i : Nat} {y : V} (h : MapD H1 D R i H) (hD : H1 D = Option.none) (hz : i < sizeLine) (s : Same H H4) (hR : ∀ i v H H', R i v H → Tp H H' → KeepBut D H H' → R i v H') (r : R i y H4) :
    ∃ acc, H4 D = some (.lst acc) ∧ acc.length < sizeLine ∧ MapD H1 D R (i + 1) (upd H4 D (.lst (acc ++ [y]))) := by
  obtain ⟨ys, h1, h2, h3, h4⟩ := h
  have e4 := s _ _ h2
  have kb : KeepBut D H4 (upd H4 D (.lst (ys ++ [y]))) := fun b o nb e => (upd_ne nb).trans e
  refine ⟨ys, e4, by rw [h3]; exact hz, ys ++ [y], fun b o e => ?_, upd_same, by simp [h3], fun j z hz => ?_⟩
  · rw [upd_ne (ne_of_none e hD)]
    exact s _ _ (h1 _ _ e)
  · by_cases hj : j < ys.length
    · rw [List.getElem?_append_left hj] at hz
      exact hR _ _ _ _ (hR _ _ _ _ (h4 j z hz) (tp_same s) (.of s)) (tp_lst e4) kb
    · rw [List.getElem?_append_right (by omega)] at hz
      have ej : j - ys.length = 0 := by
        by_cases q : j - ys.length = 0
        · exact q
        · rw [List.getElem?_eq_none (by simp; omega)] at hz; cases hz
      rw [ej] at hz
      simp at hz
      subst hz
      have : j = i := by omega
      subst this
      exact hR _ _ _ _ r (tp_lst e4) kb
/-- a row of the guards: the place, and the generators that touch the corner there -/
def GuardAt (K : PySem.W.Frag) (D : Addr) (n : Nat) (c : List Int) (G : List (List Int)) (k : Nat) (y : V) (H : Hp) : Prop :=
  ∃ (q r : Addr) (rows : List V), y = .ref q ∧ H q = some (.tup [.int k, .ref r]) ∧ H r = some (.lst rows) ∧ q ≠ D ∧ r ≠ D ∧ DpAll K H rows ((G.filter fun o => touchB n o c k).map rD)
/-- tuples stay where all but a list stays -/
theorem tp_but {H H' : Hp} {D : Addr} {ys : List V} (h : H D = some (.lst ys)) (k : KeepBut D H H') : Tp H H' := fun b zs q => by
  have n : b ≠ D := fun e => by
    subst e
    rcases q with q | ⟨o, q⟩
    · rw [h] at q; cases q
    · rw [h] at q; cases q
  rcases q with q | ⟨o, q⟩
  · exact .inl (k _ _ n q)
  · exact .inr ⟨o, k _ _ n q⟩
theorem GuardAt.but {K : PySem.W.Frag} {D : Addr} {n : Nat} {c : List Int} {G : List (List Int)} {k : Nat} {y : V} {H H' : Hp} (h : GuardAt K D n c G k y H) (tp : Tp H H') (kb : KeepBut D H H') : GuardAt K D n c G k y H' := by
  obtain ⟨q, r, rows, e1, e2, e3, n1, n2, d⟩ := h
  exact ⟨q, r, rows, e1, kb _ _ n1 e2, kb _ _ n2 e3, n1, n2, DpAll.tp tp _ _ (tOnly_rows _) d⟩
section
variable {P : Program} {w : World} {K : PySem.W.Frag} {mg : Str → Option Value} {base : Heap}
/-- rows in a list, filtered by a test, one after another -/
theorem dpAll_snoc {H : Hp} {xs : List V} {ds : List PyData} {x : V} {d : PyData} (h : DpAll K H xs ds) (hx : Dp K H x d) : DpAll K H (xs ++ [x]) (ds ++ [d]) := dpAll_app h (.cons hx .nil)
def sp_lowered_corners (K : PySem.W.Frag) : Sp := fun vs H Q _ => ∃ (a b l : Addr) (c m : List Int) (n : Nat) (xs : List V) (G : List (List Int)), vs = [.ref a, .ref b, .ref l] ∧ SqT K H a (c.map V.int) ∧ SqT K H b (m.map V.int) ∧ H l = some (.lst xs) ∧ DpAll K H xs (G.map rD) ∧
  c.length = n ∧ m.length = n ∧ (∀ g ∈ G, g.length = n) ∧ n ≤ 8 ∧ G.length ≤ 64 ∧ ∀ p H' ys, Same H H' → H p = none → H' p = some (.lst ys) → DpAll K H' ys ((lowered n c m G).map rD) → Q (.ref p) H'
theorem ok_lowered_corners (T : Txt K mg) : FnOk P w K mg base CX0 2 T.lowered_corners.f T.lowered_corners.fd P_lowered_corners (sp_lowered_corners K) := by
  refine T.lowered_corners.F.ok sc_lowered_corners (fun vs H Q E h => ?_) (fun cdv A outer s H vs Q E hr h => ?_)
  · obtain ⟨a, b, l, c, m, n, xs, G, rfl, _⟩ := h; rfl
  · obtain ⟨a, b, l, c, m, n, xs, G, rfl, ha, hb, hl, hG, hc, hm, hgl, hn, hG12, kk⟩ := h
    have h12 : 64 < sizeLine := by decide
    have hxl : xs.length = G.length := by have := Toy.DpAll.len hG; rwa [List.length_map] at this
    refine ⟨_, (pss_cons (ps_setLc (i := 3) (own := [("place", 4), ("bound", 5)]) rfl sc_lowered_corners.nd rfl rfl (sw_true rfl rfl rfl (by decide +kernel)) (pi_enumT rfl T.n_enumerate (pa_cons (pv 0) pa_nil)) (blkOk_by (own := [("place", 4), ("bound", 5)]) (N := N_lowered_corners) (sc := defScope s_lowered_corners) (by decide +kernel)) (fun _ _ _ _ _ => (pg_tupK (K := K) (n := 2) rfl rfl (pgs_cons (pg_name (i := 4) sc_lowered_corners.nd rfl (Or.inl rfl)) (pgs_cons (pg_name (i := 5) sc_lowered_corners.nd rfl (Or.inl rfl)) pgs_nil)))) (fun _ _ _ _ _ => pts_one (pt_cmpR op_lt (pv 5) (pe_glob rfl T.g_FAR (v := .int 1000) ⟨_, rfl⟩) (nomark _))) (fun _ _ _ _ _ => (pv 4)))
  (pss_cons (ps_setLc (i := 6) (own := [("place", 4)]) rfl sc_lowered_corners.nd rfl rfl (sw_true rfl rfl rfl (by decide +kernel)) (pi_list (pv 3)) (blkOk_by (own := [("place", 4)]) (N := N_lowered_corners) (sc := defScope s_lowered_corners) (by decide +kernel)) (fun _ _ _ _ _ => (pg_name (i := 4) sc_lowered_corners.nd rfl (Or.inr rfl))) (fun _ _ _ _ _ => pts_nil) (fun _ _ _ _ _ => (pe_tup (pa_cons (pv 4) (pa_cons (pe_lc (own := [("other", 7)]) rfl sc_lowered_corners.nd (pi_listK (K := K) rfl (pv 2)) (blkOk_in (own := [("other", 7)]) (N := N_lowered_corners) (sc := scOf (rvOf ((defBody s_lowered_corners).getD 1 (.Pass ⟨0, 0, 0, 0⟩)))) (by decide +kernel)) (fun _ _ _ _ _ => (pg_name (i := 7) sc_lowered_corners.nd rfl (Or.inl rfl))) (fun _ _ _ _ _ => pts_one (pt_val (pe_call (ok_touches T) (hr.mono (by decide)) rfl T.touches.g T.touches.F.kp (b_touches T) .nil pass0 (pa_cons (pv 7) (pa_cons (pv 0) (pa_cons (pv 4) pa_nil)))))) (fun _ _ _ _ _ => (pv 7))) pa_nil)))))
  (pss_cons (ps_set (i := 8) sc_lowered_corners.nd rfl (Or.inl rfl) (pe_lst pa_nil))
  (pss_cons (ps_for PassesOwn.never rfl (pi_enumT rfl T.n_enumerate (pa_cons (pv 1) pa_nil)) (pg_tup rfl (pgs_cons (pg_name (i := 4) sc_lowered_corners.nd rfl (Or.inr rfl)) (pgs_cons (pg_name (i := 9) sc_lowered_corners.nd rfl (Or.inr rfl)) pgs_nil))) (pss_one (ps_if (PW.pt (pw_and (pt_cmpR op_gt (pv 9) pe_int (nomark _)) (pw_and1 (pt_val (pe_callB (r := rAll K) (cr_all rfl) rfl T.n_all bo_all (pa_cons (pe_lc (own := [("k", 10), ("row", 11)]) rfl sc_lowered_corners.nd (pi_list (pv 6)) (blkOk_by (own := [("k", 10), ("row", 11)]) (N := N_lowered_corners) (sc := defScope s_lowered_corners) (by decide +kernel)) (fun _ _ _ _ _ => (pg_tupK (K := K) (n := 2) rfl rfl (pgs_cons (pg_name (i := 10) sc_lowered_corners.nd rfl (Or.inl rfl)) (pgs_cons (pg_name (i := 11) sc_lowered_corners.nd rfl (Or.inl rfl)) pgs_nil)))) (fun _ _ _ _ _ => pts_one (pt_cmpR op_ne (pv 10) (pv 4) (nomark _))) (fun _ _ _ _ _ => (pe_callB (r := rAny K) (cr_any rfl) rfl T.n_any bo_any (pa_cons (pe_lc (own := [("other", 7)]) rfl sc_lowered_corners.nd (pi_listK (K := K) rfl (pv 11)) (blkOk_in (own := [("other", 7)]) (N := N_lowered_corners) (sc := _) (by decide +kernel)) (fun _ _ _ _ _ => (pg_name (i := 7) sc_lowered_corners.nd rfl (Or.inl rfl))) (fun _ _ _ _ _ => pts_nil) (fun _ _ _ _ _ => (pe_cmpR op_lt (pe_ix (r := rIxT K) ix_tup (pv 7) (pv 4) (fun _ _ => rfl)) (pv 9) (nomark _)))) pa_nil)))) pa_nil)))))) (pss_one (ps_expr (pe_bm PySem.F.plainAttrs_list PySem.F.slot_list_append PySem.F.type_list_append mt_append (pv 8) (pa_cons (pe_op (r := rCatA K) op_catA (pe_op (r := rCatA K) op_catA (pe_slice (r := rSlT K) sl_tup (pv 0) po_none (po_some (pv 4))) (pe_tup (pa_cons (pv 9) pa_nil))) (pe_slice (r := rSlT K) sl_tup (pv 0) (po_some (pe_op op_add (pv 4) pe_int)) po_none)) pa_nil)))) pss_nil)))
  (pss_one (ps_ret (pv 8))))))), ?_⟩
    walk_at "rd"
    refine ⟨_, _, rfl, ha, fun pb hpb => ?_⟩
    have hzc : (c.map V.int).length = n := by rw [List.length_map]; exact hc
    refine lc_it (walk_enumT (K := K) (a := a) (xs := c.map V.int)) (fun i H' => ∃ bs : List Nat, Same H H' ∧ H' pb = some (.lst (bs.map fun (k : Nat) => V.int (k : Int))) ∧ bs.length ≤ i ∧ bs = (List.range i).filter fun k => decide (gI c k < 1000))
      ⟨[], same_upd hpb, upd_same, Nat.le_refl _, rfl⟩ (fun i H' _ q => ?_) (fun i x H2 H3 hi q y => ?_) (fun H1 q => ?_)
    · obtain ⟨bs, q1, _⟩ := q
      exact Toy.Same.tup q1 ha
    · obtain ⟨bs, q1, q2, q3, q4⟩ := q
      obtain ⟨Tz, x1, y1, rfl, nT, rfl, ex, ey⟩ := y
      cases ex
      obtain ⟨_, rfl⟩ := gI_of ey
      have nD : pb ≠ Tz := fun z => by rw [z, nT] at q2; cases q2
      rw [hzc] at hi
      refine ⟨Tz, _, rfl, .inl (.inl upd_same), rfl, ?_⟩
      walk_at "rd"
      refine iteD (fun hb => ?_) (fun hb => ?_)
      · walk_at "rd"
        refine ⟨bs.map fun (k : Nat) => V.int (k : Int), (upd_ne nD).trans q2, by rw [List.length_map]; omega, bs ++ [i], fun b' u e => ?_, by rw [upd_same]; simp, by simp; omega, ?_⟩
        · rw [upd_ne (ne_of_none e hpb)]
          exact Same.trans q1 (same_upd nT) _ _ e
        · rw [List.range_succ, List.filter_append, ← q4]
          simp [hb]
      · refine ⟨bs, Same.trans q1 (same_upd nT), (upd_ne nD).trans q2, by omega, ?_⟩
        rw [List.range_succ, List.filter_append, ← q4]
        simp [hb]
    obtain ⟨bs, s1, e1, l1, eb⟩ := q
    rw [hzc] at l1 eb
    have hbs : ∀ k ∈ bs, k < n := fun k hk => by rw [eb] at hk; simpa using (List.mem_filter.mp hk).1
    walk_at "rd"
    refine ⟨⟨_, .inl (.inl e1)⟩, fun pg hpg => ?_⟩
    have hpbl : (bs.map fun (k : Nat) => V.int (k : Int)).length = bs.length := List.length_map ..
    have hpg0 : H pg = none := by
      cases z : H pg with
      | none => rfl
      | some o => rw [s1 _ _ z] at hpg; cases hpg
    refine lc_list (K := K) (a := pb) (xs := bs.map fun (k : Nat) => V.int (k : Int)) (fun i H' => MapD H1 pg (fun j y H => ∃ k, bs[j]? = some k ∧ GuardAt K pg n c G k y H) i H') (mapD_0 hpg) (fun i H' _ q => ?_) (fun i x H2 hi q => ?_) (fun H2 q => ?_)
    · obtain ⟨ys, q1, _⟩ := q
      exact .inl (.inl (q1 _ _ e1))
    · rw [List.getElem?_map] at hi
      obtain ⟨k, hk, rfl⟩ := Option.map_eq_some_iff.mp hi
      have hkn := hbs k (List.mem_of_getElem? hk)
      have hib : i < bs.length := (List.getElem?_eq_some_iff.mp hk).1
      obtain ⟨ys, q1, q2, q3, q4⟩ := id q
      have s2 : Same H H2 := Same.trans s1 q1
      walk_at "rd"
      refine ⟨⟨_, .inl (.inl (s2 _ _ hl))⟩, fun pr hpr => ?_⟩
      refine lc_list (K := K) (a := l) (xs := xs) (fun i H' => ∃ rows, Same H2 H' ∧ H' pr = some (.lst rows) ∧ rows.length ≤ i ∧ DpAll K H' rows (((G.take i).filter fun o => touchB n o c k).map rD)) ⟨[], same_upd hpr, upd_same, Nat.le_refl _, .nil⟩ (fun j H' _ q => ?_) (fun j x H3 hj q => ?_) (fun H3 q => ?_)
      · obtain ⟨rows, q1, _⟩ := q
        exact .inl (.inl (q1 _ _ (s2 _ _ hl)))
      · obtain ⟨rows, r1, r2, r3, r4⟩ := q
        obtain ⟨o, g, hg, rfl, ho⟩ := row_at hG hj
        have hjl : j < xs.length := (List.getElem?_eq_some_iff.mp hj).1
        have s3 : Same H H3 := Same.trans s2 r1
        have et : G.take (j + 1) = G.take j ++ [g] := by rw [List.take_add_one, hg]; rfl
        walk_at "rd"
        refine ⟨o, a, g, c, n, k, rfl, Toy.Same.tup s3 ho, Toy.Same.tup s3 ha, hgl g (List.mem_of_getElem? hg), hc, hkn, hn, fun H4 s4 => ?_⟩
        walk_at "rd"
        have r4' := DpAll.same s4 _ _ r4
        refine iteB (fun hb => ?_) (fun hb => ?_)
        · walk_at "rd"
          refine ⟨rows, s4 _ _ r2, by omega, rows ++ [.ref o], fun b' u e => ?_, upd_same, by simp; omega, ?_⟩
          · rw [upd_ne (ne_of_none e hpr)]
            exact s4 _ _ (r1 _ _ e)
          · rw [et, List.filter_append, List.map_append]
            have e5 : [g].filter (fun o => touchB n o c k) = [g] := by simp [hb]
            rw [e5]
            exact DpAll.tp (tp_lst (s4 _ _ r2)) _ _ (by rw [← List.map_append]; exact tOnly_rows _) (dpAll_snoc r4' (dp_ints (Toy.Same.tup (Same.trans s3 s4) ho)))
        · refine ⟨rows, Same.trans r1 s4, s4 _ _ r2, by omega, ?_⟩
          rw [et, List.filter_append, List.map_append]
          have e5 : [g].filter (fun o => touchB n o c k) = [] := by simp [hb]
          rw [e5, List.map_nil, List.append_nil]
          exact r4'
      · obtain ⟨rows, r1, r2, r3, r4⟩ := q
        rw [hxl, List.take_length] at r4
        walk_at "rd"
        refine ⟨two_line, fun qa nq => ?_⟩
        have nqr : qa ≠ pr := fun z => by rw [z, r2] at nq; cases nq
        have npr : pr ≠ pg := fun z => by rw [z, q2] at hpr; cases hpr
        have nqg : qa ≠ pg := fun z => by rw [z, r1 _ _ q2] at nq; cases nq
        refine mapD_step q hpg (by omega) (Same.trans r1 (same_upd nq)) (fun i v H5 H6 ⟨k', hk', hga⟩ tp kb => ⟨k', hk', hga.but tp kb⟩) ⟨k, hk, qa, pr, rows, rfl, upd_same, (upd_ne nqr.symm).trans r2, nqg, npr, DpAll.same (same_upd nq) _ _ r4⟩
    obtain ⟨ys, s2, e2, l2, hys⟩ := q
    have s02 : Same H H2 := Same.trans s1 s2
    have hyl : ys.length = bs.length := by rw [l2, List.length_map]
    have hn2 : ∀ {x : Addr}, H2 x = none → H x = none := fun {x} hx => by
      cases z : H x with
      | none => rfl
      | some o => rw [s02 _ _ z] at hx; cases hx
    refine ⟨by decide, fun pf hpf => ?_⟩
    have npf : pg ≠ pf := fun z => by rw [z, hpf] at e2; cases e2
    have s03 : Same H (upd H2 pf (.lst [])) := Same.trans s02 (same_upd hpf)
    walk_at "rd"
    refine ⟨_, _, rfl, Toy.Same.tup s03 hb, ?_⟩
    have hzm : (m.map V.int).length = n := by rw [List.length_map]; exact hm
    refine for_it (walk_enumT (K := K) (a := b) (xs := m.map V.int)) (fun i σ H' => ∃ (y4 y9 : Option V) (fs : List V), σ = [some (.ref a), some (.ref b), some (.ref l), some (.ref pb), y4, none, some (.ref pg), none, some (.ref pf), y9, none, none] ∧
        KeepBut pf (upd H2 pf (.lst [])) H' ∧ H' pf = some (.lst fs) ∧ fs.length ≤ i ∧ DpAll K H' fs ((((List.range i).filter (lowB n c m G)).map fun p => c.set p (gI m p)).map rD))
      ⟨_, _, [], rfl, fun b' o _ e => e, upd_same, Nat.le_refl _, .nil⟩ (fun i σ H' _ q => ?_) (fun i x σ H3 H4 hi q y => ?_) (fun σ H3 q => ?_)
    · obtain ⟨y4, y9, fs, -, q1, _⟩ := q
      exact (tp_but upd_same q1).sqt (Toy.Same.tup s03 hb)
    · obtain ⟨y4, y9, fs, rfl, q1, q2, q3, q4⟩ := q
      obtain ⟨Tz, x1, y1, rfl, nT, rfl, ex, ey⟩ := y
      cases ex
      obtain ⟨_, rfl⟩ := gI_of ey
      rw [hzm] at hi
      have nfT : pf ≠ Tz := fun z => by rw [z, nT] at q2; cases q2
      have s4 := same_upd (o := .tup [V.int (i : Nat), V.int (gI m i)]) nT
      have kb4 : KeepBut pf (upd H2 pf (.lst [])) (upd H3 Tz (.tup [V.int (i : Nat), V.int (gI m i)])) := q1.trans (.of s4)
      have tp4 : Tp (upd H2 pf (.lst [])) (upd H3 Tz (.tup [V.int (i : Nat), V.int (gI m i)])) := tp_but upd_same kb4
      have hf4 : (upd H3 Tz (.tup [V.int (i : Nat), V.int (gI m i)])) pf = some (.lst fs) := (upd_ne nfT).trans q2
      have d4 := DpAll.same s4 _ _ q4
      have a4 := tp4.sqt (Toy.Same.tup s03 ha)
      have g4 : (upd H3 Tz (.tup [V.int (i : Nat), V.int (gI m i)])) pg = some (.lst ys) := kb4 _ _ npf ((upd_ne npf).trans e2)
      have y4' : ∀ (j : Nat) (y : V), ys[j]? = some y → ∃ k, bs[j]? = some k ∧ GuardAt K pg n c G k y (upd H3 Tz (.tup [V.int (i : Nat), V.int (gI m i)])) := fun j y hy => by
        obtain ⟨k, hk, q, r, rows, f1, f2, f3, f4, f5, f6⟩ := hys j y hy
        have n1 : q ≠ pf := fun z => by rw [z, hpf] at f2; cases f2
        have n2 : r ≠ pf := fun z => by rw [z, hpf] at f3; cases f3
        exact ⟨k, hk, q, r, rows, f1, kb4 _ _ n1 ((upd_ne n1).trans f2), kb4 _ _ n2 ((upd_ne n2).trans f3), f4, f5, DpAll.tp (Tp.trans (tp_new hpf) tp4) _ _ (tOnly_rows _) f6⟩
      have clo : ∀ {H5 : Hp} (r : Bool), r = lowB n c m G i → Same (upd H3 Tz (.tup [V.int (i : Nat), V.int (gI m i)])) H5 → r = false →
          ∃ (y4 y9 : Option V) (fs' : List V), ([some (.ref a), some (.ref b), some (.ref l), some (.ref pb), some (.int (i : Nat)), none, some (.ref pg), none, some (.ref pf), some (.int (gI m i)), none, none] : L2.St) = [some (.ref a), some (.ref b), some (.ref l), some (.ref pb), y4, none, some (.ref pg), none, some (.ref pf), y9, none, none] ∧
          KeepBut pf (upd H2 pf (.lst [])) H5 ∧ H5 pf = some (.lst fs') ∧ fs'.length ≤ i + 1 ∧ DpAll K H5 fs' ((((List.range (i + 1)).filter (lowB n c m G)).map fun p => c.set p (gI m p)).map rD) := fun {H5} r er s5 hr0 => by
        refine ⟨_, _, fs, rfl, kb4.trans (.of s5), s5 _ _ hf4, by omega, ?_⟩
        have e : [i].filter (lowB n c m G) = [] := by simp [← er, hr0]
        rw [List.range_succ, List.filter_append, e, List.append_nil]
        exact DpAll.same s5 _ _ d4
      have hT4 : (upd H3 Tz (.tup [V.int (i : Nat), V.int (gI m i)])) Tz = some (.tup [V.int (i : Nat), V.int (gI m i)]) := upd_same
      generalize eH4 : upd H3 Tz (.tup [V.int (i : Nat), V.int (gI m i)]) = H4 at *
      refine ⟨Tz, _, rfl, .inl (.inl hT4), rfl, ?_⟩
      walk_at "rd"
      refine iteD (fun hpos => ?_) (fun hpos => ?_)
      · walk_at "rd"
        refine ⟨⟨_, .inl (.inl g4)⟩, fun D hD => ?_⟩
        refine lc_list (K := K) (a := pg) (xs := ys) (fun j H' => ∃ rs : List Bool, Same H4 H' ∧ H' D = some (.lst (rs.map V.bl)) ∧ rs.length ≤ j ∧ rs.all id = (bs.take j).all fun k => decide (k = i) || guardB n c G i (gI m i) k)
          ⟨[], same_upd hD, upd_same, Nat.le_refl _, rfl⟩ (fun j H' _ q => ?_) (fun j y H5 hj q => ?_) (fun H5 q => ?_)
        · obtain ⟨rs, r1, _⟩ := q
          exact .inl (.inl (r1 _ _ g4))
        · obtain ⟨rs, r1, r2, r3, r4⟩ := q
          obtain ⟨k, hk, qa, ra, rows, f1, f2, f3, f4, f5, f6⟩ := y4' j y hj
          subst f1
          have hjb : j < bs.length := (List.getElem?_eq_some_iff.mp hk).1
          have et : bs.take (j + 1) = bs.take j ++ [k] := by rw [List.take_add_one, hk]; rfl
          refine ⟨qa, _, rfl, .inl (.inl (r1 _ _ f2)), rfl, ?_⟩
          walk_at "rd"
          refine iteVn (fun hne => ?_) (fun heq => ?_)
          · walk_at "rd"
            refine ⟨⟨_, .inl (.inl (r1 _ _ f3))⟩, fun D2 hD2 => ?_⟩
            have f6' := DpAll.same r1 _ _ f6
            refine lc_list (K := K) (a := ra) (xs := rows) (fun z H' => ∃ us : List Bool, Same H5 H' ∧ H' D2 = some (.lst (us.map V.bl)) ∧ us.length ≤ z ∧ us.any id = ((G.filter fun o => touchB n o c k).take z).any fun o => decide (gI o i < gI m i))
              ⟨[], same_upd hD2, upd_same, Nat.le_refl _, rfl⟩ (fun z H' _ q => ?_) (fun z y H6 hz q => ?_) (fun H6 q => ?_)
            · obtain ⟨us, u1, _⟩ := q
              exact .inl (.inl (u1 _ _ (r1 _ _ f3)))
            · obtain ⟨us, u1, u2, u3, u4⟩ := q
              obtain ⟨o, g, hg, rfl, ho⟩ := row_at f6' hz
              have hgl' := hgl g (List.mem_filter.mp (List.mem_of_getElem? hg)).1
              have hzl : z < rows.length := (List.getElem?_eq_some_iff.mp hz).1
              have hrl : rows.length ≤ 64 := by
                have h1 := Toy.DpAll.len f6
                rw [List.length_map] at h1
                have h2 := List.length_filter_le (fun o => touchB n o c k) G
                omega
              have et2 : (G.filter fun o => touchB n o c k).take (z + 1) = (G.filter fun o => touchB n o c k).take z ++ [g] := by rw [List.take_add_one, hg]; rfl
              walk_at "rd"
              refine ⟨_, _, _, _, rfl, rfl, Toy.Same.tup u1 ho, atI_nat (at_gI (by omega)), ?_⟩
              walk_at "rd"
              refine ⟨us.map V.bl, u2, by rw [List.length_map]; omega, us ++ [decide (gI g i < gI m i)], fun b' v e => ?_, by rw [upd_same]; simp, by simp; omega, ?_⟩
              · rw [upd_ne (ne_of_none e hD2)]
                exact u1 _ _ e
              · rw [et2, List.any_append, List.any_append, u4]
                simp
            · obtain ⟨us, u1, u2, u3, u4⟩ := q
              have hrl : rows.length = (G.filter fun o => touchB n o c k).length := by have h1 := Toy.DpAll.len f6; rwa [List.length_map] at h1
              walk_at "rd"
              refine ⟨D2, us, rfl, .inl (.inl u2), ?_⟩
              have eg : us.any id = guardB n c G i (gI m i) k := by
                rw [u4, hrl, List.take_length, List.any_filter]
                rfl
              walk_at "rd"
              refine ⟨rs.map V.bl, u1 _ _ r2, by rw [List.length_map]; omega, rs ++ [us.any id], fun b' v e => ?_, by rw [upd_same]; simp, by simp; omega, ?_⟩
              · rw [upd_ne (ne_of_none e hD)]
                exact u1 _ _ (r1 _ _ e)
              · rw [et, List.all_append, List.all_append, r4, eg, List.all_cons, List.all_nil, List.all_cons, List.all_nil, decide_eq_false (show ¬ k = i by omega)]
                rfl
          · refine ⟨rs, r1, r2, by omega, ?_⟩
            rw [et, List.all_append, r4, List.all_cons, List.all_nil, decide_eq_true (show k = i by omega)]
            simp
        · obtain ⟨rs, r1, r2, r3, r4⟩ := q
          walk_at "rd"
          refine ⟨D, rs, rfl, .inl (.inl r2), ?_⟩
          have el : rs.all id = lowB n c m G i := by
            rw [r4, hyl, List.take_length, eb, List.all_filter]
            unfold lowB
            rw [decide_eq_true hpos, Bool.true_and]
          walk_at "rd"
          refine iteB (fun hall => ?_) (fun hall => ?_)
          · walk_at "rd"
            refine ⟨.inl ⟨rfl, _, .inl (.inl (r1 _ _ hf4))⟩, ?_⟩
            walk_at "rd"
            have a5 := Toy.Same.tup r1 a4
            have hzc' : (c.map V.int).length = n := hzc
            refine ⟨a, _, rfl, a5, by rw [hzc']; exact cut_ok1 hi, fun p1 np1 => ?_⟩
            rw [cut_to _ _ (by omega)]
            walk_at "rd"
            refine ⟨(show 1 ≤ sizeLine by decide), fun p2 np2 => ?_⟩
            have s6 : Same H5 (upd (upd H5 p1 (.tup ((c.map V.int).take i))) p2 (.tup [V.int (gI m i)])) := Same.trans (same_upd np1) (same_upd np2)
            have n12 : p1 ≠ p2 := fun z => by rw [← z, upd_same] at np2; cases np2
            refine catA (xs := (c.map V.int).take i) (ys := [V.int (gI m i)]) (.inl (.inl ((upd_ne n12).trans upd_same))) (.inl (.inl upd_same)) (by rw [List.length_take]; simp; omega) fun p3 H6 s7 t3 => ?_
            have s8 := Same.trans s6 s7
            walk_at "rd"
            refine ⟨a, _, rfl, Toy.Same.tup s8 a5, ?_, fun p4 np4 => ?_⟩
            · rw [hzc', show ((i : Nat) : Int) + 1 = ((i + 1 : Nat) : Int) by omega]
              exact cut_ok2 (by omega) (by omega)
            rw [show ((i : Nat) : Int) + 1 = ((i + 1 : Nat) : Int) by omega, cut_from _ _ (by omega)]
            refine catA (Toy.Same.tup (same_upd np4) t3) (.inl (.inl upd_same)) (by simp; omega) fun p5 H7 s9 t5 => ?_
            rw [set_cut _ _ _ (by omega)] at t5
            have sA : Same H4 H7 := Same.trans r1 (Same.trans s8 (Same.trans (same_upd np4) s9))
            have hfA := sA _ _ hf4
            walk_at "rd"
            refine ⟨_, _, _, rfl, rfl, hfA, by omega, _, _, fs ++ [.ref p5], rfl, ?_, upd_same, by simp; omega, ?_⟩
            · exact (kb4.trans (.of sA)).trans fun b' o nb e => (upd_ne nb).trans e
            · have e : [i].filter (lowB n c m G) = [i] := by simp [← el, hall]
              rw [List.range_succ, List.filter_append, e, List.map_append, List.map_append]
              refine DpAll.tp (tp_lst hfA) _ _ (by rw [← List.map_append]; exact tOnly_rows _) (dpAll_snoc (DpAll.same sA _ _ d4) (dp_ints ?_))
              rw [List.map_set]
              exact t5
          · exact clo _ el r1 hall
      · have el : false = lowB n c m G i := by
          unfold lowB
          rw [decide_eq_false hpos]
          rfl
        exact clo false el (Same.refl _) rfl
    · obtain ⟨y4, y9, fs, rfl, q1, q2, q3, q4⟩ := q
      rw [hzm] at q3 q4
      walk_at "rd"
      refine kk pf H3 fs (fun b' u e => ?_) (hn2 hpf) q2 q4
      have e' := s02 _ _ e
      have nb : b' ≠ pf := ne_of_none e' hpf
      exact q1 _ _ nb ((upd_ne nb).trans e')
end

/-! ### corners_of -/
theorem lowered_len {n : Nat} {c m : List Int} {G : List (List Int)} : (lowered n c m G).length ≤ n := by
  unfold lowered
  rw [List.length_map]
  have := List.length_filter_le (lowB n c m G) (List.range n)
  rwa [List.length_range] at this
theorem stepC_len {n : Nat} (hn : 1 ≤ n) {c m : List Int} {G : List (List Int)} : (stepC n m G c).length ≤ n := by
  unfold stepC
  split
  · exact hn
  · exact lowered_len
theorem flat_len {α β : Type} {f : α → List β} {k : Nat} : ∀ (l : List α), (∀ a ∈ l, (f a).length ≤ k) → (l.flatMap f).length ≤ l.length * k
  | [], _ => by simp
  | a :: l, h => by
    rw [List.flatMap_cons, List.length_append, List.length_cons, Nat.succ_mul]
    have h1 := h a List.mem_cons_self
    have h2 := flat_len l fun b hb => h b (List.mem_cons_of_mem _ hb)
    omega
theorem corners_len {n : Nat} (hn : 1 ≤ n) {ms : List (List Int)} : ∀ i, (corners n ms i).length ≤ n ^ i
  | 0 => by show [List.replicate n (1000 : Int)].length ≤ 1; simp
  | i + 1 => by
    have h := flat_len (f := stepC n (ms.getD i []) (ms.take i)) (k := n) (corners n ms i) fun a _ => stepC_len hn
    have h2 := corners_len hn (ms := ms) i
    have h3 : (corners n ms i).length * n ≤ n ^ i * n := Nat.mul_le_mul_right _ h2
    rw [Nat.pow_succ]
    exact Nat.le_trans h h3
theorem lowered_mem_len {n : Nat} {c m d : List Int} {G : List (List Int)} (h : d ∈ lowered n c m G) : d.length = c.length := by
  obtain ⟨p, _, _, rfl⟩ := mem_lowered.mp h
  exact List.length_set
theorem stepC_mem_len {n : Nat} {c m d : List Int} {G : List (List Int)} (h : d ∈ stepC n m G c) : d.length = c.length := by
  unfold stepC at h
  split at h
  · rw [List.mem_singleton.mp h]
  · exact lowered_mem_len h
theorem corners_mem_len {n : Nat} {ms : List (List Int)} : ∀ i, ∀ d ∈ corners n ms i, d.length = n
  | 0, d, h => by
    have h : d ∈ [List.replicate n (1000 : Int)] := h
    rw [List.mem_singleton.mp h, List.length_replicate]
  | i + 1, d, h => by
    obtain ⟨c, hc, hd⟩ := List.mem_flatMap.mp (show d ∈ (corners n ms i).flatMap _ from h)
    rw [stepC_mem_len hd]
    exact corners_mem_len i c hc
theorem flat_take {α β : Type} {f : α → List β} {l : List α} {i : Nat} {x : α} (h : l[i]? = some x) : (l.take (i + 1)).flatMap f = (l.take i).flatMap f ++ f x := by
  rw [List.take_add_one, h, List.flatMap_append]; simp
theorem flat_take_len {α β : Type} {f : α → List β} (l : List α) (i : Nat) : ((l.take i).flatMap f).length ≤ (l.flatMap f).length := by
  conv => rhs; rw [← List.take_append_drop i l, List.flatMap_append, List.length_append]
  omega
section
variable {P : Program} {w : World} {K : PySem.W.Frag} {mg : Str → Option Value} {base : Heap}
theorem dpAll_take {K : PySem.W.Frag} {H : Hp} : ∀ (i : Nat) {xs : List V} {ds : List PyData}, DpAll K H xs ds → DpAll K H (xs.take i) (ds.take i)
  | 0, _, _, _ => .nil
  | i + 1, _, _, .nil => .nil
  | i + 1, _, _, .cons a t => .cons a (dpAll_take i t)
def sp_corners_of (t : TabsAt) (K : PySem.W.Frag) : Sp := fun vs H Q _ => ∃ (l : Addr) (n : Nat) (xs : List V) (ms : List (List Int)), vs = [.int n, .ref l] ∧ H l = some (.lst xs) ∧ DpAll K H xs (ms.map rD) ∧ (∀ g ∈ ms, g.length = n) ∧ 1 ≤ n ∧ n ≤ 8 ∧ ms.length ≤ 64 ∧
  (∀ i, i ≤ ms.length → (corners n ms i).length ≤ 1000000) ∧ TS t H ∧ ∀ p H' ys, Ex t H H' → NewP H p → H' p = some (.lst ys) → DpAll K H' ys ((corners n ms ms.length).map rD) → Q (.ref p) H'
theorem ok_corners_of (T : Txt K mg) {t : TabsAt} (B : TBs T base t) : FnOk P w K mg base CX0 12 T.corners_of.f T.corners_of.fd P_corners_of (sp_corners_of t K) := by
  refine T.corners_of.F.ok sc_corners_of (fun vs H Q E h => ?_) (fun cdv A outer s H vs Q E hr h => ?_)
  · obtain ⟨l, n, xs, ms, rfl, _⟩ := h; rfl
  · obtain ⟨l, n, xs, ms, rfl, hl, hms, hgl, hn1, hn, hm12, hbd, ts, kk⟩ := h
    have hbig : 1000000 < sizeLine := by decide
    have hxl : xs.length = ms.length := by have := Toy.DpAll.len hms; rwa [List.length_map] at this
    refine ⟨_, (pss_cons (ps_set (i := 2) sc_corners_of.nd rfl (Or.inl rfl) (pe_lst (pa_cons (pe_op (r := rRepA K) op_repA (pe_tup (pa_cons (pe_glob rfl T.g_FAR (v := .int 1000) ⟨_, rfl⟩) pa_nil)) (pv 0)) pa_nil)))
  (pss_cons (ps_for PassesOwn.never rfl (pi_enum rfl T.n_enumerate (pa_cons (pv 1) pa_nil)) (pg_tup rfl (pgs_cons (pg_name (i := 3) sc_corners_of.nd rfl (Or.inl rfl)) (pgs_cons (pg_name (i := 4) sc_corners_of.nd rfl (Or.inl rfl)) pgs_nil))) (pss_cons (ps_set (i := 5) sc_corners_of.nd rfl (Or.inl rfl) (pe_lst pa_nil))
  (pss_cons (ps_for PassesOwn.never rfl (pi_list (pv 2)) (pg_name (i := 6) sc_corners_of.nd rfl (Or.inl rfl)) (pss_one (ps_if (pt_val (pe_call (ok_reaches T B) (hr.mono (by decide)) rfl T.reaches.g T.reaches.F.kp (b_reaches T) .nil pass0 (pa_cons (pv 4) (pa_cons (pv 6) pa_nil)))) (pss_one (ps_expr (pe_bm PySem.F.plainAttrs_list PySem.F.slot_list_append PySem.F.type_list_append mt_append (pv 5) (pa_cons (pv 6) pa_nil)))) (pss_one (ps_aug (i := 5) sc_corners_of.nd rfl (Or.inl rfl) (pe_call (ok_lowered_corners T) (hr.mono (by decide)) rfl T.lowered_corners.g T.lowered_corners.F.kp (b_lowered_corners T) .nil pass0 (pa_cons (pv 6) (pa_cons (pv 4) (pa_cons (pe_slice (r := rSlL K) sl_list (pv 1) po_none (po_some (pv 3))) pa_nil)))) ip_ext)))))
  (pss_one (ps_set (i := 2) sc_corners_of.nd rfl (Or.inl rfl) (pv 5))))))
  (pss_one (ps_ret (pv 2))))), ?_⟩
    walk_at "rd"
    refine ⟨(show 1 ≤ sizeLine by decide), fun p0 np0 => ?_⟩
    refine ⟨_, rfl, ?_⟩
    refine repA (.inl (.inl upd_same)) hn1 (by omega) fun p1 H1 s1 t1 => ?_
    have s01 : Same H H1 := Same.trans (same_upd np0) s1
    walk_at "rd"
    refine ⟨(show 1 ≤ sizeLine by decide), fun pf0 npf0 => ?_⟩
    have s02 : Same H (upd H1 pf0 (.lst [.ref p1])) := Same.trans s01 (same_upd npf0)
    have npf0' : NewP H pf0 := NewP.ex (Ex.of ts s01) (.of npf0)
    walk_at "rd"
    refine ⟨_, _, rfl, .inl (.inl (s02 _ _ hl)), ?_⟩
    refine for_it (walk_enum (K := K) (a := l) (xs := xs)) (fun i σ H' => ∃ (y3 y4 y5 y6 : Option V) (pf : Addr) (fs : List V), σ = [some (.int n), some (.ref l), some (.ref pf), y3, y4, y5, y6] ∧
        Ex t H H' ∧ NewP H pf ∧ H' pf = some (.lst fs) ∧ DpAll K H' fs ((corners n ms i).map rD))
      ⟨_, _, _, _, pf0, [.ref p1], rfl, Ex.of ts s02, npf0', upd_same, .cons (dp_ints (Toy.Same.tup (same_upd npf0) (by rw [List.map_replicate]; exact t1))) .nil⟩ (fun i σ H' _ q => ?_) (fun i x σ H2 H3 hi q y => ?_) (fun σ H2 q => ?_)
    · obtain ⟨_, _, _, _, pf, fs, _, q1, _⟩ := q
      exact .inl (.inl (q1.keep _ _ hl fun _ z => nomatch z))
    · obtain ⟨y3, y4, y5, y6, pf, fs, rfl, q1, q2, q3, q4⟩ := q
      obtain ⟨Tz, x1, y1, rfl, nT, rfl, ex, ey⟩ := y
      cases ex
      obtain ⟨am, m, hm, rfl, ham⟩ := row_at hms ey
      have hml := hgl m (List.mem_of_getElem? hm)
      have him : i < ms.length := (List.getElem?_eq_some_iff.mp hm).1
      have hmD : ms.getD i [] = m := by rw [List.getD_eq_getElem?_getD, hm]; rfl
      have x4 : Ex t H (upd H2 Tz (.tup [.int (i : Nat), .ref am])) := q1.same (same_upd nT)
      have f4 := same_upd (o := .tup [V.int (i : Nat), .ref am]) nT _ _ q3
      have d4 := DpAll.same (same_upd (o := .tup [V.int (i : Nat), .ref am]) nT) _ _ q4
      have hT4 : (upd H2 Tz (.tup [.int (i : Nat), .ref am])) Tz = some (.tup [.int (i : Nat), .ref am]) := upd_same
      generalize upd H2 Tz (.tup [.int (i : Nat), .ref am]) = H4 at *
      have hfl : fs.length = (corners n ms i).length := by have := Toy.DpAll.len d4; rwa [List.length_map] at this
      refine ⟨Tz, _, rfl, .inl (.inl hT4), rfl, ?_⟩
      walk_at "rd"
      refine ⟨by decide, fun pk npk => ?_⟩
      have npk' : NewP H pk := NewP.ex x4 (.of npk)
      have nkf : pf ≠ pk := fun z => by rw [z, npk] at f4; cases f4
      walk_at "rd"
      refine ⟨⟨_, .inl (.inl (same_upd npk _ _ f4))⟩, ?_⟩
      refine for_list (K := K) (a := pf) (xs := fs) (fun j σ H' => ∃ (y6 : Option V) (ks : List V), σ = [some (.int n), some (.ref l), some (.ref pf), some (.int (i : Nat)), some (.ref am), some (.ref pk), y6] ∧ Ex t H4 H' ∧ H' pk = some (.lst ks) ∧ DpAll K H' ks ((((corners n ms i).take j).flatMap (stepC n m (ms.take i))).map rD))
        ⟨_, [], rfl, Ex.of x4.ts (same_upd npk), upd_same, .nil⟩ (fun j σ H' _ q => ?_) (fun j x σ H5 hj q => ?_) (fun σ H5 q => ?_)
      · obtain ⟨_, ks, _, q1, _⟩ := q
        exact .inl (.inl (q1.keep _ _ f4 fun _ z => nomatch z))
      · obtain ⟨y6, ks, rfl, r1, r2, r3⟩ := q
        obtain ⟨ac, c, hc, rfl, hac⟩ := row_at d4 hj
        have hcl := corners_mem_len i c (List.mem_of_getElem? hc)
        have hac5 := (tp_ext r1.keep).sqt hac
        have ham5 := (tp_ext r1.keep).sqt ((tp_ext x4.keep).sqt ham)
        have hkl : ks.length = (((corners n ms i).take j).flatMap (stepC n m (ms.take i))).length := by have := Toy.DpAll.len r3; rwa [List.length_map] at this
        have hb1 : (((corners n ms i).take j).flatMap (stepC n m (ms.take i))).length ≤ 1000000 := Nat.le_trans (flat_take_len _ _) (by have := hbd (i + 1) him; unfold corners at this; rwa [hmD] at this)
        have hb2 : (((corners n ms i).take (j + 1)).flatMap (stepC n m (ms.take i))).length ≤ 1000000 := Nat.le_trans (flat_take_len _ _) (by have := hbd (i + 1) him; unfold corners at this; rwa [hmD] at this)
        have eft := flat_take (f := stepC n m (ms.take i)) hc
        walk_at "rd"
        refine ⟨am, ac, m, c, n, rfl, ham5, hac5, hml, hcl, r1.ts, fun H6 x6 => ?_⟩
        walk_at "rd"
        have k6 := x6.keep _ _ r2 fun _ z => nomatch z
        have d6 := DpAll.tp (tp_ext x6.keep) _ _ (tOnly_rows _) r3
        have x46 := r1.trans x6
        refine iteB (fun hb => ?_) (fun hb => ?_)
        · have es : stepC n m (ms.take i) c = [c] := by unfold stepC; rw [if_pos hb]
          walk_at "rd"
          refine ⟨.inl ⟨rfl, _, .inl (.inl k6)⟩, ?_⟩
          walk_at "rd"
          refine ⟨_, _, _, rfl, rfl, k6, by omega, _, ks ++ [.ref ac], rfl, x46.lst (.of npk) k6, upd_same, ?_⟩
          rw [eft, es, List.map_append]
          exact DpAll.tp (tp_lst k6) _ _ (by rw [← List.map_append]; exact tOnly_rows _) (dpAll_snoc d6 (dp_ints ((tp_ext x6.keep).sqt hac5)))
        · have es : stepC n m (ms.take i) c = lowered n c m (ms.take i) := by unfold stepC; rw [if_neg (by rw [hb]; exact Bool.false_ne_true)]
          walk_at "rd"
          have x06 := x4.trans x46
          refine ⟨l, xs, rfl, .inl (.inl (x06.keep _ _ hl fun _ z => nomatch z)), fun p3 np3 => ?_⟩
          rw [cut_to xs i (by omega)]
          have s6 := same_upd (o := .lst (xs.take i)) np3
          refine ⟨ac, am, p3, c, m, n, xs.take i, ms.take i, rfl, Toy.Same.tup s6 ((tp_ext x6.keep).sqt hac5), Toy.Same.tup s6 ((tp_ext x6.keep).sqt ham5), upd_same, ?_, hcl, hml, fun g hg => hgl g (List.mem_of_mem_take hg), hn, by rw [List.length_take]; omega, fun p7 H7 ys s7 np7 e7 d7 => ?_⟩
          · rw [List.map_take]
            exact dpAll_take i (DpAll.same s6 _ _ (DpAll.tp (tp_ext x06.keep) _ _ (tOnly_rows _) hms))
          · have s67 := Same.trans s6 s7
            have k7 := s67 _ _ k6
            have hyl : ys.length = (lowered n c m (ms.take i)).length := by have := Toy.DpAll.len d7; rwa [List.length_map] at this
            have npk7 : p7 ≠ pk := fun z => by rw [z, s6 _ _ k6] at np7; cases np7
            rw [eft, es, List.length_append] at hb2
            refine ⟨pk, p7, ks, ys, rfl, rfl, k7, e7, by omega, _, ks ++ ys, rfl, (x46.same s67).lst (.of npk) k7, upd_same, ?_⟩
            rw [eft, es, List.map_append]
            exact DpAll.tp (tp_lst k7) _ _ (by rw [← List.map_append]; exact tOnly_rows _) (dpAll_app (DpAll.same s67 _ _ d6) d7)
      · obtain ⟨y6, ks, rfl, r1, r2, r3⟩ := q
        rw [hfl, List.take_length] at r3
        walk_at "rd"
        refine ⟨_, _, _, _, pk, ks, rfl, x4.trans r1, npk', r2, ?_⟩
        unfold corners
        rw [hmD]
        exact r3
    · obtain ⟨_, _, _, _, pf, fs, rfl, q1, q2, q3, q4⟩ := q
      rw [hxl] at q4
      walk_at "rd"
      exact kk pf H2 fs q1 q2 q3 q4
end

/-! ### divides, least_ones -/
theorem gx_divides : ("divides" : Str) ∈ gensL := by decide
theorem lx_divides : ("divides" : Str) ∉ lamsL := by decide
theorem gx_least : ("least_ones" : Str) ∈ gensL := by decide
theorem lx_least : ("least_ones" : Str) ∉ lamsL := by decide
def divB (n : Nat) (a b : List Int) : Bool := (List.range n).all fun i => decide (gI a i ≤ gI b i)
theorem div_iff {n : Nat} {a b : List Int} : divB n a b = true ↔ ∀ i, i < n → gI a i ≤ gI b i := by
  unfold divB
  simp only [List.all_eq_true, List.mem_range, decide_eq_true_eq]
def keepL (n : Nat) (kept : List (List Int)) (m : List Int) : List (List Int) := if (kept.any fun e => divB n e m) = true then kept else kept ++ [m]
def leS (a b : List Int) : Bool := PySem.W.dataLe false (fun m : List Int => PyData.int m.sum) a b
def leastF (n : Nat) (ms : List (List Int)) : List (List Int) := (ms.mergeSort leS).foldl (keepL n) []
theorem keep_mem {n : Nat} : ∀ (ms kept : List (List Int)), ∀ x ∈ ms.foldl (keepL n) kept, x ∈ kept ∨ x ∈ ms
  | [], _, x, h => .inl h
  | m :: ms, kept, x, h => by
    rcases keep_mem ms (keepL n kept m) x h with z | z
    · unfold keepL at z
      split at z
      · exact .inl z
      · rcases List.mem_append.mp z with y | y
        · exact .inl y
        · exact .inr (by rw [List.mem_singleton.mp y]; exact List.mem_cons_self)
    · exact .inr (List.mem_cons_of_mem _ z)
theorem keep_sub {n : Nat} : ∀ (ms kept : List (List Int)), ∀ x ∈ kept, x ∈ ms.foldl (keepL n) kept
  | [], _, x, h => h
  | m :: ms, kept, x, h => keep_sub ms _ x (by unfold keepL; split; exact h; exact List.mem_append_left _ h)
theorem keep_all {n : Nat} : ∀ (ms kept : List (List Int)), ∀ g ∈ ms, ∃ l ∈ ms.foldl (keepL n) kept, ∀ i, i < n → gI l i ≤ gI g i
  | [], _, g, h => by cases h
  | m :: ms, kept, g, h => by
    rcases List.mem_cons.mp h with e | h
    · subst e
      by_cases hk : (kept.any fun e => divB n e g) = true
      · obtain ⟨l, hl, hd⟩ := List.any_eq_true.mp hk
        exact ⟨l, keep_sub ms _ l (by unfold keepL; rw [if_pos hk]; exact hl), div_iff.mp hd⟩
      · exact ⟨g, keep_sub ms _ g (by unfold keepL; rw [if_neg hk]; exact List.mem_append_right _ (List.mem_singleton.mpr rfl)), fun i _ => Int.le_refl _⟩
    · exact keep_all ms _ g h
theorem keep_len {n : Nat} : ∀ (ms kept : List (List Int)), (ms.foldl (keepL n) kept).length ≤ kept.length + ms.length
  | [], _ => Nat.le_refl _
  | m :: ms, kept => by
    have h := keep_len (n := n) ms (keepL n kept m)
    have h2 : (keepL n kept m).length ≤ kept.length + 1 := by
      unfold keepL
      split
      · omega
      · simp
    show (ms.foldl (keepL n) (keepL n kept m)).length ≤ _
    simp only [List.length_cons]
    omega
theorem least_mem {n : Nat} {ms : List (List Int)} {x : List Int} (h : x ∈ leastF n ms) : x ∈ ms := by
  rcases keep_mem _ _ x h with z | z
  · cases z
  · exact (List.mergeSort_perm _ _).mem_iff.mp z
theorem least_all {n : Nat} {ms : List (List Int)} {g : List Int} (h : g ∈ ms) : ∃ l ∈ leastF n ms, ∀ i, i < n → gI l i ≤ gI g i := keep_all _ _ g ((List.mergeSort_perm _ _).mem_iff.mpr h)
theorem least_len {n : Nat} {ms : List (List Int)} : (leastF n ms).length ≤ ms.length := by
  have h := keep_len (n := n) (ms.mergeSort leS) []
  rw [(List.mergeSort_perm _ _).length_eq, List.length_nil, Nat.zero_add] at h
  exact h
theorem foldl_take {α β : Type} {f : β → α → β} {l : List α} {i : Nat} {x : α} {b : β} (h : l[i]? = some x) : (l.take (i + 1)).foldl f b = f ((l.take i).foldl f b) x := by
  rw [List.take_add_one, h, List.foldl_append]; rfl
section
variable {P : Program} {w : World} {K : PySem.W.Frag} {mg : Str → Option Value} {base : Heap}
def sp_divides (t : TabsAt) (K : PySem.W.Frag) : Sp := fun vs H Q _ => ∃ (a b : Addr) (m c : List Int) (n : Nat), vs = [.ref a, .ref b] ∧ SqT K H a (m.map V.int) ∧ SqT K H b (c.map V.int) ∧ m.length = n ∧ c.length = n ∧ TS t H ∧ ∀ H', Ex t H H' → Q (.bl (divB n m c)) H'
theorem ok_divides (T : Txt K mg) {t : TabsAt} (B : TBs T base t) : FnOk P w K mg base CX0 10 T.divides.f T.divides.fd P_divides (sp_divides t K) := by
  refine okC T.divides.F B.h_divides sc_divides (fun vs H Q E h => ?_) (fun A outer s H vs Q E hr h => ?_)
  · obtain ⟨a, b, m, c, n, rfl, _⟩ := h; rfl
  · obtain ⟨a, b, m, c, n, rfl, ha, hb, hm, hc, ts, k⟩ := h
    refine ⟨_, (pss_one (ps_ret (pe_allR (ys := (["a", "b"] : List Str)) (own := []) (vs := [2, 3]) sc_divides.nd (by decide) hr rfl T.n_all bo_all B.b_divides rfl (gxOk_by (N := N_divides) (sc := defScope s_divides) (own := []) (by decide +kernel)) (RZ.pi_zipA rfl T.n_zip (pa_cons (pv 0) (pa_cons (pv 1) pa_nil))) (fun _ _ _ _ _ _ _ _ hr => (pg_tupK (K := K) (n := 2) rfl rfl (pgs_cons (pg_name (i := 2) (show List.Nodup (N_divides ++ (["a", "b"] : List Str)) by decide +kernel) rfl (Or.inl rfl)) (pgs_cons (pg_name (i := 3) (show List.Nodup (N_divides ++ (["a", "b"] : List Str)) by decide +kernel) rfl (Or.inl rfl)) pgs_nil)))) (fun _ _ _ _ _ _ _ _ hr => (pe_cmpR op_le (pv 2) (pv 3) (nomark _))) (fun _ => rfl)))), ?_⟩
    walk_at "rd"
    refine ⟨a, b, _, _, rfl, .inr ⟨ha, hb, ts.g _ gx_divides, fun H2 e2 => ?_⟩⟩
    have x2 : Ex t H H2 := Ex.tab ts gx_divides lx_divides e2
    refine gx_it (walk_zipTT (K := K) (a := a) (b := b) (xs := m.map V.int) (ys := c.map V.int) (n := n) (by simp [hm, hc])) (fun i H' => Ex t H H' ∧ (List.range i).all (fun i => decide (gI m i ≤ gI c i)) = true) ⟨x2, rfl⟩ (fun i H' _ x => ⟨(tp_ext x.1.keep).sqt ha, (tp_ext x.1.keep).sqt hb⟩) (fun i x H3 H4 hi q y => ?_) (fun H3 q => ?_)
    · obtain ⟨x3, q3⟩ := q
      obtain ⟨Tz, x1, y1, rfl, nT, rfl, ex, ey⟩ := y
      obtain ⟨_, rfl⟩ := gI_of ex
      obtain ⟨_, rfl⟩ := gI_of ey
      refine ⟨Tz, _, rfl, .inl (.inl upd_same), rfl, ?_⟩
      walk_at "rd"
      refine ⟨fun z => ?_, fun z => ⟨x3.same (same_upd nT), ?_⟩⟩
      · have e : divB n m c = false := List.all_eq_false.mpr ⟨i, List.mem_range.mpr hi, by rw [z]; exact Bool.false_ne_true⟩
        rw [← e]
        exact k _ (x3.same (same_upd nT))
      · rw [all_range_succ, q3]
        simpa using z
    · have e : divB n m c = true := q.2
      rw [← e]
      exact k _ q.1
theorem zip_rows {H : Hp} : ∀ {xs : List V} {ms : List (List Int)}, DpAll K H xs (ms.map rD) → ∀ b ∈ xs.zip ms, ∃ p, b.1 = .ref p ∧ SqT K H p (b.2.map V.int)
  | [], _, _, b, hb => by simp at hb
  | _ :: _, [], h, b, hb => by simp at hb
  | x :: xs, m :: ms, h, b, hb => by
    cases h with
    | cons h1 h2 =>
      rcases List.mem_cons.mp hb with e | hb
      · subst e
        cases h1 with
        | @tup a zs _ ha hz =>
          have ez := dpAll_ints_eq hz
          subst ez
          exact ⟨a, rfl, ha⟩
      · exact zip_rows h2 b hb
theorem zip_dp {H : Hp} {bs : List (V × List Int)} (h : ∀ b ∈ bs, ∃ p, b.1 = .ref p ∧ SqT K H p (b.2.map V.int)) : DpAll K H (bs.map (·.1)) ((bs.map (·.2)).map rD) := by
  rw [List.map_map]
  refine dpAll_of fun b hb => ?_
  obtain ⟨p, e, hp⟩ := h b hb
  rw [e]
  exact dp_ints hp
theorem zip_fst {α β : Type} {xs : List α} {ys : List β} (h : xs.length = ys.length) : (xs.zip ys).map (·.1) = xs := List.map_fst_zip (Nat.le_of_eq h)
theorem zip_snd {α β : Type} {xs : List α} {ys : List β} (h : xs.length = ys.length) : (xs.zip ys).map (·.2) = ys := List.map_snd_zip (Nat.le_of_eq h.symm)
def sp_least_ones (t : TabsAt) (K : PySem.W.Frag) : Sp := fun vs H Q _ => ∃ (l : Addr) (n : Nat) (xs : List V) (ms : List (List Int)), vs = [.ref l] ∧ (SqL K H l xs ∨ SqT K H l xs) ∧ DpAll K H xs (ms.map rD) ∧ (∀ g ∈ ms, g.length = n) ∧ ms.length ≤ 1000 ∧ TS t H ∧
  ∀ p H' ys, Ex t H H' → NewP H p → H' p = some (.lst ys) → DpAll K H' ys ((leastF n ms).map rD) → Q (.ref p) H'
theorem ok_least_ones (T : Txt K mg) {t : TabsAt} (B : TBs T base t) : FnOk P w K mg base CX0 14 T.least_ones.f T.least_ones.fd P_least_ones (sp_least_ones t K) := by
  refine okC T.least_ones.F B.h_least_ones sc_least_ones (fun vs H Q E h => ?_) (fun A outer s H vs Q E hr h => ?_)
  · obtain ⟨l, n, xs, ms, rfl, _⟩ := h; rfl
  · obtain ⟨l, n, xs, ms, rfl, hl, hms, hgl, hlen, ts, kk⟩ := h
    have hxl : xs.length = ms.length := by have := Toy.DpAll.len hms; rwa [List.length_map] at this
    refine ⟨_, (pss_cons (ps_set (i := 1) sc_least_ones.nd rfl (Or.inl rfl) (pe_lst pa_nil))
  (pss_cons (ps_for PassesOwn.never rfl (pi_list (pe_sortSum hr rfl rfl T.n_sorted rfl T.n_sum (pv 0))) (pg_name (i := 2) sc_least_ones.nd rfl (Or.inr rfl)) (pss_one (ps_if (pt_not (pt_val (pe_anyR (ys := (["earlier"] : List Str)) (own := []) (vs := [3]) sc_least_ones.nd (by decide) hr rfl T.n_any bo_any B.b_least_ones rfl (gxOk_by (N := N_least_ones) (sc := defScope s_least_ones) (own := []) (by decide +kernel)) (pi_list (pv 1)) (fun _ _ _ _ _ _ _ _ hr => (pg_name (i := 3) (show List.Nodup (N_least_ones ++ (["earlier"] : List Str)) by decide +kernel) rfl (Or.inl rfl))) (fun _ _ _ _ _ _ _ _ hr => (pe_call (ok_divides T B) (hr.mono (by decide)) rfl T.divides.g T.divides.F.kp (b_divides T) .nil pass0 (pa_cons (pv 3) (pa_cons (pv 2) pa_nil)))) (fun _ => rfl)))) (pss_one (ps_expr (pe_bm PySem.F.plainAttrs_list PySem.F.slot_list_append PySem.F.type_list_append mt_append (pv 1) (pa_cons (pv 2) pa_nil)))) pss_nil)))
  (pss_one (ps_ret (pv 1))))), ?_⟩
    walk_at "rd"
    refine ⟨by decide, fun pk npk => ?_⟩
    have s1 := same_upd (o := .lst []) npk
    have hd1 := DpAll.same s1 _ _ hms
    walk_at "rd"
    refine ⟨l, xs.zip ms, rfl, ?_, zip_rows hd1, fun p2 np2 => ?_⟩
    · rw [zip_fst hxl]
      rcases hl with hl | hl
      · exact .inl (L2.Same.seq s1 hl)
      · exact .inr (Toy.Same.tup s1 hl)
    have npk2 : pk ≠ p2 := fun z => by rw [← z, upd_same] at np2; cases np2
    have s2 := Same.trans s1 (same_upd (o := .lst (((xs.zip ms).mergeSort (PySem.W.dataLe false fun b => .int b.2.sum)).map (·.1))) np2)
    have dS : DpAll K (upd (upd H pk (.lst [])) p2 (.lst (((xs.zip ms).mergeSort (PySem.W.dataLe false fun b => .int b.2.sum)).map (·.1)))) (((xs.zip ms).mergeSort (PySem.W.dataLe false fun b => .int b.2.sum)).map (·.1)) ((ms.mergeSort leS).map rD) := by
      have e := zip_dp (K := K) (bs := (xs.zip ms).mergeSort (PySem.W.dataLe false fun b : V × List Int => .int b.2.sum)) fun b hb => zip_rows (DpAll.same s2 _ _ hms) b ((List.mergeSort_perm _ _).mem_iff.mp hb)
      have em : ((xs.zip ms).mergeSort (PySem.W.dataLe false fun b : V × List Int => PyData.int b.2.sum)).map (·.2) = ms.mergeSort leS :=
        (List.map_mergeSort (r := PySem.W.dataLe false fun b : V × List Int => PyData.int b.2.sum) (s := leS) (f := fun b : V × List Int => b.2) (hl := fun a _ b _ => rfl)).trans (by rw [zip_snd hxl])
      rw [em] at e
      exact e
    have hsl : (((xs.zip ms).mergeSort (PySem.W.dataLe false fun b => PyData.int b.2.sum)).map (·.1)).length = ms.length := by
      rw [List.length_map, (List.mergeSort_perm _ _).length_eq, List.length_zip]; omega
    have e2 : (upd (upd H pk (.lst [])) p2 (.lst (((xs.zip ms).mergeSort (PySem.W.dataLe false fun b => .int b.2.sum)).map (·.1)))) p2 = some (.lst (((xs.zip ms).mergeSort (PySem.W.dataLe false fun b => .int b.2.sum)).map (·.1))) := upd_same
    have ek : (upd (upd H pk (.lst [])) p2 (.lst (((xs.zip ms).mergeSort (PySem.W.dataLe false fun b => .int b.2.sum)).map (·.1)))) pk = some (.lst []) := (upd_ne npk2).trans upd_same
    generalize (((xs.zip ms).mergeSort (PySem.W.dataLe false fun b => PyData.int b.2.sum)).map (·.1)) = zs at *
    generalize upd (upd H pk (.lst [])) p2 (.lst zs) = H2 at *
    refine ⟨_, rfl, ⟨_, .inl (.inl e2)⟩, ?_⟩
    refine for_list (K := K) (a := p2) (xs := zs) (fun j σ H' => ∃ (y2 : Option V) (ks : List V), σ = [some (.ref l), some (.ref pk), y2] ∧ Ex t H H' ∧ H' p2 = some (.lst zs) ∧ DpAll K H' zs ((ms.mergeSort leS).map rD) ∧ H' pk = some (.lst ks) ∧ DpAll K H' ks ((((ms.mergeSort leS).take j).foldl (keepL n) []).map rD))
      ⟨_, [], rfl, Ex.of ts s2, e2, dS, ek, .nil⟩ (fun j σ H' _ q => ?_) (fun j x σ H3 hj q => ?_) (fun σ H3 q => ?_)
    · obtain ⟨_, ks, _, _, q2, _⟩ := q
      exact .inl (.inl q2)
    · obtain ⟨y2, ks, rfl, q1, q2, q3, q4, q5⟩ := q
      obtain ⟨am, m, hm, rfl, ham⟩ := row_at q3 hj
      have hml : m.length = n := hgl m ((List.mergeSort_perm _ _).mem_iff.mp (List.mem_of_getElem? hm))
      have hjl : j < ms.length := by have := (List.getElem?_eq_some_iff.mp hj).1; omega
      have eft := foldl_take (f := keepL n) (b := []) hm
      have hkl : ks.length ≤ 1000 := by
        have h1 := Toy.DpAll.len q5
        rw [List.length_map] at h1
        have h2 := keep_len (n := n) ((ms.mergeSort leS).take j) []
        rw [List.length_take, List.length_nil] at h2
        omega
      have klen : ∀ g ∈ ((ms.mergeSort leS).take j).foldl (keepL n) [], g.length = n := fun g hg => by
        rcases keep_mem _ _ g hg with z | z
        · cases z
        · exact hgl g ((List.mergeSort_perm _ _).mem_iff.mp (List.mem_of_mem_take z))
      generalize ((ms.mergeSort leS).take j).foldl (keepL n) [] = kl at *
      walk_at "rd"
      refine ⟨⟨_, .inl (.inl q4)⟩, q1.ts.g _ gx_least, fun H4 e4 => ?_⟩
      have x4 : Ex t H3 H4 := Ex.tab q1.ts gx_least lx_least e4
      have hk4 := x4.keep _ _ q4 fun _ z => nomatch z
      refine gx_it (walk_list (K := K) (a := pk) (xs := ks)) (fun i H' => Ex t H3 H' ∧ (kl.take i).any (fun e => divB n e m) = false) ⟨x4, rfl⟩ (fun i H' _ x => .inl (.inl (x.1.keep _ _ q4 fun _ z => nomatch z))) (fun i x H5 H6 hi q y => ?_) (fun H5 q => ?_)
      · obtain ⟨x5, w5⟩ := q
        obtain ⟨rfl, ey⟩ := y
        obtain ⟨ae, e, he, rfl, hae⟩ := row_at q5 ey
        have et : kl.take (i + 1) = kl.take i ++ [e] := by rw [List.take_add_one, he]; rfl
        walk_at "rd"
        refine ⟨ae, am, e, m, n, rfl, (tp_ext x5.keep).sqt hae, (tp_ext x5.keep).sqt ham, klen e (List.mem_of_getElem? he), hml, x5.ts, fun H7 x7 => ?_⟩
        have x37 := x5.trans x7
        refine ⟨_, rfl, fun hb => ?_, fun hb => ⟨x37, ?_⟩⟩
        · refine ⟨_, rfl, iteF ⟨_, ks, rfl, q1.trans x37, x37.keep _ _ q2 (fun _ z => nomatch z), DpAll.tp (tp_ext x37.keep) _ _ (tOnly_rows _) q3, x37.keep _ _ q4 (fun _ z => nomatch z), ?_⟩⟩
          have ek : keepL n kl m = kl := by
            unfold keepL
            rw [if_pos (List.any_eq_true.mpr ⟨e, List.mem_of_getElem? he, hb⟩)]
          rw [eft, ek]
          exact DpAll.tp (tp_ext x37.keep) _ _ (tOnly_rows _) q5
        · rw [et, List.any_append, w5, List.any_cons, List.any_nil]
          simpa using hb
      · obtain ⟨x5, w5⟩ := q
        have hkk : ks.length = kl.length := by have := Toy.DpAll.len q5; rwa [List.length_map] at this
        rw [hkk, List.take_length] at w5
        have ek : keepL n kl m = kl ++ [m] := by
          unfold keepL
          rw [if_neg (by rw [w5]; exact Bool.false_ne_true)]
        have k5 := x5.keep _ _ q4 fun _ z => nomatch z
        refine ⟨_, rfl, iteT ?_⟩
        walk_at "rd"
        refine ⟨.inl ⟨rfl, _, .inl (.inl k5)⟩, ?_⟩
        walk_at "rd"
        have hbig : 1000 < sizeLine := by decide
        have np2 : p2 ≠ pk := fun z => npk2 z.symm
        refine ⟨_, _, _, rfl, rfl, k5, by omega, _, ks ++ [.ref am], rfl, (q1.trans x5).lst (.of npk) k5, (upd_ne np2).trans (x5.keep _ _ q2 (fun _ z => nomatch z)), ?_, upd_same, ?_⟩
        · exact DpAll.tp (Tp.trans (tp_ext x5.keep) (tp_lst k5)) _ _ (tOnly_rows _) q3
        · rw [eft, ek, List.map_append]
          exact dpAll_snoc (DpAll.tp (Tp.trans (tp_ext x5.keep) (tp_lst k5)) _ _ (tOnly_rows _) q5) (dp_ints ((Tp.trans (tp_ext x5.keep) (tp_lst k5)).sqt ham))
    · obtain ⟨y2, ks, rfl, q1, q2, q3, q4, q5⟩ := q
      rw [hsl, List.take_of_length_le (by rw [(List.mergeSort_perm _ _).length_eq]; exact Nat.le_refl _)] at q5
      walk_at "rd"
      exact kk pk H3 ks q1 (.of npk) q4 q5
end

/-! ### irreducible_parts -/
def leR (a b : List Int) : Bool := PySem.W.dataLe false rD a b
def partsL (n : Nat) (ms : List (List Int)) : List (List Int) := ((corners n (leastF n ms) (leastF n ms).length).map ptC).mergeSort leR
section
variable {P : Program} {w : World} {K : PySem.W.Frag} {mg : Str → Option Value} {base : Heap}
theorem depth_rD (c : List Int) : (rD c).depth ≤ 1 := by
  simp only [PyData.depth, PySem.W.depth_ints]
  omega
/-- sorted of a list of tuples of ints, none empty -/
theorem sorted_rows {H : Hp} {a : Addr} {ys : List V} {cs : List (List Int)} {Q : VK} (ha : SqL K H a ys) (hd : DpAll K H ys (cs.map rD)) (hne : ∀ c ∈ cs, c ≠ []) (h : ∀ p zs, H p = none → DpAll K (upd H p (.lst zs)) zs ((cs.mergeSort leR).map rD) → Q (.ref p) (upd H p (.lst zs))) : rSortedD K [.ref a] H Q := by
  have hl : ys.length = cs.length := by have := Toy.DpAll.len hd; rwa [List.length_map] at this
  have hz := zip_rows hd
  refine ⟨a, (ys.zip cs).map fun b => (b.1, rD b.2), rfl, ?_, fun b hb => ?_, ?_, .inl fun d hd' => ?_, fun b hb => ?_, fun p hp => ?_⟩
  · rw [List.map_map]
    show SqL K H a ((ys.zip cs).map fun b => b.1)
    rw [zip_fst hl]
    exact ha
  · obtain ⟨q, hq, rfl⟩ := List.mem_map.mp hb
    obtain ⟨t, e, ht⟩ := hz q hq
    rw [e]
    exact dp_ints ht
  · rw [List.map_map]
    refine PySem.W.AllAlike.of (enc := fun b : V × List Int => rD b.2) fun b b' => ?_
    unfold PySem.W.alike
    exact PySem.W.alike_ints _ _
  · rw [List.map_map] at hd'
    obtain ⟨q, hq, rfl⟩ := List.mem_map.mp hd'
    have hm : q.2 ∈ cs := (List.of_mem_zip hq).2
    have := hne _ hm
    cases e : q.2 with
    | nil => exact absurd e this
    | cons x r => exact ⟨.int x, r.map .int, by simp [e]⟩
  · obtain ⟨q, hq, rfl⟩ := List.mem_map.mp hb
    have := depth_rD q.2
    show (rD q.2).depth ≤ 32
    omega
  · have em : ((ys.zip cs).map fun b => (b.1, rD b.2)).mergeSort (PySem.W.dataLe false (·.2)) = ((ys.zip cs).mergeSort fun x y => leR x.2 y.2).map fun b => (b.1, rD b.2) :=
      (List.map_mergeSort (r := fun x y : V × List Int => leR x.2 y.2) (s := PySem.W.dataLe false (·.2)) (f := fun b : V × List Int => (b.1, rD b.2)) (hl := fun x _ y _ => rfl)).symm
    have em2 : ((ys.zip cs).mergeSort fun x y => leR x.2 y.2).map (·.2) = cs.mergeSort leR := (List.map_mergeSort (r := fun x y : V × List Int => leR x.2 y.2) (s := leR) (f := fun b : V × List Int => b.2) (hl := fun x _ y _ => rfl)).trans (by rw [zip_snd hl])
    rw [em, List.map_map]
    refine h p _ hp ?_
    have e := zip_dp (K := K) (H := H) (bs := (ys.zip cs).mergeSort fun x y => leR x.2 y.2) fun b hb => hz b ((List.mergeSort_perm _ _).mem_iff.mp hb)
    rw [em2] at e
    exact DpAll.same (same_upd hp) _ _ e
end

/-! ### the law's own draws -/
/-- the law's row at r: the script, how many cells are taken, a mixed number, a cell's rest -/
def SqN (K : PySem.W.Frag) (H : Hp) (r sa : Addr) (xs : List V) : Prop := (Rd H sa (.lst xs) ∧ sa ≠ r) ∨
  ∃ (o : Obj) (its : Array Value) (n : Nat), K.lookup sa = some o ∧ o.cls = .type "list" ∧ o.dict = none ∧ o.data = .seq its n ∧ its.size ≤ sizeLine ∧ Vals xs its.toList
theorem SqN.sq {K : PySem.W.Frag} {H : Hp} {r sa : Addr} {xs : List V} (h : SqN K H r sa xs) : SqL K H sa xs := by
  rcases h with ⟨h, _⟩ | h
  · exact .inl h
  · exact .inr h
theorem sqn_ne {K : PySem.W.Frag} {H : Hp} {r sa : Addr} {o : HO} {xs : List V} (h : SqN K H r sa xs) : SqN K (upd H r o) r sa xs := by
  rcases h with ⟨h | ⟨u, h⟩, n⟩ | h
  · exact .inl ⟨.inl ((upd_ne n).trans h), n⟩
  · exact .inl ⟨.inr ⟨u, (upd_ne n).trans h⟩, n⟩
  · exact .inr h
def RowAt (K : PySem.W.Frag) (H : Hp) (r sa : Addr) (ns : List Int) : Prop := ∃ (p s e : Int),
  H r = some (.lst [.ref sa, .int p, .int s, .int e]) ∧ SqN K H r sa (ns.map V.int) ∧ 0 ≤ p ∧ 0 ≤ s ∧ s < 2147483647 ∧ 0 ≤ e
/-- nothing but the row has changed -/
def ButRow (r : Addr) (H H' : Hp) : Prop := ∀ b, b ≠ r → H' b = H b
theorem RowAt.of {K : PySem.W.Frag} {H : Hp} {r sa : Addr} {ns : List Int} {p s e : Int} {xs : List V} (hx : xs = [.ref sa, .int p, .int s, .int e]) (hS : SqN K H r sa (ns.map V.int))
    (h1 : 0 ≤ p) (h2 : 0 ≤ s) (h3 : s < 2147483647) (h4 : 0 ≤ e) : RowAt K (upd H r (.lst xs)) r sa ns := by
  subst hx
  exact ⟨p, s, e, upd_same, sqn_ne hS, h1, h2, h3, h4⟩
theorem ButRow.of {H : Hp} {r : Addr} {o : HO} : ButRow r H (upd H r o) := fun b n => upd_ne n
section
variable {P : Program} {w : World} {K : PySem.W.Frag} {mg : Str → Option Value} {base : Heap}
def sp_law_taken (K : PySem.W.Frag) : Sp := fun vs H Q _ => ∃ (r sa : Addr) (ns : List Int) (m : Int), vs = [.ref r, .int m] ∧ RowAt K H r sa ns ∧ 1 ≤ m ∧ m ≤ 1000000000 ∧
  ∀ (v : Int) H', 0 ≤ v → v < m → RowAt K H' r sa ns → ButRow r H H' → Q (.int v) H'
theorem ok_law_taken (T : Txt K mg) : FnOk P w K mg base CX0 1 T.law_taken.f T.law_taken.fd P_law_taken (sp_law_taken K) := by
  refine T.law_taken.F.ok sc_law_taken (fun vs H Q E h => ?_) (fun cdv A outer s H vs Q E hr h => ?_)
  · obtain ⟨r, sa, ns, m, rfl, _⟩ := h; rfl
  · obtain ⟨r, sa, ns, m, rfl, ⟨p, sd, e, hrow, hS, hp, hs, hs2, he⟩, hm, hm2, k⟩ := h
    refine ⟨_, (pss_cons (ps_if (pt_cmpR op_gt (pe_ix (r := rIxL K) ix_list (pv 0) pe_int (fun _ _ => rfl)) pe_int (nomark _)) (pss_cons (ps_set (i := 2) sc_law_taken.nd rfl (Or.inl rfl) (pe_op op_mod (pe_callTy call_int1 rfl T.n_int bo_int (pa_cons (pe_ix (r := rIxL K) ix_list (pv 0) pe_int (fun _ _ => rfl)) pa_nil)) (pv 1)))
  (pss_cons (ps_asg (pe_op op_fdivZ (pe_ix (r := rIxL K) ix_list (pv 0) pe_int (fun _ _ => rfl)) (pv 1)) (pg_sub (pv 0) pe_int set_list))
  (pss_one (ps_ret (pv 2))))) pss_nil)
  (pss_cons (ps_asg (pe_op op_add (pe_ix (r := rIxL K) ix_list (pv 0) pe_int (fun _ _ => rfl)) pe_int) (pg_sub (pv 0) pe_int set_list))
  (pss_cons (ps_if (pt_cmpR op_gt (pe_ix (r := rIxL K) ix_list (pv 0) pe_int (fun _ _ => rfl)) (pe_callB (r := rLenS K) call_len_seq rfl T.n_len bo_len (pa_cons (pe_ix (r := rIxL K) ix_list (pv 0) pe_int (fun _ _ => rfl)) pa_nil)) (nomark _)) (pss_cons (ps_asg (pe_op op_mod (pe_callTy call_int1 rfl T.n_int bo_int (pa_cons (pe_op op_add (pe_op op_mulW (pe_ix (r := rIxL K) ix_list (pv 0) pe_int (fun _ _ => rfl)) pe_int) pe_int) pa_nil)) pe_int) (pg_sub (pv 0) pe_int set_list))
  (pss_one (ps_ret (pe_op op_mod (pe_callTy call_int1 rfl T.n_int bo_int (pa_cons (pe_op op_fdivZ (pe_ix (r := rIxL K) ix_list (pv 0) pe_int (fun _ _ => rfl)) pe_int) pa_nil)) (pv 1))))) pss_nil)
  (pss_cons (ps_set (i := 3) sc_law_taken.nd rfl (Or.inl rfl) (pe_ix (r := rIxL K) ix_list (pe_ix (r := rIxL K) ix_list (pv 0) pe_int (fun _ _ => rfl)) (pe_op op_sub (pe_ix (r := rIxL K) ix_list (pv 0) pe_int (fun _ _ => rfl)) pe_int) (fun _ _ => rfl)))
  (pss_cons (ps_asg (pe_op op_mod (pe_callTy call_int1 rfl T.n_int bo_int (pa_cons (pe_op op_add (pe_op op_add (pe_op op_mulW (pe_ix (r := rIxL K) ix_list (pv 0) pe_int (fun _ _ => rfl)) pe_int) (pv 3)) pe_int) pa_nil)) pe_int) (pg_sub (pv 0) pe_int set_list))
  (pss_cons (ps_if (pt_cmpR op_ge (pv 3) (pe_op op_powW pe_int pe_int) (nomark _)) (pss_one (ps_asg (pe_op op_fdivZ (pv 3) (pv 1)) (pg_sub (pv 0) pe_int set_list))) pss_nil)
  (pss_one (ps_ret (pe_op op_mod (pe_callTy call_int1 rfl T.n_int bo_int (pa_cons (pv 3) pa_nil)) (pv 1)))))))))), ?_⟩
    walk_at "rd"
    refine iteD (fun h1 => ?_) (fun h1 => ?_)
    · walk_at "rd"
      refine k _ _ (Int.emod_nonneg _ (by omega)) (Int.emod_lt_of_pos _ (by omega)) (.of rfl hS hp hs hs2 ?_) .of
      rw [Int.fdiv_eq_ediv_of_nonneg _ (by omega)]
      exact Int.ediv_nonneg he (by omega)
    · walk_at "rd"
      refine ⟨_, _, rfl, .inl (sqn_ne hS).sq, ?_⟩
      walk_at "rd"
      refine iteD (fun h2 => ?_) (fun h2 => ?_)
      · walk_at "rd"
        refine k _ _ (Int.emod_nonneg _ (by omega)) (Int.emod_lt_of_pos _ (by omega)) (.of rfl (sqn_ne hS) (show 0 ≤ p + 1 by omega) (Int.emod_nonneg _ (by omega)) (Int.emod_lt_of_pos _ (by omega)) he) fun b n => ?_
        rw [upd_ne n, upd_ne n]
      · rw [List.length_map] at h2
        obtain ⟨c, hc⟩ : ∃ c, ns[p.toNat]? = some c := ⟨_, List.getElem?_eq_getElem (by omega)⟩
        have hat : atI (ns.map V.int) (p + 1 - 1) = some (V.int c) := by
          rw [show p + 1 - 1 = (p.toNat : Int) by omega]
          refine atI_nat ?_
          rw [List.getElem?_map, hc]; rfl
        walk_at "rd"
        refine ⟨_, _, _, _, rfl, rfl, (sqn_ne hS).sq, hat, ?_⟩
        walk_at "rd"
        refine iteD (fun h3 => ?_) (fun h3 => ?_)
        · walk_at "rd"
          have h3' : (0 : Int) ≤ c := by
            have : ((10 : Int) ^ (18 : Int).toNat) = 1000000000000000000 := by decide
            omega
          refine k _ _ (Int.emod_nonneg _ (by omega)) (Int.emod_lt_of_pos _ (by omega)) (.of rfl (sqn_ne (sqn_ne hS)) (show 0 ≤ p + 1 by omega) (Int.emod_nonneg _ (by omega)) (Int.emod_lt_of_pos _ (by omega)) ?_) fun b n => ?_
          · rw [Int.fdiv_eq_ediv_of_nonneg _ (by omega)]
            exact Int.ediv_nonneg h3' (by omega)
          · rw [upd_ne n, upd_ne n, upd_ne n]
        · walk_at "rd"
          refine k _ _ (Int.emod_nonneg _ (by omega)) (Int.emod_lt_of_pos _ (by omega)) (.of rfl (sqn_ne hS) (show 0 ≤ p + 1 by omega) (Int.emod_nonneg _ (by omega)) (Int.emod_lt_of_pos _ (by omega)) he) fun b n => ?_
          rw [upd_ne n, upd_ne n]
/-- things is a list at p: the draw gives one of its items -/
def sp_law_pick (K : PySem.W.Frag) : Sp := fun vs H Q _ => ∃ (r sa l : Addr) (ns : List Int) (xs : List V), vs = [.ref r, .ref l] ∧ RowAt K H r sa ns ∧ SqL K H l xs ∧ l ≠ r ∧ 1 ≤ xs.length ∧ xs.length ≤ 1000000000 ∧
  ∀ (v : V) H', v ∈ xs → RowAt K H' r sa ns → ButRow r H H' → Q v H'
theorem sql_but {K : PySem.W.Frag} {H H' : Hp} {r a : Addr} {xs : List V} (h : SqL K H a xs) (n : a ≠ r) (b : ButRow r H H') : SqL K H' a xs := by
  rcases h with (h | ⟨u, h⟩) | h
  · exact .inl (.inl ((b a n).trans h))
  · exact .inl (.inr ⟨u, (b a n).trans h⟩)
  · exact .inr h
theorem ok_law_pick (T : Txt K mg) : FnOk P w K mg base CX0 2 T.law_pick.f T.law_pick.fd P_law_pick (sp_law_pick K) := by
  refine T.law_pick.F.ok sc_law_pick (fun vs H Q E h => ?_) (fun cdv A outer s H vs Q E hr h => ?_)
  · obtain ⟨r, sa, l, ns, xs, rfl, _⟩ := h; rfl
  · obtain ⟨r, sa, l, ns, xs, rfl, hrow, hl, hne, h1, h2, k⟩ := h
    refine ⟨_, (pss_one (ps_ret (pe_ix (r := rIxL K) ix_list (pv 1) (pe_call (ok_law_taken T) (hr.mono (by decide)) rfl T.law_taken.g T.law_taken.F.kp (b_law_taken T) .nil pass0 (pa_cons (pv 0) (pa_cons (pe_callB (r := rLenS K) call_len_seq rfl T.n_len bo_len (pa_cons (pv 1) pa_nil)) pa_nil))) (fun _ _ => rfl)))), ?_⟩
    walk_at "rd"
    refine ⟨_, _, rfl, .inl hl, ?_⟩
    walk_at "rd"
    refine ⟨r, sa, ns, _, rfl, hrow, by omega, by omega, fun v H' v0 v1 hrow' hb => ?_⟩
    have hlt : v.toNat < xs.length := by omega
    refine ⟨_, _, _, xs[v.toNat], rfl, rfl, sql_but hl hne hb, ?_, ?_⟩
    · exact at_of (show v = (v.toNat : Int) by omega) (List.getElem?_eq_getElem hlt)
    · exact k _ _ (List.getElem_mem hlt) hrow' hb
end

section
variable {P : Program} {w : World} {K : PySem.W.Frag} {mg : Str → Option Value} {base : Heap}
/-- all but the row stays, and the row is a row -/
structure RK (K : PySem.W.Frag) (r sa : Addr) (ns : List Int) (H H' : Hp) : Prop where
  keep : KeepBut r H H'
  row : RowAt K H' r sa ns
theorem row_lst {H : Hp} {r sa : Addr} {ns : List Int} (h : RowAt K H r sa ns) : ∃ xs, H r = some (.lst xs) := by
  obtain ⟨p, s, e, h, _⟩ := h
  exact ⟨_, h⟩
theorem RowAt.sm {H H' : Hp} {r sa : Addr} {ns : List Int} (h : RowAt K H r sa ns) (s : Same H H') : RowAt K H' r sa ns := by
  obtain ⟨p, sd, e, hrow, hS, hb⟩ := h
  refine ⟨p, sd, e, s _ _ hrow, ?_, hb⟩
  rcases hS with ⟨q | ⟨u, q⟩, n⟩ | q
  · exact .inl ⟨.inl (s _ _ q), n⟩
  · exact .inl ⟨.inr ⟨u, s _ _ q⟩, n⟩
  · exact .inr q
theorem RK.of {H H' : Hp} {r sa : Addr} {ns : List Int} (h : RowAt K H r sa ns) (s : Same H H') : RK K r sa ns H H' := ⟨.of s, h.sm s⟩
theorem RK.draw {H H' : Hp} {r sa : Addr} {ns : List Int} (h : RowAt K H' r sa ns) (b : ButRow r H H') : RK K r sa ns H H' := ⟨fun c o n e => (b c n).trans e, h⟩
theorem RK.trans {H H1 H2 : Hp} {r sa : Addr} {ns : List Int} (a : RK K r sa ns H H1) (b : RK K r sa ns H1 H2) : RK K r sa ns H H2 := ⟨a.keep.trans b.keep, b.row⟩
theorem RK.tp {H H' : Hp} {r sa : Addr} {ns : List Int} (h : RowAt K H r sa ns) (a : RK K r sa ns H H') : Tp H H' := fun b xs q => by
  obtain ⟨ys, hr⟩ := row_lst h
  have n : b ≠ r := fun e => by
    subst e
    rcases q with q | ⟨o, q⟩
    · rw [hr] at q; cases q
    · rw [hr] at q; cases q
  rcases q with q | ⟨o, q⟩
  · exact .inl (a.keep _ _ n q)
  · exact .inr ⟨o, a.keep _ _ n q⟩
/-- i items are made at D while the row is drawn from -/
def MapRow (K : PySem.W.Frag) (r sa : Addr) (ns : List Int) (H1 : Hp) (D : Addr) (R : Nat → V → Prop) (i : Nat) (H : Hp) : Prop := ∃ ys, RK K r sa ns H1 H ∧ H D = some (.lst ys) ∧ ys.length = i ∧ ∀ (j : Nat) (y : V), ys[j]? = some y → R j y
theorem mapRow_0 {r sa : Addr} {ns : List Int} {H1 : Hp} {D : Addr} {R : Nat → V → Prop} (hr : RowAt K H1 r sa ns) (hD : H1 D = Option.none) : MapRow K r sa ns H1 D R 0 (upd H1 D (.lst [])) := ⟨[], .of hr (same_upd hD), upd_same, rfl, fun j y h => by simp at h⟩
theorem mapRow_step {r sa : Addr} {ns : List Int} {H1 H H4 : Hp} {D : Addr} {R : Nat → V → Prop} {i : Nat} {y : V} (h : MapRow K r sa ns H1 D R i H) (hr : RowAt K H1 r sa ns) (hD : H1 D = Option.none) (hz : i < sizeLine) (s : RK K r sa ns H H4) (q : R i y) :
    ∃ acc, H4 D = some (.lst acc) ∧ acc.length < sizeLine ∧ MapRow K r sa ns H1 D R (i + 1) (upd H4 D (.lst (acc ++ [y]))) := by
  obtain ⟨ys, h1, h2, h3, h4⟩ := h
  obtain ⟨zs, hrz⟩ := row_lst hr
  have nD : D ≠ r := fun e => by rw [e, hrz] at hD; cases hD
  have e4 := s.keep _ _ nD h2
  refine ⟨ys, e4, by rw [h3]; exact hz, ys ++ [y], ⟨fun b o nb e => ?_, ?_⟩, upd_same, by simp [h3], fun j z hz => ?_⟩
  · rw [upd_ne (ne_of_none e hD)]
    exact s.keep _ _ nb (h1.keep _ _ nb e)
  · obtain ⟨p, sd, e, hrow, hS, hb⟩ := s.row
    refine ⟨p, sd, e, (upd_ne (fun z => nD z.symm)).trans hrow, ?_, hb⟩
    obtain ⟨_, _, _, _, hS1, _⟩ := hr
    have ns' : (∃ o, H1 sa = some o) → sa ≠ D := fun ⟨o, z⟩ => ne_of_none z hD
    rcases hS with ⟨q | ⟨u, q⟩, n⟩ | q
    · rcases hS1 with ⟨w | ⟨u, w⟩, _⟩ | ⟨o, its, m, w, _⟩
      · exact .inl ⟨.inl ((upd_ne (ns' ⟨_, w⟩)).trans q), n⟩
      · exact .inl ⟨.inl ((upd_ne (ns' ⟨_, w⟩)).trans q), n⟩
      · exact .inr ⟨o, its, m, w, by assumption⟩
    · rcases hS1 with ⟨w | ⟨u', w⟩, _⟩ | ⟨o, its, m, w, _⟩
      · exact .inl ⟨.inr ⟨u, (upd_ne (ns' ⟨_, w⟩)).trans q⟩, n⟩
      · exact .inl ⟨.inr ⟨u, (upd_ne (ns' ⟨_, w⟩)).trans q⟩, n⟩
      · exact .inr ⟨o, its, m, w, by assumption⟩
    · exact .inr q
  · by_cases hj : j < ys.length
    · rw [List.getElem?_append_left hj] at hz
      exact h4 j z hz
    · rw [List.getElem?_append_right (by omega)] at hz
      have ej : j - ys.length = 0 := by
        by_cases q : j - ys.length = 0
        · exact q
        · rw [List.getElem?_eq_none (by simp; omega)] at hz; cases hz
      rw [ej] at hz
      simp at hz
      subst hz
      have : j = i := by omega
      subst this
      exact q
end

section
variable {P : Program} {w : World} {K : PySem.W.Frag} {mg : Str → Option Value} {base : Heap}
/-- all but the row and the tables stays; the row is a row, the tables are in order -/
structure LK (t : TabsAt) (K : PySem.W.Frag) (r sa : Addr) (ns : List Int) (H H' : Hp) : Prop where
  keep : ∀ b o, b ≠ r → H b = some o → (∀ ps, o ≠ .tbl ps) → H' b = some o
  row : RowAt K H' r sa ns
  ts : TS t H'
theorem LK.trans {t : TabsAt} {r sa : Addr} {ns : List Int} {H H1 H2 : Hp} (a : LK t K r sa ns H H1) (b : LK t K r sa ns H1 H2) : LK t K r sa ns H H2 := ⟨fun c o n e q => b.keep c o n (a.keep c o n e q) q, b.row, b.ts⟩
theorem tabG_but {r p : Addr} {H H' : Hp} {xs : List V} (h : GxR.TabG H p) (hr : H r = some (.lst xs)) (k : KeepBut r H H') : GxR.TabG H' p := by
  obtain ⟨ps, p1, p2⟩ := h
  exact ⟨ps, k _ _ (fun z => by rw [z, hr] at p1; cases p1) p1, p2⟩
theorem TS.rk {t : TabsAt} {r : Addr} {H H' : Hp} {xs : List V} (h : TS t H) (hr : H r = some (.lst xs)) (k : KeepBut r H H') : TS t H' := by
  refine ⟨fun x hx => tabG_but (h.g x hx) hr k, fun x hx z hz => ?_⟩
  obtain ⟨ps, a1, a2, a3⟩ := h.l x hx z hz
  refine ⟨ps, k _ _ (fun e => by rw [e, hr] at a1; cases a1) a1, a2, fun pos cv hcv => ?_⟩
  obtain ⟨cz, q1, q2⟩ := a3 pos cv hcv
  refine ⟨cz, q1, k _ _ (fun e => ?_) q2⟩
  rw [e, hr] at q2
  unfold LamX.CodeO at q2
  cases q2
theorem LK.rk {t : TabsAt} {r sa : Addr} {ns : List Int} {H H' : Hp} (h : RowAt K H r sa ns) (ht : TS t H) (k : RK K r sa ns H H') : LK t K r sa ns H H' := by
  obtain ⟨xs, hr⟩ := row_lst h
  exact ⟨fun b o n e _ => k.keep b o n e, k.row, ht.rk hr k.keep⟩
theorem RowAt.ext {r sa : Addr} {ns : List Int} {H H' : Hp} (h : RowAt K H r sa ns) (s : LamX.ExtN H H') : RowAt K H' r sa ns := by
  obtain ⟨p, sd, e, hrow, hS, hb⟩ := h
  refine ⟨p, sd, e, s _ _ hrow (fun ps z => by cases z), ?_, hb⟩
  rcases hS with ⟨q | ⟨u, q⟩, n⟩ | q
  · exact .inl ⟨.inl (s _ _ q (fun ps z => by cases z)), n⟩
  · exact .inl ⟨.inr ⟨u, s _ _ q (fun ps z => by cases z)⟩, n⟩
  · exact .inr q
theorem LK.ex {t : TabsAt} {r sa : Addr} {ns : List Int} {H H' : Hp} (h : RowAt K H r sa ns) (x : Ex t H H') : LK t K r sa ns H H' := ⟨fun b o _ e n => x.keep b o e n, h.ext x.keep, x.ts⟩
theorem LK.same {t : TabsAt} {r sa : Addr} {ns : List Int} {H H' : Hp} (h : RowAt K H r sa ns) (ht : TS t H) (s : Same H H') : LK t K r sa ns H H' := ⟨fun b o _ e _ => s b o e, h.sm s, ht.same s⟩
theorem LK.tp {t : TabsAt} {r sa : Addr} {ns : List Int} {H H' : Hp} (h : RowAt K H r sa ns) (a : LK t K r sa ns H H') : Tp H H' := fun b xs q => by
  obtain ⟨ys, hr⟩ := row_lst h
  have n : b ≠ r := fun e => by
    subst e
    rcases q with q | ⟨o, q⟩
    · rw [hr] at q; cases q
    · rw [hr] at q; cases q
  rcases q with q | ⟨o, q⟩
  · exact .inl (a.keep _ _ n q fun ps z => by cases z)
  · exact .inr ⟨o, a.keep _ _ n q fun ps z => by cases z⟩
end

abbrev rIxA (K : PySem.W.Frag) : V → V → Hp → VK → Prop := fun x y H Q => rIxL K x y H Q ∨ rIxT K x y H Q
theorem fn_never {P : Program} {w : World} {K : PySem.W.Frag} {mg : Str → Option Value} {base : Heap} {CX : CXT} {k : Nat} {f : Addr} {fd : FuncData} {ps : List Str} : FnOk P w K mg base CX k f fd ps (fun _ _ _ _ => False) :=
  ⟨fun _ _ _ _ h => h.elim, fun _ _ _ _ _ _ _ _ _ _ _ _ _ h => h.elim⟩
/-- equal values, up to a depth -/
inductive Al (K : PySem.W.Frag) : Nat → Hp → V → V → Prop
  | int (j : Nat) (H : Hp) (i : Int) : Al K j H (.int i) (.int i)
  | non (j : Nat) (H : Hp) : Al K j H .non .non
  | bl (j : Nat) (H : Hp) (b : Bool) : Al K j H (.bl b) (.bl b)
  | tup {j : Nat} {H : Hp} {a b : Addr} {xs ys : List V} (ha : SqT K H a xs) (hb : SqT K H b ys) (hl : xs.length = ys.length) (hz : xs.length ≤ 100000) (h : ∀ (i : Nat) (x y : V), xs[i]? = some x → ys[i]? = some y → ∀ H', Same H H' → Al K j H' x y) : Al K (j + 1) H (.ref a) (.ref b)
  | lst {j : Nat} {H : Hp} {a b : Addr} {xs ys : List V} (ha : H a = some (.lst xs)) (hb : H b = some (.lst ys)) (hl : xs.length = ys.length) (hz : xs.length ≤ 100000) (h : ∀ (i : Nat) (x y : V), xs[i]? = some x → ys[i]? = some y → ∀ H', Same H H' → Al K j H' x y) : Al K (j + 1) H (.ref a) (.ref b)
def spA (K : PySem.W.Frag) (j : Nat) : Sp := fun vs H Q _ => ∃ x y, vs = [x, y] ∧ Al K j H x y ∧ ∀ H', Same H H' → Q (.bl true) H'
def spG (K : PySem.W.Frag) : Nat → Sp
  | 0 => fun _ _ _ _ => False
  | j + 1 => spA K j
section
variable {K : PySem.W.Frag}
theorem kit_none_tuple : PySem.W.kitOne K (.type "NoneType") (.type "tuple") = some false := kit_ty (by decide +kernel)
theorem kit_none_list : PySem.W.kitOne K (.type "NoneType") (.type "list") = some false := kit_ty (by decide +kernel)
theorem kit_none_str : PySem.W.kitOne K (.type "NoneType") (.type "str") = some false := kit_ty (by decide +kernel)
theorem kit_list_list : PySem.W.kitOne K (.type "list") (.type "list") = some true := kit_ty (by decide +kernel)
theorem kit_list_tuple : PySem.W.kitOne K (.type "list") (.type "tuple") = some false := kit_ty (by decide +kernel)
theorem kitA_none : PySem.W.kitAny K (.type "NoneType") [.type "tuple", .type "list"] = some false :=
  kitAny_cons kit_none_tuple (fun _ => kitAny_cons kit_none_list (fun _ => kitAny_nil) (fun z => nomatch z)) (fun z => nomatch z)
theorem kitA_bool : PySem.W.kitAny K (.type "bool") [.type "tuple", .type "list"] = some false :=
  kitAny_cons kit_bool_tuple (fun _ => kitAny_cons kit_bool_list (fun _ => kitAny_nil) (fun z => nomatch z)) (fun z => nomatch z)
theorem kitA_list : PySem.W.kitAny K (.type "list") [.type "tuple", .type "list"] = some true :=
  kitAny_cons kit_list_tuple (fun _ => kitAny_cons kit_list_list (fun z => nomatch z) (fun _ => rfl)) (fun z => nomatch z)
end
section
variable {P : Program} {w : World} {K : PySem.W.Frag} {mg : Str → Option Value} {base : Heap}
theorem alike_body (T : Txt K mg) (j : Nat) (G0 : FnOk P w K mg base CX0 j T.law_alike.f T.law_alike.fd P_law_alike (spG K j)) : FnOk P w K mg base CX0 (j + 1) T.law_alike.f T.law_alike.fd P_law_alike (spA K j) := by
  refine T.law_alike.F.ok sc_law_alike (fun vs H Q E h => ?_) (fun cdv A outer s H vs Q E hr h => ?_)
  · obtain ⟨x, y, rfl, _⟩ := h; rfl
  · obtain ⟨x, y, rfl, hA, k⟩ := h
    refine ⟨_, (pss_cons (ps_if (pt_val (pe_callB (r := rIsiT K) call_isiT rfl T.n_isinstance bo_isinstance (pa_cons (pv 1) (pa_cons (pe_tup (pa_cons (pe_bltn (v := .ty "tuple") rfl T.n_tuple bo_tuple rfl) (pa_cons (pe_bltn (v := .ty "list") rfl T.n_list bo_list rfl) pa_nil))) pa_nil)))) (pss_cons (ps_if (PW.pt (pw_or (pt_not (pt_val (pe_callB (r := rIsiT K) call_isiT rfl T.n_isinstance bo_isinstance (pa_cons (pv 0) (pa_cons (pe_tup (pa_cons (pe_bltn (v := .ty "tuple") rfl T.n_tuple bo_tuple rfl) (pa_cons (pe_bltn (v := .ty "list") rfl T.n_list bo_list rfl) pa_nil))) pa_nil))))) (pw_or1 (pt_cmpR op_ne (pe_callB (r := rIsi K) call_isi rfl T.n_isinstance bo_isinstance (pa_cons (pv 0) (pa_cons (pe_bltn (v := .ty "list") rfl T.n_list bo_list rfl) pa_nil))) (pe_callB (r := rIsi K) call_isi rfl T.n_isinstance bo_isinstance (pa_cons (pv 1) (pa_cons (pe_bltn (v := .ty "list") rfl T.n_list bo_list rfl) pa_nil))) (nomark _))))) (pss_one (ps_ret pe_bl)) pss_nil)
  (pss_cons (ps_if (pt_cmpR op_ne (pe_callB (r := rLenS K) call_len_seq rfl T.n_len bo_len (pa_cons (pv 0) pa_nil)) (pe_callB (r := rLenS K) call_len_seq rfl T.n_len bo_len (pa_cons (pv 1) pa_nil)) (nomark _)) (pss_one (ps_ret pe_bl)) pss_nil)
  (pss_one (ps_ret (pe_cmpR (r := rEqD K) (op_eqD hr.units) (pe_lc (own := [("k", 2)]) rfl sc_law_alike.nd (pi_range1 rfl T.n_range (pa_cons (pe_callB (r := rLenS K) call_len_seq rfl T.n_len bo_len (pa_cons (pv 1) pa_nil)) pa_nil)) (blkOk_by (own := [("k", 2)]) (N := N_law_alike) (sc := defScope s_law_alike) (by decide +kernel)) (fun _ _ _ _ _ => (pg_name (i := 2) sc_law_alike.nd rfl (Or.inl rfl))) (fun _ _ _ _ _ => pts_one (pt_not (pt_val (pe_call G0 hr rfl T.law_alike.g T.law_alike.F.kp (b_law_alike T) .nil pass0 (pa_cons (pe_ix (r := rIxA K) ix_any (pv 0) (pv 2) (fun _ _ => rfl)) (pa_cons (pe_ix (r := rIxA K) ix_any (pv 1) (pv 2) (fun _ _ => rfl)) pa_nil)))))) (fun _ _ _ _ _ => (pv 2))) (pe_lst pa_nil) (nomark _)))))) pss_nil)
  (pss_cons (ps_if (PW.pt (pw_or (pt_cmpR op_isN (pv 1) pe_non (nomark _)) (pw_or1 (pt_val (pe_callB (r := rIsi K) call_isi rfl T.n_isinstance bo_isinstance (pa_cons (pv 1) (pa_cons (pe_bltn (v := .ty "str") rfl T.n_str bo_str rfl) pa_nil))))))) (pss_one (ps_ret (pe_and (pe_cmpR (op_eqD hr.units) (pv 0) (pv 1) (nomark _)) (pe_one (pe_cmpR op_eq (pe_callB (r := rIsi K) call_isi rfl T.n_isinstance bo_isinstance (pa_cons (pv 0) (pa_cons (pe_bltn (v := .ty "str") rfl T.n_str bo_str rfl) pa_nil))) (pe_callB (r := rIsi K) call_isi rfl T.n_isinstance bo_isinstance (pa_cons (pv 1) (pa_cons (pe_bltn (v := .ty "str") rfl T.n_str bo_str rfl) pa_nil))) (nomark _)))))) pss_nil)
  (pss_one (ps_ret (pe_and (pe_callB (r := rIsi K) call_isi rfl T.n_isinstance bo_isinstance (pa_cons (pv 0) (pa_cons (pe_bltn (v := .ty "int") rfl T.n_int bo_int rfl) pa_nil))) (pe_and (pe_cmpR op_eq (pe_callB (r := rIsi K) call_isi rfl T.n_isinstance bo_isinstance (pa_cons (pv 0) (pa_cons (pe_bltn (v := .ty "bool") rfl T.n_bool bo_bool rfl) pa_nil))) (pe_callB (r := rIsi K) call_isi rfl T.n_isinstance bo_isinstance (pa_cons (pv 1) (pa_cons (pe_bltn (v := .ty "bool") rfl T.n_bool bo_bool rfl) pa_nil))) (nomark _)) (pe_one (pe_cmpR (op_eqD hr.units) (pv 0) (pv 1) (nomark _))))))))), ?_⟩
    cases hA with
    | int _ _ i =>
      walk_at "rd"
      refine ⟨two_line, fun p hp => ?_⟩
      refine ⟨_, _, _, _, _, _, rfl, upd_same, .cons (.ty _) (.cons (.ty _) .nil), .base (.int _), kitA_int, ?_⟩
      walk_at "rd"
      refine ⟨_, _, .int _, .int _, by rfl, by rfl, ?_⟩
      have e : PyData.eqv (.int i) (.int i) = true := by show (i == i) = true; simp
      show Q _ _
      rw [e]
      exact k _ (same_upd hp)
    | non _ _ =>
      walk_at "rd"
      refine ⟨two_line, fun p hp => ?_⟩
      refine ⟨_, _, _, _, _, _, rfl, upd_same, .cons (.ty _) (.cons (.ty _) .nil), .base .non, kitA_none, ?_⟩
      walk_at "rd"
      refine ⟨_, _, .non, .non, by rfl, by rfl, ?_⟩
      walk_at "rd"
      refine ⟨_, _, _, _, _, rfl, .ty _, .base .non, kit_none_str, ?_⟩
      walk_at "rd"
      refine ⟨_, _, _, _, _, rfl, .ty _, .base .non, kit_none_str, ?_⟩
      walk_at "rd"
      exact k _ (same_upd hp)
    | bl _ _ b =>
      walk_at "rd"
      refine ⟨two_line, fun p hp => ?_⟩
      refine ⟨_, _, _, _, _, _, rfl, upd_same, .cons (.ty _) (.cons (.ty _) .nil), .base (.bl _), kitA_bool, ?_⟩
      walk_at "rd"
      refine ⟨_, _, _, _, _, rfl, .ty _, .base (.bl _), kit_bool_str, ?_⟩
      walk_at "rd"
      refine ⟨_, _, _, _, _, rfl, .ty _, .base (.bl _), kit_bool_int, ?_⟩
      walk_at "rd"
      refine ⟨_, _, _, _, _, rfl, .ty _, .base (.bl _), kit_bool_bool, ?_⟩
      walk_at "rd"
      refine ⟨_, _, _, _, _, rfl, .ty _, .base (.bl _), kit_bool_bool, ?_⟩
      walk_at "rd"
      refine ⟨_, _, .bl b, .bl b, by rfl, by rfl, ?_⟩
      have e : PyData.eqv (.bool b) (.bool b) = true := by show (b == b) = true; simp
      show Q _ _
      rw [e]
      exact k _ (same_upd hp)
    | @tup j' _ a b xs ys ha hb hl hz h =>
      walk_at "rd"
      refine ⟨two_line, fun p hp => ?_⟩
      have s1 := same_upd (o := .tup [V.ty "tuple", V.ty "list"]) hp
      refine ⟨_, _, _, _, _, _, rfl, upd_same, .cons (.ty _) (.cons (.ty _) .nil), ty_tup (Toy.Same.tup s1 hb), kitA_tuple, ?_⟩
      walk_at "rd"
      refine ⟨two_line, fun q hq => ?_⟩
      have s2 := Same.trans s1 (same_upd (o := .tup [V.ty "tuple", V.ty "list"]) hq)
      refine ⟨_, _, _, _, _, _, rfl, upd_same, .cons (.ty _) (.cons (.ty _) .nil), ty_tup (Toy.Same.tup s2 ha), kitA_tuple, ?_⟩
      obtain ⟨H2, eH2⟩ : ∃ H2, H2 = upd (upd H p (.tup [V.ty "tuple", V.ty "list"])) q (.tup [V.ty "tuple", V.ty "list"]) := ⟨_, rfl⟩
      rw [← eH2] at s2 ⊢
      clear eH2
      have ha2 := Toy.Same.tup s2 ha
      have hb2 := Toy.Same.tup s2 hb
      walk_at "rd"
      refine ⟨_, _, _, _, _, rfl, .ty _, ty_tup ha2, kit_tuple_list, ?_⟩
      walk_at "rd"
      refine ⟨_, _, _, _, _, rfl, .ty _, ty_tup hb2, kit_tuple_list, ?_⟩
      walk_at "rd"
      refine ⟨_, _, rfl, .inr ha2, ?_⟩
      walk_at "rd"
      refine ⟨_, _, rfl, .inr hb2, ?_⟩
      walk_at "rd"
      rw [hl]
      refine iteVn (fun z => absurd rfl z) (fun _ => ?_)
      walk_at "rd"
      refine ⟨_, _, rfl, .inr hb2, ?_⟩
      walk_at "rd"
      refine ⟨(by omega), (by omega), fun D hD => ?_⟩
      rw [Int.toNat_natCast]
      refine lc_range (lo := 0) (n := ys.length) (fun i H3 => Same H2 H3 ∧ H3 D = some (.lst [])) ⟨same_upd hD, upd_same⟩ (fun i H3 hi q => ?_) (fun H3 q => ?_)
      · obtain ⟨s3, e3⟩ := q
        have hx : xs[i]? = some xs[i] := List.getElem?_eq_getElem (by omega)
        have hy : ys[i]? = some ys[i] := List.getElem?_eq_getElem hi
        have g1 : atI xs (0 + (i : Int)) = some xs[i] := at_of (show (0 : Int) + (i : Int) = ((i : Nat) : Int) by omega) hx
        have g2 : atI ys (0 + (i : Int)) = some ys[i] := at_of (show (0 : Int) + (i : Int) = ((i : Nat) : Int) by omega) hy
        walk_at "rd"
        refine .inr ⟨_, _, _, _, rfl, rfl, (Toy.Same.tup s3 ha2), g1, ?_⟩
        walk_at "rd"
        refine .inr ⟨_, _, _, _, rfl, rfl, (Toy.Same.tup s3 hb2), g2, ?_⟩
        refine ⟨_, _, rfl, h i _ _ hx hy H3 (Same.trans s2 s3), fun H4 s4 => ?_⟩
        walk_at "rd"
        exact ⟨Same.trans s3 s4, s4 _ _ e3⟩
      · obtain ⟨s3, e3⟩ := q
        walk_at "rd"
        refine ⟨by decide, fun q hq => ?_⟩
        refine ⟨_, _, .lst (.inl (.inl ((upd_ne (ne_of_none e3 hq)).trans e3))) .nil, .lst (.inl (.inl upd_same)) .nil, by decide, by decide, ?_⟩
        exact k _ (Same.trans s2 (Same.trans s3 (same_upd hq)))
    | @lst j' _ a b xs ys ha hb hl hz h =>
      walk_at "rd"
      refine ⟨two_line, fun p hp => ?_⟩
      have s1 := same_upd (o := .tup [V.ty "tuple", V.ty "list"]) hp
      refine ⟨_, _, _, _, _, _, rfl, upd_same, .cons (.ty _) (.cons (.ty _) .nil), .base (.lst (s1 _ _ hb)), kitA_list, ?_⟩
      walk_at "rd"
      refine ⟨two_line, fun q hq => ?_⟩
      have s2 := Same.trans s1 (same_upd (o := .tup [V.ty "tuple", V.ty "list"]) hq)
      refine ⟨_, _, _, _, _, _, rfl, upd_same, .cons (.ty _) (.cons (.ty _) .nil), .base (.lst (s2 _ _ ha)), kitA_list, ?_⟩
      obtain ⟨H2, eH2⟩ : ∃ H2, H2 = upd (upd H p (.tup [V.ty "tuple", V.ty "list"])) q (.tup [V.ty "tuple", V.ty "list"]) := ⟨_, rfl⟩
      rw [← eH2] at s2 ⊢
      clear eH2
      have ha2 := s2 _ _ ha
      have hb2 := s2 _ _ hb
      walk_at "rd"
      refine ⟨_, _, _, _, _, rfl, .ty _, .base (.lst ha2), kit_list_list, ?_⟩
      walk_at "rd"
      refine ⟨_, _, _, _, _, rfl, .ty _, .base (.lst hb2), kit_list_list, ?_⟩
      walk_at "rd"
      rw [hl]
      refine iteVn (fun z => absurd rfl z) (fun _ => ?_)
      walk_at "rd"
      refine ⟨(by omega), (by omega), fun D hD => ?_⟩
      rw [Int.toNat_natCast]
      refine lc_range (lo := 0) (n := ys.length) (fun i H3 => Same H2 H3 ∧ H3 D = some (.lst [])) ⟨same_upd hD, upd_same⟩ (fun i H3 hi q => ?_) (fun H3 q => ?_)
      · obtain ⟨s3, e3⟩ := q
        have hx : xs[i]? = some xs[i] := List.getElem?_eq_getElem (by omega)
        have hy : ys[i]? = some ys[i] := List.getElem?_eq_getElem hi
        have g1 : atI xs (0 + (i : Int)) = some xs[i] := at_of (show (0 : Int) + (i : Int) = ((i : Nat) : Int) by omega) hx
        have g2 : atI ys (0 + (i : Int)) = some ys[i] := at_of (show (0 : Int) + (i : Int) = ((i : Nat) : Int) by omega) hy
        walk_at "rd"
        refine .inl ⟨_, _, _, _, rfl, rfl, .inl (.inl (s3 _ _ ha2)), g1, ?_⟩
        walk_at "rd"
        refine .inl ⟨_, _, _, _, rfl, rfl, .inl (.inl (s3 _ _ hb2)), g2, ?_⟩
        refine ⟨_, _, rfl, h i _ _ hx hy H3 (Same.trans s2 s3), fun H4 s4 => ?_⟩
        walk_at "rd"
        exact ⟨Same.trans s3 s4, s4 _ _ e3⟩
      · obtain ⟨s3, e3⟩ := q
        walk_at "rd"
        refine ⟨by decide, fun q hq => ?_⟩
        refine ⟨_, _, .lst (.inl (.inl ((upd_ne (ne_of_none e3 hq)).trans e3))) .nil, .lst (.inl (.inl upd_same)) .nil, by decide, by decide, ?_⟩
        exact k _ (Same.trans s2 (Same.trans s3 (same_upd hq)))
theorem ok_alike_at (T : Txt K mg) : ∀ j : Nat, FnOk P w K mg base CX0 (j + 1) T.law_alike.f T.law_alike.fd P_law_alike (spA K j)
  | 0 => alike_body T 0 fn_never
  | j + 1 => alike_body T (j + 1) (ok_alike_at T j)
theorem ok_law_alike (T : Txt K mg) : FnOk P w K mg base CX0 3 T.law_alike.f T.law_alike.fd P_law_alike (spA K 2) := ok_alike_at T 2
end

/-! ### emptiness of lists; the law's small defs -/
theorem can_ints : ∀ l : List Int, PyData.canLayAll0 (l.map .int) = true
  | [] => rfl
  | x :: l => by
    show (PyData.canLay0 (.int x) && PyData.canLayAll0 (l.map .int)) = true
    rw [can_ints l]; rfl
theorem can_rows : ∀ l : List (List Int), PyData.canLayAll0 (l.map rD) = true
  | [] => rfl
  | x :: l => by
    show (PyData.canLayAll0 (x.map .int) && PyData.canLayAll0 (l.map rD)) = true
    rw [can_rows l, can_ints x]; rfl
theorem depth_rows : ∀ l : List (List Int), PyData.depthAll (l.map rD) ≤ 1
  | [] => by simp [PyData.depthAll]
  | x :: l => by
    have h1 := depth_rows l
    have h2 := depth_rD x
    show PyData.depthAll (rD x :: l.map rD) ≤ 1
    rw [PyData.depthAll]
    omega
theorem sh_rows (l : List (List Int)) : SeqAt.shaped (.list (l.map rD)) = true := by
  unfold SeqAt.shaped
  have h := depth_rows l
  rw [show PyData.canLay0 (.list (l.map rD)) = true from can_rows l, Bool.true_and, decide_eq_true_eq]
  simp only [PyData.depth]
  omega
theorem sh_li (l : List Int) : SeqAt.shaped (.list (l.map .int)) = true := by
  unfold SeqAt.shaped
  rw [show PyData.canLay0 (.list (l.map .int)) = true from can_ints l, Bool.true_and, decide_eq_true_eq]
  simp only [PyData.depth, PySem.W.depth_ints]
  omega
theorem eqv_nil (ds : List PyData) : PyData.eqv (.list ds) (.list []) = ds.isEmpty := by
  cases ds <;> simp [PyData.eqv, PyData.eqvAll]
section
variable {K : PySem.W.Frag} {H : Hp} {a b : Addr} {xs : List V} {ds : List PyData} {Q : VK}
theorem eqNil (ha : SqL K H a xs) (hb : H b = some (.lst [])) (hd : DpAll K H xs ds) (hs : SeqAt.shaped (.list ds) = true) (q : Q (.bl xs.isEmpty) H) : rEqD K (.ref a) (.ref b) H Q := by
  refine ⟨_, _, .lst ha hd, .lst (.inl (.inl hb)) .nil, hs, by decide, ?_⟩
  rw [eqv_nil]
  have e : ds.isEmpty = xs.isEmpty := by cases hd <;> rfl
  rw [e]
  exact q
theorem neNil (ha : SqL K H a xs) (hb : H b = some (.lst [])) (hd : DpAll K H xs ds) (hs : SeqAt.shaped (.list ds) = true) (q : Q (.bl (!xs.isEmpty)) H) : rNeD K (.ref a) (.ref b) H Q := by
  refine ⟨_, _, .lst ha hd, .lst (.inl (.inl hb)) .nil, hs, by decide, ?_⟩
  rw [eqv_nil]
  have e : ds.isEmpty = xs.isEmpty := by cases hd <;> rfl
  rw [e]
  exact q
end
/-- is the monomial in the part's ideal -/
def inPB (n : Nat) (p w : List Int) : Bool := (List.range n).any fun i => decide (0 < gI p i) && decide (gI p i ≤ gI w i)
def holdsB (n : Nat) (G : List (List Int)) (w : List Int) : Bool := G.any fun g => divB n g w
theorem inPB_iff {n : Nat} {p w : List Int} : inPB n p w = true ↔ InP n p w := by
  unfold inPB InP
  simp only [List.any_eq_true, List.mem_range, Bool.and_eq_true, decide_eq_true_eq]
theorem holdsB_iff {n : Nat} {G : List (List Int)} {w : List Int} : holdsB n G w = true ↔ HoldsP n G w := by
  unfold holdsB HoldsP
  simp only [List.any_eq_true, div_iff]
theorem filter_range_empty {n : Nat} {f : Nat → Bool} : (!((List.range n).filter f).isEmpty) = (List.range n).any f := by
  induction n with
  | zero => rfl
  | succ n ih =>
    rw [List.range_succ, List.filter_append, List.any_append, ← ih]
    cases h : f n <;> simp [h]
section
variable {P : Program} {w : World} {K : PySem.W.Frag} {mg : Str → Option Value} {base : Heap}
def sp_law_divides (K : PySem.W.Frag) : Sp := fun vs H Q _ => ∃ (a b : Addr) (p m : List Int) (n : Nat), vs = [.ref a, .ref b] ∧ SqT K H a (p.map V.int) ∧ SqT K H b (m.map V.int) ∧ p.length = n ∧ m.length = n ∧ n ≤ 8 ∧ ∀ H', Same H H' → Q (.bl (divB n p m)) H'
theorem ok_law_divides (T : Txt K mg) : FnOk P w K mg base CX0 1 T.law_divides.f T.law_divides.fd P_law_divides (sp_law_divides K) := by
  refine T.law_divides.F.ok sc_law_divides (fun vs H Q E h => ?_) (fun cdv A outer s H vs Q E hr h => ?_)
  · obtain ⟨a, b, p, m, n, rfl, _⟩ := h; rfl
  · obtain ⟨a, b, p, m, n, rfl, ha, hb, hp, hm, hn, kk⟩ := h
    have hbig : 8 < sizeLine := by decide
    refine ⟨_, (pss_one (ps_ret (pe_cmpR (r := rEqD K) (op_eqD hr.units) (pe_lc (own := [("at", 2)]) rfl sc_law_divides.nd (pi_range1 rfl T.n_range (pa_cons (pe_callB (r := rLenS K) call_len_seq rfl T.n_len bo_len (pa_cons (pv 0) pa_nil)) pa_nil)) (blkOk_by (own := [("at", 2)]) (N := N_law_divides) (sc := defScope s_law_divides) (by decide +kernel)) (fun _ _ _ _ _ => (pg_name (i := 2) sc_law_divides.nd rfl (Or.inl rfl))) (fun _ _ _ _ _ => pts_one (pt_cmpR op_gt (pe_ix (r := rIxT K) ix_tup (pv 0) (pv 2) (fun _ _ => rfl)) (pe_ix (r := rIxT K) ix_tup (pv 1) (pv 2) (fun _ _ => rfl)) (nomark _))) (fun _ _ _ _ _ => (pv 2))) (pe_lst pa_nil) (nomark _)))), ?_⟩
    walk_at "rd"
    refine ⟨_, _, rfl, .inr ha, ?_⟩
    have hpz : (p.map V.int).length = n := by rw [List.length_map]; exact hp
    rw [hpz]
    walk_at "rd"
    refine ⟨(show (-2 ^ 62 : Int) ≤ (n : Int) by omega), (show (n : Int) < 2 ^ 62 by omega), fun D hD => ?_⟩
    rw [Int.toNat_natCast]
    refine lc_range (lo := 0) (n := n) (fun i H' => ∃ is : List Int, Same H H' ∧ H' D = some (.lst (is.map V.int)) ∧ is.length ≤ i ∧ is.isEmpty = (List.range i).all fun i => decide (gI p i ≤ gI m i)) ⟨[], same_upd hD, upd_same, Nat.le_refl _, rfl⟩ (fun i H1 hi q => ?_) (fun H1 q => ?_)
    · obtain ⟨is, q1, q2, q3, q4⟩ := q
      have g1 : atI (p.map V.int) (0 + (i : Int)) = some (V.int (gI p i)) := at_of (show (0 : Int) + (i : Int) = ((i : Nat) : Int) by omega) (at_gI (by omega))
      have g2 : atI (m.map V.int) (0 + (i : Int)) = some (V.int (gI m i)) := at_of (show (0 : Int) + (i : Int) = ((i : Nat) : Int) by omega) (at_gI (by omega))
      walk_at "rd"
      refine ⟨_, _, _, _, rfl, rfl, Toy.Same.tup q1 ha, g1, ?_⟩
      walk_at "rd"
      refine ⟨_, _, _, _, rfl, rfl, Toy.Same.tup q1 hb, g2, ?_⟩
      walk_at "rd"
      refine iteD (fun h2 => ?_) (fun h2 => ?_)
      · walk_at "rd"
        refine ⟨is.map V.int, q2, by rw [List.length_map]; omega, is ++ [0 + (i : Int)], fun b' v e => ?_, by rw [upd_same]; simp, by simp; omega, ?_⟩
        · rw [upd_ne (ne_of_none e hD)]
          exact q1 _ _ e
        · rw [all_range_succ, decide_eq_false (show ¬ gI p i ≤ gI m i by omega)]
          simp
      · refine ⟨is, q1, q2, by omega, ?_⟩
        rw [all_range_succ, decide_eq_true (show gI p i ≤ gI m i by omega), q4, Bool.and_true]
    · obtain ⟨is, q1, q2, q3, q4⟩ := q
      walk_at "rd"
      refine ⟨by decide, fun q hq => ?_⟩
      refine eqNil (.inl (.inl ((upd_ne (ne_of_none q2 hq)).trans q2))) upd_same (dpAll_ints is) (sh_li is) ?_
      have e : divB n p m = (is.map V.int).isEmpty := by
        unfold divB
        rw [show (is.map V.int).isEmpty = is.isEmpty by cases is <;> rfl, q4]
      rw [← e]
      exact kk _ (Same.trans q1 (same_upd hq))
def sp_law_holds (K : PySem.W.Frag) : Sp := fun vs H Q _ => ∃ (v : V) (b : Addr) (ms : List (List Int)) (m : List Int) (n : Nat), vs = [v, .ref b] ∧ Dp K H v (rsD ms) ∧ SqT K H b (m.map V.int) ∧ (∀ g ∈ ms, g.length = n) ∧ m.length = n ∧ n ≤ 8 ∧ ms.length ≤ 1000000 ∧ ∀ H', Same H H' → Q (.bl (holdsB n ms m)) H'
theorem ok_law_holds (T : Txt K mg) : FnOk P w K mg base CX0 2 T.law_holds.f T.law_holds.fd P_law_holds (sp_law_holds K) := by
  refine T.law_holds.F.ok sc_law_holds (fun vs H Q E h => ?_) (fun cdv A outer s H vs Q E hr h => ?_)
  · obtain ⟨v, b, ms, m, n, rfl, _⟩ := h; rfl
  · obtain ⟨v, b, ms, m, n, rfl, hv, hb, hgl, hm, hn, hml, kk⟩ := h
    have hbig : 1000000 < sizeLine := by decide
    obtain ⟨a, xs, rfl, ha, hxs⟩ := rows_tup hv
    have hxl : xs.length = ms.length := by have := Toy.DpAll.len hxs; rwa [List.length_map] at this
    refine ⟨_, (pss_one (ps_ret (pe_cmpR (r := rNeD K) (op_neD hr.units) (pe_lc (own := [("one", 2)]) rfl sc_law_holds.nd (pi_tup (pv 0)) (blkOk_by (own := [("one", 2)]) (N := N_law_holds) (sc := defScope s_law_holds) (by decide +kernel)) (fun _ _ _ _ _ => (pg_name (i := 2) sc_law_holds.nd rfl (Or.inl rfl))) (fun _ _ _ _ _ => pts_one (pt_val (pe_call (ok_law_divides T) (hr.mono (by decide)) rfl T.law_divides.g T.law_divides.F.kp (b_law_divides T) .nil pass0 (pa_cons (pv 2) (pa_cons (pv 1) pa_nil))))) (fun _ _ _ _ _ => (pv 2))) (pe_lst pa_nil) (nomark _)))), ?_⟩
    walk_at "rd"
    refine ⟨⟨_, ha⟩, fun D hD => ?_⟩
    refine lc_it (walk_tup (K := K) (a := a) (xs := xs)) (fun i H' => ∃ (zs : List V) (ls : List (List Int)), Same H H' ∧ H' D = some (.lst zs) ∧ zs.length ≤ i ∧ DpAll K H' zs (ls.map rD) ∧ zs.isEmpty = !((ms.take i).any fun g => divB n g m)) ⟨[], [], same_upd hD, upd_same, Nat.le_refl _, .nil, rfl⟩ (fun i H' _ q => ?_) (fun i x H1 H2 hi q y => ?_) (fun H1 q => ?_)
    · obtain ⟨zs, ls, q1, _⟩ := q
      exact Toy.Same.tup q1 ha
    · obtain ⟨zs, ls, q1, q2, q3, q4, q5⟩ := q
      obtain ⟨rfl, ey⟩ := y
      obtain ⟨ag, g, hg, rfl, hag⟩ := row_at hxs ey
      have et : ms.take (i + 1) = ms.take i ++ [g] := by rw [List.take_add_one, hg]; rfl
      walk_at "rd"
      refine ⟨ag, b, g, m, n, rfl, Toy.Same.tup q1 hag, Toy.Same.tup q1 hb, hgl g (List.mem_of_getElem? hg), hm, hn, fun H3 s3 => ?_⟩
      walk_at "rd"
      have z3 := s3 _ _ q2
      refine iteB (fun hb => ?_) (fun hb => ?_)
      · walk_at "rd"
        refine ⟨zs, z3, by omega, zs ++ [.ref ag], ls ++ [g], fun b' v e => ?_, upd_same, by simp; omega, ?_, ?_⟩
        · rw [upd_ne (ne_of_none e hD)]
          exact s3 _ _ (q1 _ _ e)
        · rw [List.map_append]
          exact DpAll.tp (tp_lst z3) _ _ (by rw [← List.map_append]; exact tOnly_rows _) (dpAll_snoc (DpAll.same s3 _ _ q4) (dp_ints (Toy.Same.tup (Same.trans q1 s3) hag)))
        · rw [et, List.any_append, List.any_cons, hb]
          simp
      · refine ⟨zs, ls, Same.trans q1 s3, z3, by omega, DpAll.same s3 _ _ q4, ?_⟩
        rw [et, List.any_append, List.any_cons, hb, q5]
        simp
    · obtain ⟨zs, ls, q1, q2, q3, q4, q5⟩ := q
      rw [hxl, List.take_length] at q5
      walk_at "rd"
      refine ⟨by decide, fun q hq => ?_⟩
      refine neNil (.inl (.inl ((upd_ne (ne_of_none q2 hq)).trans q2))) upd_same (DpAll.same (same_upd hq) _ _ q4) (sh_rows ls) ?_
      rw [q5, Bool.not_not]
      exact kk _ (Same.trans q1 (same_upd hq))
end

/-! ### _law_box -/
def boxL (top : Nat) : Nat → List (List Int)
  | 0 => [[]]
  | k + 1 => (boxL top k).flatMap fun m => (List.range (top + 1)).map fun (e : Nat) => m ++ [(e : Int)]
theorem box_len (top : Nat) : ∀ n, (boxL top n).length = (top + 1) ^ n
  | 0 => rfl
  | n + 1 => by
    have key : ∀ l : List (List Int), (l.flatMap fun m => (List.range (top + 1)).map fun (e : Nat) => m ++ [(e : Int)]).length = l.length * (top + 1) := by
      intro l
      induction l with
      | nil => simp
      | cons a l ih =>
        rw [List.flatMap_cons, List.length_append, ih, List.length_cons, Nat.succ_mul, List.length_map, List.length_range]
        omega
    show ((boxL top n).flatMap _).length = _
    rw [key, box_len top n, Nat.pow_succ]
theorem box_mem {top : Nat} : ∀ {n : Nat} {m : List Int}, m ∈ boxL top n ↔ m.length = n ∧ ∀ i, i < n → 0 ≤ gI m i ∧ gI m i ≤ top
  | 0, m => by
    show m ∈ [[]] ↔ _
    rw [List.mem_singleton]
    exact ⟨fun e => by subst e; exact ⟨rfl, fun i hi => by omega⟩, fun h => List.eq_nil_of_length_eq_zero h.1⟩
  | n + 1, m => by
    show m ∈ (boxL top n).flatMap _ ↔ _
    rw [List.mem_flatMap]
    constructor
    · rintro ⟨a, ha, h⟩
      obtain ⟨e, he, rfl⟩ := List.mem_map.mp h
      obtain ⟨h1, h2⟩ := box_mem.mp ha
      refine ⟨by rw [List.length_append, h1]; rfl, fun i hi => ?_⟩
      have he' : e < top + 1 := List.mem_range.mp he
      by_cases hin : i < n
      · have e1 : gI (a ++ [(e : Int)]) i = gI a i := by
          unfold gI
          rw [List.getD_eq_getElem?_getD, List.getD_eq_getElem?_getD, List.getElem?_append_left (by omega)]
        rw [e1]
        exact h2 i hin
      · have e1 : gI (a ++ [(e : Int)]) i = e := by
          unfold gI
          rw [List.getD_eq_getElem?_getD, List.getElem?_append_right (by omega), show i - a.length = 0 by omega]
          rfl
        rw [e1]
        omega
    · rintro ⟨h1, h2⟩
      have h3 := h2 n (by omega)
      refine ⟨m.take n, box_mem.mpr ⟨by rw [List.length_take]; omega, fun i hi => ?_⟩, List.mem_map.mpr ⟨(gI m n).toNat, List.mem_range.mpr (by omega), ?_⟩⟩
      · have e1 : gI (m.take n) i = gI m i := by
          unfold gI
          rw [List.getD_eq_getElem?_getD, List.getD_eq_getElem?_getD, List.getElem?_take_of_lt hi]
        rw [e1]
        exact h2 i (by omega)
      · rw [show (((gI m n).toNat : Nat) : Int) = gI m n by omega]
        have e2 : m = m.take (n + 1) := (List.take_of_length_le (by omega)).symm
        conv => rhs; rw [e2]
        rw [List.take_add_one, gI_get (by omega)]
        rfl
theorem box_nodup {top : Nat} : ∀ n, (boxL top n).Nodup
  | 0 => by show [([] : List Int)].Nodup; simp
  | n + 1 => by
    refine nodup_flatMap (box_nodup n) (fun a _ => ?_) fun a ha b hb x hxa hxb => ?_
    · refine List.pairwise_map.mpr ?_
      refine List.Pairwise.imp ?_ (List.nodup_range (n := top + 1))
      intro u v huv e
      have := List.append_cancel_left e
      simp at this
      omega
    · obtain ⟨e, _, rfl⟩ := List.mem_map.mp hxa
      obtain ⟨e', _, he⟩ := List.mem_map.mp hxb
      have := congrArg List.dropLast he
      rw [List.dropLast_concat, List.dropLast_concat] at this
      exact this.symm
section
variable {P : Program} {w : World} {K : PySem.W.Frag} {mg : Str → Option Value} {base : Heap}
def sp_law_box (K : PySem.W.Frag) : Sp := fun vs H Q _ => ∃ (n top : Nat), True ∧ vs = [.int n, .int top] ∧ n ≤ 4 ∧ top ≤ 5 ∧ ∀ p H' ys, Same H H' → H p = none → H' p = some (.lst ys) → DpAll K H' ys ((boxL top n).map rD) → Q (.ref p) H'
theorem ok_law_box (T : Txt K mg) : FnOk P w K mg base CX0 1 T.law_box.f T.law_box.fd P_law_box (sp_law_box K) := by
  refine T.law_box.F.ok sc_law_box (fun vs H Q E h => ?_) (fun cdv A outer s H vs Q E hr h => ?_)
  · obtain ⟨n, top, -, rfl, _⟩ := h; rfl
  · obtain ⟨n, top, -, rfl, hn, ht, kk⟩ := h
    have hbig : 1296 < sizeLine := by decide
    have hlen : ∀ i, i ≤ 4 → (boxL top i).length ≤ 1296 := fun i hi => by
      rw [box_len]
      have h1 : (top + 1) ^ i ≤ 6 ^ i := Nat.pow_le_pow_left (by omega) i
      have h2 : (6 : Nat) ^ i ≤ 6 ^ 4 := Nat.pow_le_pow_right (by decide) hi
      omega
    refine ⟨_, (pss_cons (ps_set (i := 2) sc_law_box.nd rfl (Or.inl rfl) (pe_lst (pa_cons (pe_tup pa_nil) pa_nil)))
  (pss_cons (ps_for PassesOwn.never rfl (pi_range1 rfl T.n_range (pa_cons (pv 0) pa_nil)) (pg_name (i := 3) sc_law_box.nd rfl (Or.inl rfl)) (pss_cons (ps_set (i := 4) sc_law_box.nd rfl (Or.inl rfl) (pe_lst pa_nil))
  (pss_cons (ps_for PassesOwn.never rfl (pi_list (pv 2)) (pg_name (i := 5) sc_law_box.nd rfl (Or.inr rfl)) (pss_one (ps_set (i := 4) sc_law_box.nd rfl (Or.inl rfl) (pe_op op_cat (pv 4) (pe_lc (own := [("e", 6)]) rfl sc_law_box.nd (pi_range1 rfl T.n_range (pa_cons (pe_op op_add (pv 1) pe_int) pa_nil)) (blkOk_by (own := [("e", 6)]) (N := N_law_box) (sc := defScope s_law_box) (by decide +kernel)) (fun _ _ _ _ _ => (pg_name (i := 6) sc_law_box.nd rfl (Or.inl rfl))) (fun _ _ _ _ _ => pts_nil) (fun _ _ _ _ _ => (pe_op (r := rCatA K) op_catA (pv 5) (pe_tup (pa_cons (pv 6) pa_nil)))))))))
  (pss_one (ps_set (i := 2) sc_law_box.nd rfl (Or.inl rfl) (pv 4))))))
  (pss_one (ps_ret (pv 2))))), ?_⟩
    walk_at "rd"
    refine ⟨by decide, fun p0 np0 => ?_⟩
    refine ⟨(show 1 ≤ sizeLine by decide), fun pf0 npf0 => ?_⟩
    have s02 : Same H (upd (upd H p0 (.tup [])) pf0 (.lst [.ref p0])) := Same.trans (same_upd np0) (same_upd npf0)
    have npf0' : H pf0 = none := by
      cases z : H pf0 with
      | none => rfl
      | some o => rw [same_upd np0 _ _ z] at npf0; cases npf0
    walk_at "rd"
    refine ⟨(show (-2 ^ 62 : Int) ≤ (n : Int) by omega), (show (n : Int) < 2 ^ 62 by omega), ?_⟩
    rw [Int.toNat_natCast]
    refine for_range (lo := 0) (n := n) (fun i σ H' => ∃ (y3 y4 y5 : Option V) (pf : Addr) (fs : List V), σ = [some (.int n), some (.int top), some (.ref pf), y3, y4, y5, none] ∧ Same H H' ∧ H pf = none ∧ H' pf = some (.lst fs) ∧ DpAll K H' fs ((boxL top i).map rD))
      ⟨_, _, _, pf0, [.ref p0], rfl, s02, npf0', upd_same, .cons (.tup (.inl (.inl ((upd_ne (fun z => by rw [← z, upd_same] at npf0; cases npf0)).trans upd_same))) .nil) .nil⟩ ?_ ?_
    · rintro i σ H2 hi ⟨y3, y4, y5, pf, fs, rfl, q1, q2, q3, q4⟩
      have hfl : fs.length = (boxL top i).length := by have := Toy.DpAll.len q4; rwa [List.length_map] at this
      walk_at "rd"
      refine ⟨by decide, fun pk npk => ?_⟩
      have nkf : pf ≠ pk := fun z => by rw [z, npk] at q3; cases q3
      have f3 := same_upd (o := .lst []) npk _ _ q3
      have npk' : H pk = none := by
        cases z : H pk with
        | none => rfl
        | some o => rw [q1 _ _ z] at npk; cases npk
      walk_at "rd"
      refine ⟨⟨_, .inl (.inl f3)⟩, ?_⟩
      have d3 := DpAll.same (same_upd (o := .lst []) npk) _ _ q4
      refine for_list (K := K) (a := pf) (xs := fs) (fun j σ H' => ∃ (y5 : Option V) (pk : Addr) (ks : List V), σ = [some (.int n), some (.int top), some (.ref pf), some (.int (0 + (i : Int))), some (.ref pk), y5, none] ∧ Same H H' ∧ H' pf = some (.lst fs) ∧ DpAll K H' fs ((boxL top i).map rD) ∧ H pk = none ∧ H' pk = some (.lst ks) ∧ DpAll K H' ks ((((boxL top i).take j).flatMap fun m => (List.range (top + 1)).map fun (e : Nat) => m ++ [(e : Int)]).map rD))
        ⟨_, pk, [], rfl, Same.trans q1 (same_upd npk), f3, d3, npk', upd_same, .nil⟩ (fun j σ H' _ q => ?_) (fun j x σ H3 hj q => ?_) (fun σ H3 q => ?_)
      · obtain ⟨_, _, _, _, _, q2, _⟩ := q
        exact .inl (.inl q2)
      · obtain ⟨y5, pk2, ks, rfl, r1, r2, r3, r4, r5, r6⟩ := q
        obtain ⟨am, m, hm, rfl, ham⟩ := row_at r3 hj
        have hml := (box_mem.mp (List.mem_of_getElem? hm)).1
        walk_at "rd"
        refine ⟨(show (-2 ^ 62 : Int) ≤ (top : Int) + 1 by omega), (show (top : Int) + 1 < 2 ^ 62 by omega), fun D hD => ?_⟩
        rw [show ((top : Int) + 1).toNat = top + 1 by omega]
        refine lc_range (lo := 0) (n := top + 1) (fun e H' => ∃ zs : List V, Same H3 H' ∧ H' D = some (.lst zs) ∧ zs.length ≤ e ∧ DpAll K H' zs (((List.range e).map fun (e : Nat) => m ++ [(e : Int)]).map rD)) ⟨[], same_upd hD, upd_same, Nat.le_refl _, .nil⟩ (fun e H4 he q => ?_) (fun H4 q => ?_)
        · obtain ⟨zs, z1, z2, z3, z4⟩ := q
          walk_at "rd"
          refine ⟨(show 1 ≤ sizeLine by decide), fun p1 np1 => ?_⟩
          refine catA (xs := m.map V.int) (ys := [V.int (0 + (e : Int))]) (Toy.Same.tup (Same.trans z1 (same_upd np1)) ham) (.inl (.inl upd_same)) (by rw [List.length_map]; simp; omega) fun p2 H5 s5 t5 => ?_
          have s45 := Same.trans (same_upd np1) s5
          have zz := s45 _ _ z2
          refine ⟨zs, zz, by omega, zs ++ [.ref p2], fun b' v e' => ?_, upd_same, by simp; omega, ?_⟩
          · rw [upd_ne (ne_of_none e' hD)]
            exact s45 _ _ (z1 _ _ e')
          · rw [List.range_succ, List.map_append, List.map_append]
            refine DpAll.tp (tp_lst zz) _ _ (by rw [← List.map_append]; exact tOnly_rows _) (dpAll_snoc (DpAll.same s45 _ _ z4) (dp_ints ?_))
            rw [Int.zero_add] at t5
            rw [List.map_append]
            exact t5
        · obtain ⟨zs, z1, z2, z3, z4⟩ := q
          have eft := flat_take (f := fun m : List Int => (List.range (top + 1)).map fun (e : Nat) => m ++ [(e : Int)]) hm
          have hzl : zs.length = top + 1 := by have := Toy.DpAll.len z4; rwa [List.length_map, List.length_map, List.length_range] at this
          have hkl : ks.length ≤ 1296 := by
            have h1 := Toy.DpAll.len r6
            rw [List.length_map] at h1
            have h2 := flat_take_len (f := fun m : List Int => (List.range (top + 1)).map fun (e : Nat) => m ++ [(e : Int)]) (boxL top i) j
            have h3 := hlen (i + 1) (by omega)
            have h4 : (boxL top (i + 1)).length = ((boxL top i).flatMap fun m : List Int => (List.range (top + 1)).map fun (e : Nat) => m ++ [(e : Int)]).length := rfl
            omega
          have hbig2 : 2000 < sizeLine := by decide
          refine ⟨pk2, D, ks, zs, rfl, rfl, z1 _ _ r5, z2, by omega, fun p2 np2 => ?_⟩
          have s6 : Same H3 (upd H4 p2 (.lst (ks ++ zs))) := Same.trans z1 (same_upd np2)
          have np2' : H p2 = none := by
            cases z : H p2 with
            | none => rfl
            | some o => rw [z1 _ _ (r1 _ _ z)] at np2; cases np2
          refine ⟨_, p2, ks ++ zs, rfl, Same.trans r1 s6, s6 _ _ r2, DpAll.same s6 _ _ r3, np2', upd_same, ?_⟩
          rw [eft, List.map_append]
          exact dpAll_app (DpAll.same s6 _ _ r6) (DpAll.same (same_upd np2) _ _ z4)
      · obtain ⟨y5, pk2, ks, rfl, r1, r2, r3, r4, r5, r6⟩ := q
        rw [hfl, List.take_length] at r6
        walk_at "rd"
        exact ⟨_, _, _, pk2, ks, rfl, r1, r4, r5, r6⟩
    · rintro σ H2 ⟨y3, y4, y5, pf, fs, rfl, q1, q2, q3, q4⟩
      walk_at "rd"
      exact kk pf H2 fs q1 q2 q3 q4
end

/-! ### _law_monos_drawn -/
theorem RK.put {K : PySem.W.Frag} {H H' : Hp} {r sa : Addr} {ns : List Int} {p : Addr} {o : HO} (s : RK K r sa ns H H') (hr : RowAt K H r sa ns) (hp : H p = none) : RK K r sa ns H (upd H' p o) := by
  obtain ⟨zs, hrz⟩ := row_lst hr
  have nD : p ≠ r := fun e => by rw [e, hrz] at hp; cases hp
  refine ⟨fun b o nb e => ?_, ?_⟩
  · rw [upd_ne (ne_of_none e hp)]
    exact s.keep _ _ nb e
  · obtain ⟨q, sd, e, hrow, hS, hb⟩ := s.row
    refine ⟨q, sd, e, (upd_ne (fun z => nD z.symm)).trans hrow, ?_, hb⟩
    obtain ⟨_, _, _, _, hS1, _⟩ := hr
    have ns' : (∃ o, H sa = some o) → sa ≠ p := fun ⟨o, z⟩ => ne_of_none z hp
    rcases hS with ⟨q | ⟨u, q⟩, n⟩ | q
    · rcases hS1 with ⟨w | ⟨u, w⟩, _⟩ | ⟨o, its, m, w, _⟩
      · exact .inl ⟨.inl ((upd_ne (ns' ⟨_, w⟩)).trans q), n⟩
      · exact .inl ⟨.inl ((upd_ne (ns' ⟨_, w⟩)).trans q), n⟩
      · exact .inr ⟨o, its, m, w, by assumption⟩
    · rcases hS1 with ⟨w | ⟨u', w⟩, _⟩ | ⟨o, its, m, w, _⟩
      · exact .inl ⟨.inr ⟨u, (upd_ne (ns' ⟨_, w⟩)).trans q⟩, n⟩
      · exact .inl ⟨.inr ⟨u, (upd_ne (ns' ⟨_, w⟩)).trans q⟩, n⟩
      · exact .inr ⟨o, its, m, w, by assumption⟩
    · exact .inr q
/-- ints told one by one -/
theorem ints_of {lo hi : Int} : ∀ {ys : List V}, (∀ (j : Nat) (y : V), ys[j]? = some y → ∃ e, y = .int e ∧ lo ≤ e ∧ e ≤ hi) → ∃ es : List Int, ys = es.map V.int ∧ ∀ e ∈ es, lo ≤ e ∧ e ≤ hi
  | [], _ => ⟨[], rfl, fun e h => (by cases h)⟩
  | y :: ys, h => by
    obtain ⟨e, rfl, he⟩ := h 0 y rfl
    obtain ⟨es, rfl, hes⟩ := ints_of (ys := ys) fun j y hj => h (j + 1) y (by simpa using hj)
    refine ⟨e :: es, rfl, fun x hx => ?_⟩
    rcases List.mem_cons.mp hx with z | z
    · rw [z]; exact he
    · exact hes x z
def DrawnOk (n top : Nat) (ms : List (List Int)) : Prop := ∀ m ∈ ms, m.length = n ∧ ∀ e ∈ m, 0 ≤ e ∧ e ≤ (top : Int)
section
variable {P : Program} {w : World} {K : PySem.W.Frag} {mg : Str → Option Value} {base : Heap}
def sp_law_monos_drawn (K : PySem.W.Frag) : Sp := fun vs H Q _ => ∃ (r sa : Addr) (ns : List Int) (n most top : Nat), True ∧ vs = [.ref r, .int n, .int most, .int top] ∧ RowAt K H r sa ns ∧ n ≤ 4 ∧ most ≤ 6 ∧ top ≤ 5 ∧
  ∀ p H' ms, RK K r sa ns H H' → Dp K H' (.ref p) (rsD ms) → ms.length ≤ most → DrawnOk n top ms → Q (.ref p) H'
theorem ok_law_monos_drawn (T : Txt K mg) : FnOk P w K mg base CX0 3 T.law_monos_drawn.f T.law_monos_drawn.fd P_law_monos_drawn (sp_law_monos_drawn K) := by
  refine T.law_monos_drawn.F.ok sc_law_monos_drawn (fun vs H Q E h => ?_) (fun cdv A outer s H vs Q E hr h => ?_)
  · obtain ⟨r, sa, ns, n, most, top, -, rfl, _⟩ := h; rfl
  · obtain ⟨r, sa, ns, n, most, top, -, rfl, hrow, hn, hmost, htop, kk⟩ := h
    have hbig : 100 < sizeLine := by decide
    obtain ⟨rzs, hrz⟩ := row_lst hrow
    refine ⟨_, (pss_cons (ps_set (i := 4) sc_law_monos_drawn.nd rfl (Or.inl rfl) (pe_lst pa_nil))
  (pss_cons (ps_for PassesOwn.never rfl (pi_range1 rfl T.n_range (pa_cons (pe_call (ok_law_taken T) (hr.mono (by decide)) rfl T.law_taken.g T.law_taken.F.kp (b_law_taken T) .nil pass0 (pa_cons (pv 0) (pa_cons (pe_op op_add (pv 2) pe_int) pa_nil))) pa_nil)) (pg_name (i := 5) sc_law_monos_drawn.nd rfl (Or.inl rfl)) (pss_cons (ps_set (i := 6) sc_law_monos_drawn.nd rfl (Or.inr rfl) (pe_callTy (r := rTupOf K) call_tuple_of rfl T.n_tuple bo_tuple (pa_cons (pe_lc (own := [("at", 7)]) rfl sc_law_monos_drawn.nd (pi_range1 rfl T.n_range (pa_cons (pv 1) pa_nil)) (blkOk_by (own := [("at", 7)]) (N := N_law_monos_drawn) (sc := defScope s_law_monos_drawn) (by decide +kernel)) (fun _ _ _ _ _ => (pg_name (i := 7) sc_law_monos_drawn.nd rfl (Or.inl rfl))) (fun _ _ _ _ _ => pts_nil) (fun _ _ _ _ _ => (pe_call (ok_law_taken T) (hr.mono (by decide)) rfl T.law_taken.g T.law_taken.F.kp (b_law_taken T) .nil pass0 (pa_cons (pv 0) (pa_cons (pe_op op_add pe_int (pe_call (ok_law_taken T) (hr.mono (by decide)) rfl T.law_taken.g T.law_taken.F.kp (b_law_taken T) .nil pass0 (pa_cons (pv 0) (pa_cons (pe_op op_add (pv 3) pe_int) pa_nil)))) pa_nil))))) pa_nil)))
  (pss_cons (ps_if (PW.pt (pw_and (pt_cmpR (r := rNeD K) (op_neD hr.units) (pv 4) (pe_lst pa_nil) (nomark _)) (pw_and1 (pt_cmpR op_eq (pe_call (ok_law_taken T) (hr.mono (by decide)) rfl T.law_taken.g T.law_taken.F.kp (b_law_taken T) .nil pass0 (pa_cons (pv 0) (pa_cons pe_int pa_nil))) pe_int (nomark _))))) (pss_cons (ps_set (i := 8) sc_law_monos_drawn.nd rfl (Or.inr rfl) (pe_call (ok_law_pick T) (hr.mono (by decide)) rfl T.law_pick.g T.law_pick.F.kp (b_law_pick T) .nil pass0 (pa_cons (pv 0) (pa_cons (pv 4) pa_nil))))
  (pss_one (ps_set (i := 6) sc_law_monos_drawn.nd rfl (Or.inr rfl) (pe_callTy (r := rTupOf K) call_tuple_of rfl T.n_tuple bo_tuple (pa_cons (pe_lc (own := [("at", 7)]) rfl sc_law_monos_drawn.nd (pi_range1 rfl T.n_range (pa_cons (pv 1) pa_nil)) (blkOk_by (own := [("at", 7)]) (N := N_law_monos_drawn) (sc := defScope s_law_monos_drawn) (by decide +kernel)) (fun _ _ _ _ _ => (pg_name (i := 7) sc_law_monos_drawn.nd rfl (Or.inl rfl))) (fun _ _ _ _ _ => pts_nil) (fun _ _ _ _ _ => (pe_callB (call_min2 rfl) rfl T.n_min bo_min (pa_cons (pv 3) (pa_cons (pe_callB (call_max2 rfl) rfl T.n_max bo_max (pa_cons (pe_ix (r := rIxT K) ix_tup (pv 6) (pv 7) (fun _ _ => rfl)) (pa_cons (pe_ix (r := rIxT K) ix_tup (pv 8) (pv 7) (fun _ _ => rfl)) pa_nil))) pa_nil))))) pa_nil))))) pss_nil)
  (pss_one (ps_expr (pe_bm PySem.F.plainAttrs_list PySem.F.slot_list_append PySem.F.type_list_append mt_append (pv 4) (pa_cons (pv 6) pa_nil)))))))
  (pss_one (ps_ret (pe_callTy (r := rTupOf K) call_tuple_of rfl T.n_tuple bo_tuple (pa_cons (pv 4) pa_nil)))))), ?_⟩
    walk_at "rd"
    refine ⟨by decide, fun pf npf => ?_⟩
    have npr : pf ≠ r := fun z => by rw [z, hrz] at npf; cases npf
    walk_at "rd"
    refine ⟨r, sa, ns, _, rfl, hrow.sm (same_upd npf), by omega, by omega, fun v H1 v0 v1 r1 b1 => ?_⟩
    walk_at "rd"
    refine ⟨(show (-2 ^ 62 : Int) ≤ v by omega), (show v < 2 ^ 62 by omega), ?_⟩
    have k1 : RK K r sa ns H H1 := RK.trans (.of hrow (same_upd npf)) (RK.draw r1 b1)
    have f1 : H1 pf = some (.lst []) := (b1 pf npr).trans upd_same
    refine for_range (lo := 0) (n := v.toNat) (fun i σ H' => ∃ (y5 y6 y8 : Option V) (fs : List V) (ms : List (List Int)), σ = [some (.ref r), some (.int n), some (.int most), some (.int top), some (.ref pf), y5, y6, none, y8] ∧
        RK K r sa ns H H' ∧ H' pf = some (.lst fs) ∧ DpAll K H' fs (ms.map rD) ∧ ms.length = i ∧ DrawnOk n top ms)
      ⟨_, _, _, [], [], rfl, k1, f1, .nil, rfl, fun m h => (by cases h)⟩ ?_ ?_
    · rintro i σ H2 hi ⟨y5, y6, y8, fs, ms, rfl, k2, f2, d2, l2, o2⟩
      have hfl : fs.length = ms.length := by have := Toy.DpAll.len d2; rwa [List.length_map] at this
      walk_at "rd"
      refine ⟨(show (-2 ^ 62 : Int) ≤ (n : Int) by omega), (show (n : Int) < 2 ^ 62 by omega), fun D hD => ?_⟩
      rw [Int.toNat_natCast]
      refine lc_range (lo := 0) (n := n) (fun j H' => MapRow K r sa ns H2 D (fun _ y => ∃ e, y = .int e ∧ 0 ≤ e ∧ e ≤ (top : Int)) j H') (mapRow_0 k2.row hD) (fun j H3 hj q => ?_) (fun H3 q => ?_)
      · obtain ⟨zs, q1, _⟩ := id q
        walk_at "rd"
        refine ⟨r, sa, ns, _, rfl, q1.row, by omega, by omega, fun u H4 u0 u1 r4 b4 => ?_⟩
        walk_at "rd"
        refine ⟨r, sa, ns, _, rfl, r4, by omega, by omega, fun e H5 e0 e1 r5 b5 => ?_⟩
        walk_at "rd"
        exact mapRow_step q k2.row hD (by omega) (RK.trans (RK.draw r4 b4) (RK.draw r5 b5)) ⟨e, rfl, e0, by omega⟩
      · obtain ⟨zs, q1, q2, q3, q4⟩ := q
        obtain ⟨m, rfl, hm⟩ := ints_of q4
        rw [List.length_map] at q3
        walk_at "rd"
        refine ⟨_, _, rfl, .inl ⟨.inl (.inl q2), fun am nam => ?_⟩⟩
        have k3 : RK K r sa ns H2 (upd H3 am (.tup (m.map V.int))) := RK.trans q1 (.of q1.row (same_upd nam))
        have am3 : SqT K (upd H3 am (.tup (m.map V.int))) am (m.map V.int) := .inl (.inl upd_same)
        generalize upd H3 am (.tup (m.map V.int)) = H4 at *
        have k4 := RK.trans k2 k3
        have f4 := k3.keep _ _ npr f2
        have d4 := DpAll.tp (RK.tp k2.row k3) _ _ (tOnly_rows _) d2
        walk_at "rd"
        refine ⟨by decide, fun q hq => ?_⟩
        have s5 := same_upd (o := .lst []) hq
        refine neNil (.inl (.inl (s5 _ _ f4))) upd_same (DpAll.same s5 _ _ d4) (sh_rows ms) ?_
        refine ⟨_, rfl, iteB (fun hb => ?_) (fun hb => ?_)⟩
        · walk_at "rd"
          refine ⟨r, sa, ns, _, rfl, k4.row.sm s5, by omega, by omega, fun u H6 u0 u1 r6 b6 => ?_⟩
          have k6 : RK K r sa ns H4 H6 := RK.trans (.of k4.row s5) (RK.draw r6 b6)
          have k06 := RK.trans k4 k6
          have f6 := k6.keep _ _ npr f4
          have d6 := DpAll.tp (RK.tp k4.row k6) _ _ (tOnly_rows _) d4
          have am6 := (RK.tp k4.row k6).sqt am3
          walk_at "rd"
          refine iteV (fun hu => ?_) (fun hu => ?_)
          · walk_at "rd"
            have hfs : 1 ≤ fs.length := by cases fs with
              | nil => cases hb
              | cons x l => simp
            refine ⟨r, sa, pf, ns, fs, rfl, k06.row, .inl (.inl f6), npr, hfs, by omega, fun w H7 hw r7 b7 => ?_⟩
            have k7 : RK K r sa ns H6 H7 := RK.draw r7 b7
            have k07 := RK.trans k06 k7
            have f7 := k7.keep _ _ npr f6
            have d7 := DpAll.tp (RK.tp k06.row k7) _ _ (tOnly_rows _) d6
            have am7 := (RK.tp k06.row k7).sqt am6
            obtain ⟨jw, hjw⟩ := List.mem_iff_getElem?.mp hw
            obtain ⟨ao, o, ho, rfl, hao⟩ := row_at d7 hjw
            have hoo := o2 o (List.mem_of_getElem? ho)
            walk_at "rd"
            refine ⟨(show (-2 ^ 62 : Int) ≤ (n : Int) by omega), (show (n : Int) < 2 ^ 62 by omega), fun D2 hD2 => ?_⟩
            rw [Int.toNat_natCast]
            refine lc_range (lo := 0) (n := n) (fun j H' => MapRow K r sa ns H7 D2 (fun _ y => ∃ e, y = .int e ∧ 0 ≤ e ∧ e ≤ (top : Int)) j H') (mapRow_0 k07.row hD2) (fun j H8 hj q => ?_) (fun H8 q => ?_)
            · obtain ⟨zs, q1, _⟩ := id q
              have g1 : atI (m.map V.int) (0 + (j : Int)) = some (V.int (gI m j)) := at_of (show (0 : Int) + (j : Int) = ((j : Nat) : Int) by omega) (at_gI (by omega))
              have g2 : atI (o.map V.int) (0 + (j : Int)) = some (V.int (gI o j)) := at_of (show (0 : Int) + (j : Int) = ((j : Nat) : Int) by omega) (at_gI (by omega))
              have hm' := hm _ (List.mem_of_getElem? (gI_get (l := m) (i := j) (by omega)))
              have ho' := hoo.2 _ (List.mem_of_getElem? (gI_get (l := o) (i := j) (by omega)))
              walk_at "rd"
              refine ⟨_, _, _, _, rfl, rfl, (RK.tp k07.row q1).sqt am7, g1, ?_⟩
              walk_at "rd"
              refine ⟨_, _, _, _, rfl, rfl, (RK.tp k07.row q1).sqt hao, g2, ?_⟩
              walk_at "rd"
              refine mapRow_step q k07.row hD2 (by omega) (RK.of q1.row (Same.refl _)) ⟨_, rfl, ?_, ?_⟩
              · repeat split
                all_goals omega
              · repeat split
                all_goals omega
            · obtain ⟨zs, q1, q2, q3, q4⟩ := q
              obtain ⟨m2, rfl, hm2⟩ := ints_of q4
              rw [List.length_map] at q3
              walk_at "rd"
              refine ⟨_, _, rfl, .inl ⟨.inl (.inl q2), fun am2 nam2 => ?_⟩⟩
              have k8 : RK K r sa ns H7 (upd H8 am2 (.tup (m2.map V.int))) := RK.trans q1 (.of q1.row (same_upd nam2))
              have k08 := RK.trans k07 k8
              have f8 := k8.keep _ _ npr f7
              have d8 := DpAll.tp (RK.tp k07.row k8) _ _ (tOnly_rows _) d7
              walk_at "rd"
              refine ⟨.inl ⟨rfl, _, .inl (.inl f8)⟩, ?_⟩
              walk_at "rd"
              refine ⟨_, _, _, rfl, rfl, f8, by omega, _, _, _, fs ++ [.ref am2], ms ++ [m2], rfl, k08.put hrow npf, upd_same, ?_, by rw [List.length_append, l2]; rfl, fun g hg => ?_⟩
              · rw [List.map_append]
                exact DpAll.tp (tp_lst f8) _ _ (by rw [← List.map_append]; exact tOnly_rows _) (dpAll_snoc d8 (dp_ints (.inl (.inl upd_same))))
              · rcases List.mem_append.mp hg with z | z
                · exact o2 g z
                · rw [List.mem_singleton.mp z]; exact ⟨q3, hm2⟩
          · walk_at "rd"
            refine ⟨.inl ⟨rfl, _, .inl (.inl f6)⟩, ?_⟩
            walk_at "rd"
            refine ⟨_, _, _, rfl, rfl, f6, by omega, _, _, _, fs ++ [.ref am], ms ++ [m], rfl, k06.put hrow npf, upd_same, ?_, by rw [List.length_append, l2]; rfl, fun g hg => ?_⟩
            · rw [List.map_append]
              exact DpAll.tp (tp_lst f6) _ _ (by rw [← List.map_append]; exact tOnly_rows _) (dpAll_snoc d6 (dp_ints am6))
            · rcases List.mem_append.mp hg with z | z
              · exact o2 g z
              · rw [List.mem_singleton.mp z]; exact ⟨q3, hm⟩
        · have k5 := RK.trans k4 (.of k4.row s5)
          have f5 := s5 _ _ f4
          have d5 := DpAll.same s5 _ _ d4
          have am5 := Toy.Same.tup s5 am3
          walk_at "rd"
          refine ⟨.inl ⟨rfl, _, .inl (.inl f5)⟩, ?_⟩
          walk_at "rd"
          refine ⟨_, _, _, rfl, rfl, f5, by omega, _, _, _, fs ++ [.ref am], ms ++ [m], rfl, k5.put hrow npf, upd_same, ?_, by rw [List.length_append, l2]; rfl, fun g hg => ?_⟩
          · rw [List.map_append]
            exact DpAll.tp (tp_lst f5) _ _ (by rw [← List.map_append]; exact tOnly_rows _) (dpAll_snoc d5 (dp_ints am5))
          · rcases List.mem_append.mp hg with z | z
            · exact o2 g z
            · rw [List.mem_singleton.mp z]; exact ⟨q3, hm⟩
    · rintro σ H2 ⟨y5, y6, y8, fs, ms, rfl, k2, f2, d2, l2, o2⟩
      walk_at "rd"
      refine ⟨_, _, rfl, .inl ⟨.inl (.inl f2), fun l hl => ?_⟩⟩
      exact kk l _ ms (RK.trans k2 (.of k2.row (same_upd hl))) (.tup (.inl (.inl upd_same)) (DpAll.same (same_upd hl) _ _ d2)) (by omega) o2
end

/-! ### the parts: what the law asks -/
theorem leR_eq (a b : List Int) : leR a b = decide (a ≤ b) := by
  show (!PySem.W.dataLt (.tuple (b.map .int)) (.tuple (a.map .int))) = _
  rw [PySem.W.dataLt_tuple]
  show (!PySem.W.rowLt (b.map .int) (a.map .int)) = _
  rw [PySem.W.dataLt_ints]
  by_cases h : b < a
  · have h' : ¬ a ≤ b := fun r => List.not_lt.mpr r h
    simp [h, h']
  · have h' : a ≤ b := List.not_lt.mp h
    simp [h, h']
theorem leR_total : PySem.W.TotalLe leR := PySem.W.sortLe_total _ false _
theorem leR_anti {a b : List Int} (h1 : leR a b = true) (h2 : leR b a = true) : a = b := by
  rw [leR_eq, decide_eq_true_eq] at h1 h2
  exact List.le_antisymm h1 h2
theorem sort_perm {l m : List (List Int)} (h : l.Perm m) : l.mergeSort leR = m.mergeSort leR := by
  refine List.Perm.eq_of_pairwise (le := fun a b => leR a b = true) (fun a b _ _ h1 h2 => leR_anti h1 h2) (PySem.W.sort_pairwise leR_total l) (PySem.W.sort_pairwise leR_total m) ?_
  exact (List.mergeSort_perm l leR).trans (h.trans (List.mergeSort_perm m leR).symm)
theorem sort_sorted {l m : List (List Int)} (h : m.Perm (l.mergeSort leR)) : m.mergeSort leR = l.mergeSort leR := sort_perm (h.trans (List.mergeSort_perm l leR))
theorem nodup_len {α : Type} [DecidableEq α] : ∀ {l m : List α}, l.Nodup → (∀ x ∈ l, x ∈ m) → l.length ≤ m.length
  | [], _, _, _ => Nat.zero_le _
  | a :: l, m, h, hs => by
    have hc := List.nodup_cons.mp h
    have hm := hs a List.mem_cons_self
    have ih := nodup_len (m := m.erase a) hc.2 fun x hx => (List.mem_erase_of_ne (a := x) (b := a) (fun e => hc.1 (by rw [← e]; exact hx))).mpr (hs x (List.mem_cons_of_mem _ hx))
    rw [List.length_erase_of_mem hm] at ih
    have : 0 < m.length := List.length_pos_of_mem hm
    rw [List.length_cons]
    omega
theorem perm_of_mem {α : Type} [DecidableEq α] {l m : List α} (h1 : l.Nodup) (h2 : m.Nodup) (h : ∀ x, x ∈ l ↔ x ∈ m) : l.Perm m := (List.perm_ext_iff_of_nodup h1 h2).mpr h
section
variable {n top : Nat} {ms : List (List Int)}
theorem drawn_gI (h : DrawnOk n top ms) {g : List Int} (hg : g ∈ ms) {i : Nat} (hi : i < n) : 0 ≤ gI g i ∧ gI g i ≤ top := by
  obtain ⟨h1, h2⟩ := h g hg
  exact h2 _ (List.mem_of_getElem? (gI_get (by omega)))
theorem drawn_ms (h : DrawnOk n top ms) (ht : top ≤ 8) : MsOk n ms := fun g hg => ⟨(h g hg).1, fun i hi => by have := drawn_gI h hg hi; omega⟩
theorem drawn_lot (h : DrawnOk n top ms) (ht : top ≤ 8) (hl : ms.length ≤ 12) : LotOk n ms := ⟨hl, fun m hm => ⟨(h m hm).1, fun e he => by have := (h m hm).2 e he; omega⟩⟩
theorem least_ms (h : MsOk n ms) : MsOk n (leastF n ms) := fun g hg => h g (least_mem hg)
theorem corners_mem (h : MsOk n ms) (c : List Int) : c ∈ corners n (leastF n ms) (leastF n ms).length ↔ Corner n ms c := by
  rw [(corners_all (least_ms h) _ (Nat.le_refl _)).2 c, List.take_length]
  exact corner_least (fun g hg => least_mem hg) (fun g hg => least_all hg) c
theorem parts_mem (h : MsOk n ms) (p : List Int) : p ∈ partsL n ms ↔ ∃ c, Corner n ms c ∧ p = ptC c := by
  unfold partsL
  rw [(List.mergeSort_perm _ _).mem_iff, List.mem_map]
  exact ⟨fun ⟨c, hc, e⟩ => ⟨c, (corners_mem h c).mp hc, e.symm⟩, fun ⟨c, hc, e⟩ => ⟨c, (corners_mem h c).mpr hc, e.symm⟩⟩
theorem parts_nodup (h : MsOk n ms) : (partsL n ms).Nodup := by
  unfold partsL
  rw [(List.mergeSort_perm _ _).nodup_iff]
  refine List.pairwise_map.mpr (List.Pairwise.imp_of_mem ?_ (corners_all (least_ms h) _ (Nat.le_refl _)).1)
  intro a b ha hb hab e
  exact hab (pt_inj ((corners_mem h a).mp ha) ((corners_mem h b).mp hb) e)
theorem parts_sort (l : List (List Int)) (h : l.Perm (partsL n ms)) : l.mergeSort leR = partsL n ms := sort_sorted h
theorem parts_box (h : DrawnOk n top ms) (ht : top ≤ 8) {p : List Int} (hp : p ∈ partsL n ms) : p.length = n ∧ ∀ i, i < n → 0 ≤ gI p i ∧ gI p i ≤ top := by
  have hG := drawn_ms h ht
  obtain ⟨c, hc, rfl⟩ := (parts_mem hG p).mp hp
  refine ⟨by rw [len_pt]; exact hc.len, fun i hi => ?_⟩
  rw [gI_pt]
  have h1 := hc.lo i hi
  by_cases e : gI c i < 1000
  · rw [if_pos e]
    have := corner_top (top := (top : Int)) (fun g hg i hi => (drawn_gI h hg hi).2) hc hi e
    omega
  · rw [if_neg e]; omega
/-- few parts: all but the last number tell them -/
theorem parts_few (h : DrawnOk n top ms) (ht : top ≤ 8) (hn : 1 ≤ n) : (partsL n ms).length ≤ (top + 1) ^ (n - 1) := by
  have hG := drawn_ms h ht
  rw [← box_len]
  have hl : ((partsL n ms).map fun p => p.take (n - 1)).length = (partsL n ms).length := List.length_map ..
  rw [← hl]
  refine nodup_len ?_ fun x hx => ?_
  · refine List.pairwise_map.mpr (List.Pairwise.imp_of_mem ?_ (parts_nodup hG))
    intro a b ha hb hab e
    obtain ⟨c, hc, rfl⟩ := (parts_mem hG a).mp ha
    obtain ⟨d, hd, rfl⟩ := (parts_mem hG b).mp hb
    have ec : ∀ i, i < n - 1 → gI c i = gI d i := fun i hi => by
      have q : gI ((ptC c).take (n - 1)) i = gI ((ptC d).take (n - 1)) i := by rw [e]
      have tk : ∀ l : List Int, gI (l.take (n - 1)) i = gI l i := fun l => by
        unfold gI
        rw [List.getD_eq_getElem?_getD, List.getD_eq_getElem?_getD, List.getElem?_take_of_lt hi]
      rw [tk, tk, gI_pt, gI_pt] at q
      have h1 := hc.lo i (by omega)
      have h2 := hd.lo i (by omega)
      split at q <;> split at q <;> omega
    have ecd : c = d := by
      rcases Int.le_total (gI c (n - 1)) (gI d (n - 1)) with z | z
      · exact corner_anti hc hd fun i hi => by
          by_cases e : i = n - 1
          · rw [e]; exact z
          · rw [ec i (by omega)]; exact Int.le_refl _
      · exact (corner_anti hd hc fun i hi => by
          by_cases e : i = n - 1
          · rw [e]; exact z
          · rw [ec i (by omega)]; exact Int.le_refl _).symm
    exact hab (by rw [ecd])
  · obtain ⟨p, hp, rfl⟩ := List.mem_map.mp hx
    obtain ⟨h1, h2⟩ := parts_box h ht hp
    refine box_mem.mpr ⟨by rw [List.length_take]; omega, fun i hi => ?_⟩
    have tk : gI (p.take (n - 1)) i = gI p i := by
      unfold gI
      rw [List.getD_eq_getElem?_getD, List.getD_eq_getElem?_getD, List.getElem?_take_of_lt hi]
    rw [tk]
    exact h2 i (by omega)
/-- a monomial of the box is in all parts just if it is in the ideal -/
theorem law_meet (h : DrawnOk n top ms) (ht : top ≤ 8) {m : List Int} (hm : m ∈ boxL top n) : ((partsL n ms).all fun p => inPB n p m) = holdsB n ms m := by
  have hG := drawn_ms h ht
  obtain ⟨_, h2⟩ := box_mem.mp hm
  have q := parts_meet hG (w := m) fun i hi => by have := h2 i hi; omega
  have e1 : ((partsL n ms).all fun p => inPB n p m) = true ↔ holdsB n ms m = true := by
    rw [holdsB_iff, ← q, List.all_eq_true]
    constructor
    · intro z c hc
      exact inPB_iff.mp (z (ptC c) ((parts_mem hG _).mpr ⟨c, hc, rfl⟩))
    · intro z p hp
      obtain ⟨c, hc, rfl⟩ := (parts_mem hG p).mp hp
      exact inPB_iff.mpr (z c hc)
  exact Bool.eq_iff_iff.mpr e1
/-- each part is wanted -/
theorem law_wanted (h : DrawnOk n top ms) (ht : top ≤ 8) {k : Nat} (hk : k < (partsL n ms).length) :
    ∃ m ∈ boxL top n, (((partsL n ms).take k ++ (partsL n ms).drop (k + 1)).all fun p => inPB n p m) = true ∧ holdsB n ms m = false := by
  have hG := drawn_ms h ht
  have hT : ∀ g ∈ ms, ∀ i, i < n → gI g i ≤ (top : Int) := fun g hg i hi => (drawn_gI h hg hi).2
  have hkp : (partsL n ms)[k]? = some (partsL n ms)[k] := List.getElem?_eq_getElem hk
  obtain ⟨c, hc, ec⟩ := (parts_mem hG _).mp (List.mem_of_getElem? hkp)
  obtain ⟨w1, w2⟩ := wit_box (top := (top : Int)) (by omega) hT hc
  refine ⟨witC top c, box_mem.mpr ⟨w1, w2⟩, ?_, ?_⟩
  · rw [List.all_eq_true]
    intro p hp
    have hpm : p ∈ partsL n ms := by
      rcases List.mem_append.mp hp with z | z
      · exact List.mem_of_mem_take z
      · exact List.mem_of_mem_drop z
    obtain ⟨d, hd, rfl⟩ := (parts_mem hG p).mp hpm
    refine inPB_iff.mpr (wit_in hT hc hd fun e => ?_)
    subst e
    have nd := parts_nodup hG
    have sp : partsL n ms = (partsL n ms).take k ++ (partsL n ms)[k] :: (partsL n ms).drop (k + 1) := by
      rw [List.getElem_cons_drop, List.take_append_drop]
    rw [sp, List.nodup_append] at nd
    obtain ⟨n1, n2, n3⟩ := nd
    rcases List.mem_append.mp hp with z | z
    · exact n3 _ z _ List.mem_cons_self ec.symm
    · rw [← ec] at z
      exact (List.nodup_cons.mp n2).1 z
  · have := wit_out (top := (top : Int)) (by omega) hT hc
    rw [← holdsB_iff] at this
    simpa using this
/-- the law's own way to the parts -/
def dueB (n top : Nat) (ms : List (List Int)) (b : List Int) : Bool := (ms.all fun g => inPB n b g) && (List.range n).all fun i => !decide (0 < gI b i) || !(ms.all fun g => inPB n (raiseP top b i) g)
theorem dueB_iff {b : List Int} : dueB n top ms b = true ↔ DueP n top ms b := by
  unfold dueB DueP
  rw [Bool.and_eq_true, List.all_eq_true, List.all_eq_true]
  refine ⟨fun ⟨a, c⟩ => ⟨fun g hg => inPB_iff.mp (a g hg), fun i hi h0 hall => ?_⟩, fun ⟨a, c⟩ => ⟨fun g hg => inPB_iff.mpr (a g hg), fun i hi => ?_⟩⟩
  · have q := c i (List.mem_range.mpr hi)
    rw [decide_eq_true h0, Bool.not_true, Bool.false_or, Bool.not_eq_true', ← Bool.not_eq_true] at q
    exact q (List.all_eq_true.mpr fun g hg => inPB_iff.mpr (hall g hg))
  · by_cases h0 : 0 < gI b i
    · rw [decide_eq_true h0, Bool.not_true, Bool.false_or, Bool.not_eq_true', ← Bool.not_eq_true]
      intro hall
      exact c i (List.mem_range.mp hi) h0 fun g hg => inPB_iff.mp (List.all_eq_true.mp hall g hg)
    · rw [decide_eq_false h0]; rfl
theorem law_due (h : DrawnOk n top ms) (ht : top ≤ 8) : ((boxL top n).filter (dueB n top ms)).mergeSort leR = partsL n ms := by
  have hG := drawn_ms h ht
  refine parts_sort _ (perm_of_mem ((box_nodup n).filter _) (parts_nodup hG) fun x => ?_)
  rw [List.mem_filter, dueB_iff, parts_mem hG]
  constructor
  · rintro ⟨hb, hd⟩
    obtain ⟨b1, b2⟩ := box_mem.mp hb
    exact (due_iff (top := (top : Int)) (by omega) (by omega) hG (fun g hg i hi => (drawn_gI h hg hi).2) b1 b2).mp hd
  · intro hx
    obtain ⟨b1, b2⟩ := parts_box h ht ((parts_mem hG x).mpr hx)
    exact ⟨box_mem.mpr ⟨b1, b2⟩, (due_iff (top := (top : Int)) (by omega) (by omega) hG (fun g hg i hi => (drawn_gI h hg hi).2) b1 b2).mpr hx⟩
end

/-! ### the law: what stands; equal lists of rows -/
section
variable {P : Program} {w : World} {K : PySem.W.Frag} {mg : Str → Option Value} {base : Heap}
theorem al_row {H : Hp} {a b : Addr} {l : List Int} (ha : SqT K H a (l.map V.int)) (hb : SqT K H b (l.map V.int)) (hz : l.length ≤ 100000) : Al K 1 H (.ref a) (.ref b) := by
  refine .tup ha hb rfl (by rw [List.length_map]; exact hz) fun i x y hx hy H' _ => ?_
  rw [hx] at hy
  cases hy
  obtain ⟨_, rfl⟩ := gI_of hx
  exact .int _ _ _
theorem al_rows {H : Hp} {a b : Addr} {xs ys : List V} {ls : List (List Int)} (ha : SqT K H a xs) (hb : SqT K H b ys) (dx : DpAll K H xs (ls.map rD)) (dy : DpAll K H ys (ls.map rD)) (hz : ls.length ≤ 100000) (hl : ∀ l ∈ ls, l.length ≤ 100000) : Al K 2 H (.ref a) (.ref b) := by
  have h1 : xs.length = ls.length := by have := Toy.DpAll.len dx; rwa [List.length_map] at this
  have h2 : ys.length = ls.length := by have := Toy.DpAll.len dy; rwa [List.length_map] at this
  refine .tup ha hb (by omega) (by omega) fun i x y hx hy H' s => ?_
  obtain ⟨p, l, hl1, rfl, hp⟩ := row_at dx hx
  obtain ⟨q, l', hl2, rfl, hq⟩ := row_at dy hy
  rw [hl1] at hl2
  cases hl2
  exact al_row (Toy.Same.tup s hp) (Toy.Same.tup s hq) (hl l (List.mem_of_getElem? hl1))
/-- what stands throughout -/
structure LS (t : TabsAt) (K : PySem.W.Frag) (r sa : Addr) (ns : List Int) (n top : Nat) (ms : List (List Int)) (am af pb : Addr) (H : Hp) : Prop where
  row : RowAt K H r sa ns
  ts : TS t H
  hm : Dp K H (.ref am) (rsD ms)
  hf : Dp K H (.ref af) (rsD (partsL n ms))
  hb : ∃ bs, H pb = some (.lst bs) ∧ DpAll K H bs ((boxL top n).map rD)
  nb : pb ≠ r
theorem tOnly_rsD (ls : List (List Int)) : tOnly (rsD ls) = true := tOnly_rows ls
theorem LS.step {t : TabsAt} {r sa : Addr} {ns : List Int} {n top : Nat} {ms : List (List Int)} {am af pb : Addr} {H H' : Hp} (S : LS t K r sa ns n top ms am af pb H) (k : LK t K r sa ns H H') : LS t K r sa ns n top ms am af pb H' := by
  have tp := LK.tp S.row k
  obtain ⟨bs, b1, b2⟩ := S.hb
  exact ⟨k.row, k.ts, Dp.tp tp _ _ (tOnly_rsD ms) S.hm, Dp.tp tp _ _ (tOnly_rsD _) S.hf, ⟨bs, k.keep _ _ S.nb b1 (fun _ z => nomatch z), DpAll.tp tp _ _ (tOnly_rows _) b2⟩, S.nb⟩
theorem LS.same {t : TabsAt} {r sa : Addr} {ns : List Int} {n top : Nat} {ms : List (List Int)} {am af pb : Addr} {H H' : Hp} (S : LS t K r sa ns n top ms am af pb H) (s : Same H H') : LS t K r sa ns n top ms am af pb H' := S.step (LK.same S.row S.ts s)
/-- [x for x in rows if p(x)]: the rows that a test keeps -/
theorem lc_rows {J : It} {G : Hp → Prop} {xs : List V} {rows : List (List Int)} {p : List Int → Bool} {σ : L2.St} {vs : List Nat} {i : Nat} {tt : TT} {H1 : Hp} {D : Addr} {Qd : Hp → Prop}
    (w : Walk J xs.length G (YAt xs)) (hG : ∀ H', Same H1 H' → G H') (hd : DpAll K H1 xs (rows.map rD)) (hD : H1 D = none) (hl : xs.length ≤ 100000)
    (hi : ∀ v, ((wipe σ vs).set i (some v))[i]? = some (some v)) (hvs : ∀ v, wipe ((wipe σ vs).set i (some v)) vs = wipe σ vs)
    (htt : ∀ (ag : Addr) (g : List Int) (H3 : Hp) (Qb : Bool → Hp → Prop), g ∈ rows → SqT K H3 ag (g.map V.int) → Same H1 H3 → (∀ H4, Same H3 H4 → Qb (p g) H4) → tt ((wipe σ vs).set i (some (.ref ag))) H3 Qb)
    (hend : ∀ H' zs, Same H1 H' → H' D = some (.lst zs) → DpAll K H' zs ((rows.filter p).map rD) → Qd H') :
    ∃ W : Nat → Nat → Hp → Prop, (∃ m, W 0 m (upd H1 D (.lst []))) ∧ ∀ j m H, W j m H →
      (J.stop j H ∧ Qd H) ∨ (J.go j H ∧ ∃ Nx : Hp → Prop, (∀ H', Nx H' → ∃ m', m' < m ∧ W (j + 1) m' H') ∧ ∀ x H', J.yld j H x H' → gName i x (wipe σ vs) H' fun σ2 H2 => wipe σ2 vs = wipe σ vs ∧ tt σ2 H2 fun b H3 =>
        if b = true then tVar i σ2 H3 fun y H4 => ∃ acc, H4 D = some (.lst acc) ∧ acc.length < sizeLine ∧ Nx (upd H4 D (.lst (acc ++ [y]))) else Nx H3) := by
  have hbig : 100000 < sizeLine := by decide
  have hxl : xs.length = rows.length := by have := Toy.DpAll.len hd; rwa [List.length_map] at this
  refine lc_it w (fun j H' => ∃ zs : List V, Same H1 H' ∧ H' D = some (.lst zs) ∧ zs.length ≤ j ∧ DpAll K H' zs (((rows.take j).filter p).map rD)) ⟨[], same_upd hD, upd_same, Nat.le_refl _, .nil⟩ (fun j H' _ q => ?_) (fun j x Ha Hb hj q y => ?_) (fun H' q => ?_)
  · obtain ⟨zs, q1, _⟩ := q
    exact hG _ q1
  · obtain ⟨zs, q1, q2, q3, q4⟩ := q
    obtain ⟨rfl, ey⟩ := y
    obtain ⟨ag, g, hg, rfl, hag⟩ := row_at hd ey
    have et : rows.take (j + 1) = rows.take j ++ [g] := by rw [List.take_add_one, hg]; rfl
    refine ⟨hvs _, htt ag g Hb _ (List.mem_of_getElem? hg) (Toy.Same.tup q1 hag) q1 fun H4 s4 => ?_⟩
    have z4 := s4 _ _ q2
    refine iteB (fun hb => ?_) (fun hb => ?_)
    · refine ⟨_, hi _, zs, z4, by omega, zs ++ [.ref ag], fun b' v e => ?_, upd_same, by simp; omega, ?_⟩
      · rw [upd_ne (ne_of_none e hD)]
        exact s4 _ _ (q1 _ _ e)
      · have ef : [g].filter p = [g] := by simp [hb]
        rw [et, List.filter_append, ef, List.map_append]
        exact DpAll.tp (tp_lst z4) _ _ (by rw [← List.map_append]; exact tOnly_rows _) (dpAll_snoc (DpAll.same s4 _ _ q4) (dp_ints (Toy.Same.tup (Same.trans q1 s4) hag)))
    · have ef : [g].filter p = [] := by simp [hb]
      refine ⟨zs, Same.trans q1 s4, z4, by omega, ?_⟩
      rw [et, List.filter_append, ef, List.append_nil]
      exact DpAll.same s4 _ _ q4
  · obtain ⟨zs, q1, q2, q3, q4⟩ := q
    rw [hxl, List.take_length] at q4
    exact hend H' zs q1 q2 q4
theorem dpAll_empty {H : Hp} {zs : List V} {ls : List (List Int)} (h : DpAll K H zs (ls.map rD)) : zs.isEmpty = ls.isEmpty := by
  cases ls with
  | nil => cases h; rfl
  | cons a l => cases h; rfl
theorem filter_empty {α : Type} {p : α → Bool} {l : List α} : (l.filter p).isEmpty = l.all fun x => !p x := by
  induction l with
  | nil => rfl
  | cons a l ih =>
    rw [List.filter_cons, List.all_cons]
    cases h : p a <;> simp [ih]
end

/-! ### least generators, exactly; witnesses: the mathematics -/
theorem sum_le_eq : ∀ {a b : List Int}, a.length = b.length → (∀ i, i < a.length → gI a i ≤ gI b i) → b.sum ≤ a.sum → a = b
  | [], [], _, _, _ => rfl
  | [], _ :: _, h, _, _ => by simp at h
  | _ :: _, [], h, _, _ => by simp at h
  | x :: a, y :: b, hl, h, hs => by
    have h0 : x ≤ y := h 0 (by simp)
    have ht : ∀ i, i < a.length → gI a i ≤ gI b i := fun i hi => h (i + 1) (by simp; omega)
    have key : ∀ {a b : List Int}, a.length = b.length → (∀ i, i < a.length → gI a i ≤ gI b i) → a.sum ≤ b.sum := by
      intro a
      induction a with
      | nil => intro b hl _; cases b with
        | nil => exact Int.le_refl _
        | cons _ _ => simp at hl
      | cons x a ih =>
        intro b hl h
        cases b with
        | nil => simp at hl
        | cons y b =>
          have h0 : x ≤ y := h 0 (by simp)
          have := ih (b := b) (by simpa using hl) fun i hi => h (i + 1) (by simp; omega)
          rw [List.sum_cons, List.sum_cons]
          omega
    have hl' : a.length = b.length := by simpa using hl
    have hk := key hl' ht
    rw [List.sum_cons, List.sum_cons] at hs
    have e1 : x = y := by omega
    rw [e1, sum_le_eq hl' ht (by omega)]
/-- least in a lot -/
def MinIn (n : Nat) (l : List (List Int)) (x : List Int) : Prop := x ∈ l ∧ ∀ y ∈ l, (∀ i, i < n → gI y i ≤ gI x i) → y = x
theorem keep_min {n : Nat} : ∀ (rest don kept : List (List Int)), (∀ x ∈ don ++ rest, x.length = n) → (don ++ rest).Pairwise (fun a b => a.sum ≤ b.sum) → kept.Nodup → (∀ x, x ∈ kept ↔ MinIn n don x) → (∀ g ∈ don, ∃ l ∈ kept, ∀ i, i < n → gI l i ≤ gI g i) →
    (rest.foldl (keepL n) kept).Nodup ∧ ∀ x, x ∈ rest.foldl (keepL n) kept ↔ MinIn n (don ++ rest) x
  | [], don, kept, _, _, h1, h2, _ => by rw [List.append_nil]; exact ⟨h1, h2⟩
  | m :: rest, don, kept, hlen, hs, h1, h2, h3 => by
    have e : don ++ m :: rest = (don ++ [m]) ++ rest := by rw [List.append_assoc]; rfl
    have hsm : ∀ x ∈ don, x.sum ≤ m.sum := fun x hx => (List.pairwise_append.mp hs).2.2 x hx m List.mem_cons_self
    have lm : m.length = n := hlen m (List.mem_append_right _ List.mem_cons_self)
    have ld : ∀ x ∈ don, x.length = n := fun x hx => hlen x (List.mem_append_left _ hx)
    have mx : ∀ x ∈ don, (∀ i, i < n → gI m i ≤ gI x i) → m = x := fun x hx hle => sum_le_eq (by rw [lm, ld x hx]) (fun i hi => hle i (by rw [← lm]; exact hi)) (hsm x hx)
    rw [e] at hlen hs ⊢
    show (rest.foldl (keepL n) (keepL n kept m)).Nodup ∧ ∀ x, x ∈ rest.foldl (keepL n) (keepL n kept m) ↔ _
    by_cases hk : (kept.any fun e => divB n e m) = true
    · have ek : keepL n kept m = kept := by unfold keepL; rw [if_pos hk]
      obtain ⟨d, hd, hdm⟩ := List.any_eq_true.mp hk
      rw [div_iff] at hdm
      rw [ek]
      refine keep_min rest (don ++ [m]) kept hlen hs h1 (fun x => ?_) (fun g hg => ?_)
      · rw [h2]
        constructor
        · rintro ⟨hx, hmin⟩
          refine ⟨List.mem_append_left _ hx, fun y hy hle => ?_⟩
          rcases List.mem_append.mp hy with z | z
          · exact hmin y z hle
          · rw [List.mem_singleton.mp z] at hle ⊢
            exact mx x hx hle
        · rintro ⟨hx, hmin⟩
          have hxd : x ∈ don := by
            rcases List.mem_append.mp hx with z | z
            · exact z
            · rw [List.mem_singleton.mp z] at hmin ⊢
              have hdd := ((h2 d).mp hd).1
              rw [← hmin d (List.mem_append_left _ hdd) hdm]
              exact hdd
          exact ⟨hxd, fun y hy hle => hmin y (List.mem_append_left _ hy) hle⟩
      · rcases List.mem_append.mp hg with z | z
        · exact h3 g z
        · rw [List.mem_singleton.mp z]
          exact ⟨d, hd, hdm⟩
    · have ek : keepL n kept m = kept ++ [m] := by unfold keepL; rw [if_neg hk]
      have hno : ∀ d ∈ kept, ¬ ∀ i, i < n → gI d i ≤ gI m i := fun d hd hle => hk (List.any_eq_true.mpr ⟨d, hd, div_iff.mpr hle⟩)
      rw [ek]
      refine keep_min rest (don ++ [m]) (kept ++ [m]) hlen hs ?_ (fun x => ?_) (fun g hg => ?_)
      · rw [List.nodup_append]
        refine ⟨h1, by simp, fun x hx y hy exy => ?_⟩
        rw [List.mem_singleton.mp hy] at exy
        subst exy
        exact hno x hx fun i _ => Int.le_refl _
      · rw [List.mem_append, h2]
        constructor
        · rintro (⟨hx, hmin⟩ | hx)
          · refine ⟨List.mem_append_left _ hx, fun y hy hle => ?_⟩
            rcases List.mem_append.mp hy with z | z
            · exact hmin y z hle
            · rw [List.mem_singleton.mp z] at hle ⊢
              exact mx x hx hle
          · rw [List.mem_singleton.mp hx]
            refine ⟨List.mem_append_right _ (List.mem_singleton.mpr rfl), fun y hy hle => ?_⟩
            rcases List.mem_append.mp hy with z | z
            · obtain ⟨d, hd, hdy⟩ := h3 y z
              exact absurd (fun i hi => Int.le_trans (hdy i hi) (hle i hi)) (hno d hd)
            · exact List.mem_singleton.mp z
        · rintro ⟨hx, hmin⟩
          rcases List.mem_append.mp hx with z | z
          · exact .inl ⟨z, fun y hy hle => hmin y (List.mem_append_left _ hy) hle⟩
          · exact .inr z
      · rcases List.mem_append.mp hg with z | z
        · obtain ⟨d, hd, hle⟩ := h3 g z
          exact ⟨d, List.mem_append_left _ hd, hle⟩
        · exact ⟨m, List.mem_append_right _ (List.mem_singleton.mpr rfl), fun i hi => by rw [List.mem_singleton.mp z]; exact Int.le_refl _⟩
theorem leS_total : PySem.W.TotalLe leS := PySem.W.sortLe_total _ false _
theorem leS_sum (a b : List Int) : leS a b = decide (a.sum ≤ b.sum) := by
  unfold leS
  rw [PySem.W.dataLe_int]
theorem least_min {n : Nat} {ms : List (List Int)} (h : ∀ m ∈ ms, m.length = n) : (leastF n ms).Nodup ∧ ∀ x, x ∈ leastF n ms ↔ MinIn n ms x := by
  have hp := List.mergeSort_perm ms leS
  have hpw : (ms.mergeSort leS).Pairwise fun a b => a.sum ≤ b.sum := List.Pairwise.imp (fun h => by rw [leS_sum, decide_eq_true_eq] at h; exact h) (PySem.W.sort_pairwise leS_total ms)
  obtain ⟨h1, h2⟩ := keep_min (n := n) (ms.mergeSort leS) [] [] (fun x hx => h x (hp.mem_iff.mp hx)) hpw List.nodup_nil (fun x => ⟨fun z => (by cases z), fun z => (by cases z.1)⟩) (fun g hg => (by cases hg))
  refine ⟨h1, fun x => (h2 x).trans ?_⟩
  unfold MinIn
  simp only [List.nil_append, hp.mem_iff]
/-- the least ones, in order -/
def minS (n : Nat) (ms : List (List Int)) : List (List Int) := (leastF n ms).mergeSort leR
/-- the law's own way -/
theorem law_min {n : Nat} {ms s : List (List Int)} (h : ∀ m ∈ ms, m.length = n) (hs : s.Pairwise fun a b => leR a b = true) (nd : s.Nodup) (hm : ∀ x, x ∈ s ↔ x ∈ ms) :
    s.filter (fun x => s.all fun y => !(decide (y ≠ x) && divB n y x)) = minS n ms := by
  obtain ⟨h1, h2⟩ := least_min h
  refine List.Perm.eq_of_pairwise (le := fun a b => leR a b = true) (fun a b _ _ h1 h2 => leR_anti h1 h2) (hs.filter _) (PySem.W.sort_pairwise leR_total _) ?_
  refine (perm_of_mem (nd.filter _) h1 fun x => ?_).trans (List.mergeSort_perm _ _).symm
  rw [h2, List.mem_filter, hm, List.all_eq_true]
  unfold MinIn
  refine and_congr_right fun _ => ⟨fun z y hy hle => ?_, fun z y hy => ?_⟩
  · have q := z y ((hm y).mpr hy)
    rw [Bool.not_eq_true', div_iff.mpr hle, Bool.and_true, decide_eq_false_iff_not] at q
    exact Classical.byContradiction fun c => q c
  · rw [Bool.not_eq_true', Bool.and_eq_false_iff]
    by_cases hd : divB n y x = true
    · exact .inl (by rw [decide_eq_false_iff_not]; exact fun c => c (z y ((hm y).mp hy) (div_iff.mp hd)))
    · exact .inr (by simpa using hd)
/-! witnesses -/
def leftZ (n : Nat) (g v : List Int) : List Int := (List.range n).map fun i => if 0 > gI g i - gI v i then 0 else gI g i - gI v i
def unitV (n p : Nat) : List Int := (List.range n).map fun k => if k = p then 1 else 0
def unitsOf (n : Nat) (S : List Int) : List (List Int) := S.map fun p => unitV n p.toNat
def suppI (n : Nat) (c : List Int) : List Int := ((List.range n).filter fun i => decide (gI c i < 1000)).map fun (i : Nat) => (i : Int)
def PlacesOk (n : Nat) (S : List Int) : Prop := S.Pairwise (· < ·) ∧ ∀ p ∈ S, 0 ≤ p ∧ p < n
def showsB (n : Nat) (ms : List (List Int)) (S v : List Int) : Bool := decide (minS n (ms.map fun g => leftZ n g v) = (unitsOf n S).mergeSort leR)
theorem gI_left {n : Nat} {g v : List Int} {i : Nat} (h : i < n) : gI (leftZ n g v) i = if 0 > gI g i - gI v i then 0 else gI g i - gI v i := by
  unfold leftZ
  conv => lhs; unfold gI
  rw [List.getD_eq_getElem?_getD, List.getElem?_map, List.getElem?_range h]; rfl
theorem gI_unit {n p i : Nat} (h : i < n) : gI (unitV n p) i = if i = p then 1 else 0 := by
  unfold unitV
  conv => lhs; unfold gI
  rw [List.getD_eq_getElem?_getD, List.getElem?_map, List.getElem?_range h]; rfl
theorem len_left {n : Nat} {g v : List Int} : (leftZ n g v).length = n := by unfold leftZ; simp
theorem len_unit {n p : Nat} : (unitV n p).length = n := by unfold unitV; simp
theorem units_nodup {n : Nat} {S : List Int} (h : PlacesOk n S) : (unitsOf n S).Nodup := by
  unfold unitsOf
  refine List.pairwise_map.mpr (List.Pairwise.imp_of_mem ?_ h.1)
  intro a b ha hb hab e
  have h1 := h.2 a ha
  have h2 := h.2 b hb
  have q : gI (unitV n a.toNat) a.toNat = gI (unitV n b.toNat) a.toNat := by rw [e]
  rw [gI_unit (by omega), gI_unit (by omega), if_pos rfl] at q
  by_cases z : a.toNat = b.toNat
  · omega
  · rw [if_neg z] at q; cases q
theorem shows_iff {n : Nat} {ms : List (List Int)} {S v : List Int} (h : PlacesOk n S) : showsB n ms S v = true ↔ ∀ x, MinIn n (ms.map fun g => leftZ n g v) x ↔ ∃ p ∈ S, x = unitV n p.toNat := by
  have hl : ∀ m ∈ ms.map (fun g => leftZ n g v), m.length = n := fun m hm => by
    obtain ⟨g, _, rfl⟩ := List.mem_map.mp hm
    exact len_left
  obtain ⟨h1, h2⟩ := least_min hl
  have hu : ∀ x, x ∈ unitsOf n S ↔ ∃ p ∈ S, x = unitV n p.toNat := fun x => by
    unfold unitsOf
    rw [List.mem_map]
    exact ⟨fun ⟨p, hp, e⟩ => ⟨p, hp, e.symm⟩, fun ⟨p, hp, e⟩ => ⟨p, hp, e.symm⟩⟩
  unfold showsB minS
  rw [decide_eq_true_eq]
  constructor
  · intro e x
    rw [← h2, ← hu, ← (List.mergeSort_perm (leastF n _) leR).mem_iff, e, (List.mergeSort_perm _ _).mem_iff]
  · intro e
    exact sort_perm (perm_of_mem h1 (units_nodup h) fun x => by rw [h2, hu, e])
theorem supp_mem {n : Nat} {c : List Int} {p : Int} : p ∈ suppI n c ↔ ∃ i, i < n ∧ gI c i < 1000 ∧ p = (i : Nat) := by
  unfold suppI
  rw [List.mem_map]
  constructor
  · rintro ⟨i, hi, rfl⟩
    have := List.mem_filter.mp hi
    exact ⟨i, List.mem_range.mp this.1, by simpa using this.2, rfl⟩
  · rintro ⟨i, hi, hc, rfl⟩
    exact ⟨i, List.mem_filter.mpr ⟨List.mem_range.mpr hi, by simpa using hc⟩, rfl⟩
theorem supp_ok {n : Nat} {c : List Int} : PlacesOk n (suppI n c) := by
  refine ⟨?_, fun p hp => ?_⟩
  · unfold suppI
    refine List.pairwise_map.mpr (List.Pairwise.imp ?_ (List.Pairwise.filter _ (List.pairwise_lt_range (n := n))))
    intro a b h
    omega
  · obtain ⟨i, hi, _, rfl⟩ := supp_mem.mp hp
    omega
theorem places_ext {n : Nat} {S R : List Int} (h1 : PlacesOk n S) (h2 : PlacesOk n R) (h : ∀ p, p ∈ S ↔ p ∈ R) : S = R := by
  refine List.Perm.eq_of_pairwise (le := fun a b : Int => a < b) (fun a b _ _ x y => by omega) h1.1 h2.1 ?_
  refine perm_of_mem ?_ ?_ h
  · exact List.Pairwise.imp (fun h => by omega) h1.1
  · exact List.Pairwise.imp (fun h => by omega) h2.1
/-- a corner's own monomial shows it -/
theorem corner_shows {n : Nat} {ms : List (List Int)} {c v : List Int} (hG : MsOk n ms) (hc : Corner n ms c) (hv : ∀ i, i < n → gI v i = gI c i - 1 ∨ (¬ gI c i < 1000 ∧ ∀ g ∈ ms, gI g i ≤ gI v i)) (hb : ∀ i, i < n → gI c i < 1000 → gI v i = gI c i - 1) : showsB n ms (suppI n c) v = true := by
  rw [shows_iff supp_ok]
  have lo : ∀ g ∈ ms, ∃ i, i < n ∧ gI c i < 1000 ∧ 1 ≤ gI (leftZ n g v) i := fun g hg => by
    obtain ⟨i, hi, hle⟩ := hc.F g hg
    have h1 := (hG g hg).2 i hi
    refine ⟨i, hi, by omega, ?_⟩
    rw [gI_left hi, hb i hi (by omega), if_neg (by omega)]
    omega
  have guard : ∀ k, k < n → gI c k < 1000 → unitV n k ∈ ms.map fun g => leftZ n g v := fun k hk hck => by
    obtain ⟨g, hg, e1, e2⟩ := hc.B k hk hck
    refine List.mem_map.mpr ⟨g, hg, gI_ext len_left len_unit fun i hi => ?_⟩
    rw [gI_left hi, gI_unit hi]
    by_cases e : i = k
    · rw [if_pos e, e, hb k hk hck, e1, if_neg (by omega)]
      omega
    · rw [if_neg e]
      have h3 := e2 i hi e
      rcases hv i hi with z | ⟨z, z2⟩
      · rw [z]
        split <;> omega
      · have := z2 g hg
        split <;> omega
  have nn : ∀ g, ∀ i, i < n → 0 ≤ gI (leftZ n g v) i := fun g i hi => by rw [gI_left hi]; split <;> omega
  intro x
  constructor
  · rintro ⟨hx, hmin⟩
    obtain ⟨g, hg, rfl⟩ := List.mem_map.mp hx
    obtain ⟨i, hi, hci, h1⟩ := lo g hg
    refine ⟨(i : Nat), supp_mem.mpr ⟨i, hi, hci, rfl⟩, ?_⟩
    rw [Int.toNat_natCast]
    refine (hmin _ (guard i hi hci) fun j hj => ?_).symm
    rw [gI_unit hj]
    by_cases e : j = i
    · rw [if_pos e, e]; exact h1
    · rw [if_neg e]; exact nn g j hj
  · rintro ⟨p, hp, rfl⟩
    obtain ⟨k, hk, hck, rfl⟩ := supp_mem.mp hp
    rw [Int.toNat_natCast]
    refine ⟨guard k hk hck, fun y hy hle => ?_⟩
    obtain ⟨g, hg, rfl⟩ := List.mem_map.mp hy
    obtain ⟨i, hi, hci, h1⟩ := lo g hg
    refine gI_ext len_left len_unit fun j hj => ?_
    have hj1 := hle j hj
    have hj2 := nn g j hj
    have hi1 := hle i hi
    rw [gI_unit hi] at hi1
    have eik : i = k := by
      by_cases e : i = k
      · exact e
      · rw [if_neg e] at hi1; omega
    rw [gI_unit hj] at hj1 ⊢
    by_cases e : j = k
    · rw [if_pos e] at hj1 ⊢
      rw [eik] at h1
      rw [e] at hj1 ⊢
      omega
    · rw [if_neg e] at hj1 ⊢
      omega
/-- what is shown is a corner's -/
theorem shows_corner {n : Nat} {ms : List (List Int)} {S v : List Int} (hG : MsOk n ms) (hS : PlacesOk n S) (hv : ∀ i, i < n → 0 ≤ gI v i ∧ gI v i < 900) (h : showsB n ms S v = true) : ∃ c, Corner n ms c ∧ suppI n c = S := by
  rw [shows_iff hS] at h
  have gc : ∀ i, i < n → gI ((List.range n).map fun (i : Nat) => if (i : Int) ∈ S then gI v i + 1 else 1000) i = if (i : Int) ∈ S then gI v i + 1 else 1000 := fun i hi => by
    conv => lhs; unfold gI
    rw [List.getD_eq_getElem?_getD, List.getElem?_map, List.getElem?_range hi]; rfl
  have hll : ∀ m ∈ ms.map (fun g => leftZ n g v), m.length = n := fun m hm => by
    obtain ⟨g, _, rfl⟩ := List.mem_map.mp hm
    exact len_left
  refine ⟨(List.range n).map fun (i : Nat) => if (i : Int) ∈ S then gI v i + 1 else 1000, ⟨by simp, fun i hi => ?_, fun g hg => ?_, fun k hk hck => ?_⟩, ?_⟩
  · rw [gc i hi]
    have := hv i hi
    split <;> omega
  · obtain ⟨l, hl, hle⟩ := least_all (n := n) (List.mem_map.mpr ⟨g, hg, rfl⟩ : leftZ n g v ∈ ms.map fun g => leftZ n g v)
    obtain ⟨p, hp, rfl⟩ := (h l).mp (((least_min hll).2 l).mp hl)
    have h1 := hS.2 p hp
    have h2 := hle p.toNat (by omega)
    rw [gI_unit (by omega), if_pos rfl, gI_left (by omega)] at h2
    refine ⟨p.toNat, by omega, ?_⟩
    rw [gc _ (by omega), if_pos (by rw [show ((p.toNat : Nat) : Int) = p by omega]; exact hp)]
    split at h2 <;> omega
  · rw [gc k hk] at hck ⊢
    have hkS : (k : Int) ∈ S := by
      by_cases e : (k : Int) ∈ S
      · exact e
      · rw [if_neg e] at hck; omega
    obtain ⟨hx, _⟩ := (h (unitV n k)).mpr ⟨(k : Int), hkS, by rw [Int.toNat_natCast]⟩
    obtain ⟨g, hg, e⟩ := List.mem_map.mp hx
    have ev : ∀ i, i < n → (if 0 > gI g i - gI v i then 0 else gI g i - gI v i) = if i = k then 1 else 0 := fun i hi => by rw [← gI_left hi, ← gI_unit hi, e]
    refine ⟨g, hg, ?_, fun j hj hjk => ?_⟩
    · have q := ev k hk
      rw [if_pos rfl] at q
      rw [if_pos hkS]
      split at q <;> omega
    · have q := ev j hj
      rw [if_neg hjk] at q
      rw [gc j hj]
      have h3 := (hG g hg).2 j hj
      by_cases e : (j : Int) ∈ S
      · rw [if_pos e]; split at q <;> omega
      · rw [if_neg e]; omega
  · refine places_ext supp_ok hS fun p => ?_
    rw [supp_mem]
    constructor
    · rintro ⟨i, hi, hc, rfl⟩
      rw [gc i hi] at hc
      by_cases e : (i : Int) ∈ S
      · exact e
      · rw [if_neg e] at hc; omega
    · intro hp
      have h1 := hS.2 p hp
      refine ⟨p.toNat, by omega, ?_, by omega⟩
      rw [gc _ (by omega), if_pos (by rw [show ((p.toNat : Nat) : Int) = p by omega]; exact hp)]
      have := hv p.toNat (by omega)
      omega

/-! ### least ones in order, what is left over, supports -/
theorem places_le {n : Nat} {S : List Int} (h : PlacesOk n S) : S.length ≤ n := by
  have h1 : S.Nodup := List.Pairwise.imp (fun h => by omega) h.1
  have h2 := nodup_len (m := (List.range n).map fun (i : Nat) => (i : Int)) h1 fun x hx => by
    have := h.2 x hx
    exact List.mem_map.mpr ⟨x.toNat, List.mem_range.mpr (by omega), by omega⟩
  rwa [List.length_map, List.length_range] at h2
section
variable {P : Program} {w : World} {K : PySem.W.Frag} {mg : Str → Option Value} {base : Heap}
def sp_ascending_least (t : TabsAt) (K : PySem.W.Frag) : Sp := fun vs H Q _ => ∃ (l : Addr) (n : Nat) (xs : List V) (ms : List (List Int)), vs = [.ref l] ∧ (SqL K H l xs ∨ SqT K H l xs) ∧ DpAll K H xs (ms.map rD) ∧ (∀ g ∈ ms, g.length = n) ∧ 1 ≤ n ∧ ms.length ≤ 1000 ∧ TS t H ∧
  ∀ p H', Ex t H H' → Dp K H' (.ref p) (rsD (minS n ms)) → Q (.ref p) H'
theorem ok_ascending_least (T : Txt K mg) {t : TabsAt} (B : TBs T base t) : FnOk P w K mg base CX0 15 T.ascending_least.f T.ascending_least.fd P_ascending_least (sp_ascending_least t K) := by
  refine T.ascending_least.F.ok sc_ascending_least (fun vs H Q E h => ?_) (fun cdv A outer s H vs Q E hr h => ?_)
  · obtain ⟨l, n, xs, ms, rfl, _⟩ := h; rfl
  · obtain ⟨l, n, xs, ms, rfl, hl, hms, hgl, hn1, hlen, ts, kk⟩ := h
    refine ⟨_, (pss_one (ps_ret (pe_callTy (r := rTupOf K) call_tuple_of rfl T.n_tuple bo_tuple (pa_cons (pe_callB (r := rSortedD K) (cr_sortedD hr.units) rfl T.n_sorted bo_sorted (pa_cons (pe_call (ok_least_ones T B) (hr.mono (by decide)) rfl T.least_ones.g T.least_ones.F.kp (b_least_ones T) .nil pass0 (pa_cons (pv 0) pa_nil)) pa_nil)) pa_nil)))), ?_⟩
    walk_at "rd"
    refine ⟨l, n, xs, ms, rfl, hl, hms, hgl, hlen, ts, fun p H1 ys x1 np e1 d1 => ?_⟩
    walk_at "rd"
    delta tNil
    show rSortedD K [V.ref p] H1 _
    refine sorted_rows (.inl (.inl e1)) d1 (fun c hc e => ?_) fun p2 zs' hp dz => ?_
    · have := hgl c (least_mem hc)
      rw [e] at this
      simp at this
      omega
    · walk_at "rd"
      refine ⟨p2, zs', rfl, .inl ⟨.inl (.inl upd_same), fun l hl => ?_⟩⟩
      exact kk l _ (x1.same (Same.trans (same_upd hp) (same_upd hl))) (.tup (.inl (.inl upd_same)) (DpAll.same (same_upd hl) _ _ dz))
def sp_support (K : PySem.W.Frag) : Sp := fun vs H Q _ => ∃ (a : Addr) (c : List Int) (n : Nat), vs = [.ref a] ∧ SqT K H a (c.map V.int) ∧ c.length = n ∧ n ≤ 8 ∧ ∀ p H', Same H H' → H' p = some (.tup ((suppI n c).map V.int)) → Q (.ref p) H'
theorem ok_support (T : Txt K mg) : FnOk P w K mg base CX0 1 T.support.f T.support.fd P_support (sp_support K) := by
  refine T.support.F.ok sc_support (fun vs H Q E h => ?_) (fun cdv A outer s H vs Q E hr h => ?_)
  · obtain ⟨a, c, n, rfl, _⟩ := h; rfl
  · obtain ⟨a, c, n, rfl, ha, hc, hn, kk⟩ := h
    have hbig : 8 < sizeLine := by decide
    have hz : (c.map V.int).length = n := by rw [List.length_map]; exact hc
    refine ⟨_, (pss_one (ps_ret (pe_callTy (r := rTupOf K) call_tuple_of rfl T.n_tuple bo_tuple (pa_cons (pe_lc (own := [("place", 1), ("bound", 2)]) rfl sc_support.nd (pi_enumT rfl T.n_enumerate (pa_cons (pv 0) pa_nil)) (blkOk_by (own := [("place", 1), ("bound", 2)]) (N := N_support) (sc := defScope s_support) (by decide +kernel)) (fun _ _ _ _ _ => (pg_tupK (K := K) (n := 2) rfl rfl (pgs_cons (pg_name (i := 1) sc_support.nd rfl (Or.inl rfl)) (pgs_cons (pg_name (i := 2) sc_support.nd rfl (Or.inl rfl)) pgs_nil)))) (fun _ _ _ _ _ => pts_one (pt_cmpR op_lt (pv 2) (pe_glob rfl T.g_FAR (v := .int 1000) ⟨_, rfl⟩) (nomark _))) (fun _ _ _ _ _ => (pv 1))) pa_nil)))), ?_⟩
    walk_at "rd"
    refine ⟨_, _, rfl, ha, fun D hD => ?_⟩
    refine lc_it (walk_enumT (K := K) (a := a) (xs := c.map V.int)) (fun i H' => Same H H' ∧ H' D = some (.lst ((((List.range i).filter fun i => decide (gI c i < 1000)).map fun (i : Nat) => (i : Int)).map V.int))) ⟨same_upd hD, upd_same⟩ (fun i H' _ q => Toy.Same.tup q.1 ha) (fun i x H2 H3 hi q y => ?_) (fun H2 q => ?_)
    · obtain ⟨q1, q2⟩ := q
      obtain ⟨Tz, x1, y1, rfl, nT, rfl, ex, ey⟩ := y
      cases ex
      obtain ⟨_, rfl⟩ := gI_of ey
      rw [hz] at hi
      have nD : D ≠ Tz := fun z => by rw [← z, q2] at nT; cases nT
      have hfl := List.length_filter_le (fun i => decide (gI c i < 1000)) (List.range i)
      rw [List.length_range] at hfl
      refine ⟨Tz, _, rfl, .inl (.inl upd_same), rfl, ?_⟩
      walk_at "rd"
      refine iteD (fun hb => ?_) (fun hb => ?_)
      · walk_at "rd"
        refine ⟨_, (upd_ne nD).trans q2, by rw [List.length_map, List.length_map]; omega, fun b' u e => ?_, ?_⟩
        · rw [upd_ne (ne_of_none e hD)]
          exact Same.trans q1 (same_upd nT) _ _ e
        · have ef : [i].filter (fun i => decide (gI c i < 1000)) = [i] := by simp [hb]
          rw [upd_same, List.range_succ, List.filter_append, ef, List.map_append, List.map_append]
          rfl
      · have ef : [i].filter (fun i => decide (gI c i < 1000)) = [] := by simp [hb]
        refine ⟨Same.trans q1 (same_upd nT), ?_⟩
        rw [List.range_succ, List.filter_append, ef, List.append_nil]
        exact (upd_ne nD).trans q2
    · obtain ⟨q1, q2⟩ := q
      rw [hz] at q2
      walk_at "rd"
      refine ⟨_, _, rfl, .inl ⟨.inl (.inl q2), fun l hl => ?_⟩⟩
      exact kk l _ (Same.trans q1 (same_upd hl)) upd_same
end

/-! ### associated, witness -/
def dd : List (List Int) → List (List Int)
  | [] => []
  | a :: l => if a ∈ l then dd l else a :: dd l
theorem dd_mem : ∀ {l : List (List Int)} {x : List Int}, x ∈ dd l ↔ x ∈ l
  | [], x => Iff.rfl
  | a :: l, x => by
    unfold dd
    by_cases h : a ∈ l
    · rw [if_pos h, dd_mem, List.mem_cons]
      exact ⟨.inr, fun z => z.elim (fun e => e ▸ h) id⟩
    · rw [if_neg h, List.mem_cons, List.mem_cons, dd_mem]
theorem dd_nodup : ∀ l : List (List Int), (dd l).Nodup
  | [] => List.nodup_nil
  | a :: l => by
    unfold dd
    by_cases h : a ∈ l
    · rw [if_pos h]; exact dd_nodup l
    · rw [if_neg h]; exact List.nodup_cons.mpr ⟨fun z => h (dd_mem.mp z), dd_nodup l⟩
/-- a lot's members, each once, in order -/
def setL (l : List (List Int)) : List (List Int) := (dd l).mergeSort leR
theorem setL_mem {l : List (List Int)} {x : List Int} : x ∈ setL l ↔ x ∈ l := by
  unfold setL
  rw [(List.mergeSort_perm _ _).mem_iff, dd_mem]
theorem setL_of {l m : List (List Int)} (nd : m.Nodup) (h : ∀ x, x ∈ m ↔ x ∈ l) : m.mergeSort leR = setL l := sort_perm (perm_of_mem nd (dd_nodup l) fun x => by rw [h, dd_mem])
theorem setL_congr {l m : List (List Int)} (h : ∀ x, x ∈ l ↔ x ∈ m) : setL l = setL m := sort_perm (perm_of_mem (dd_nodup l) (dd_nodup m) fun x => by rw [dd_mem, dd_mem, h])
def cornersL (n : Nat) (ms : List (List Int)) : List (List Int) := corners n (leastF n ms) (leastF n ms).length
def assocL (n : Nat) (ms : List (List Int)) : List (List Int) := setL ((cornersL n ms).map (suppI n))
def WitOk (n top : Nat) (ms : List (List Int)) (c v : List Int) : Prop := v.length = n ∧ ∀ i, i < n → (gI c i < 1000 → gI v i = gI c i - 1) ∧ (¬ gI c i < 1000 → 0 ≤ gI v i ∧ gI v i ≤ (top : Int) ∧ ∀ g ∈ ms, gI g i ≤ gI v i)
section
variable {P : Program} {w : World} {K : PySem.W.Frag} {mg : Str → Option Value} {base : Heap}
theorem rows_keys {H : Hp} : ∀ {xs : List V} {ls : List (List Int)}, DpAll K H xs (ls.map rD) → ∃ ks : List (Addr × List Int), xs = ks.map (fun p => V.ref p.1) ∧ ks.map (·.2) = ls ∧ ∀ p ∈ ks, SqT K H p.1 (p.2.map V.int)
  | [], [], _ => ⟨[], rfl, rfl, fun p h => (by cases h)⟩
  | [], _ :: _, h => by cases h
  | _ :: _, [], h => by cases h
  | x :: xs, l :: ls, h => by
    cases h with
    | cons h1 h2 =>
      obtain ⟨ks, e1, e2, e3⟩ := rows_keys h2
      cases h1 with
      | @tup a zs _ ha hz =>
        have ez := dpAll_ints_eq hz
        subst ez
        refine ⟨(a, l) :: ks, by rw [List.map_cons, ← e1], by rw [List.map_cons, e2], fun p hp => ?_⟩
        rcases List.mem_cons.mp hp with e | hp
        · rw [e]; exact ha
        · exact e3 p hp
theorem keys_rows {H : Hp} {ks : List (Addr × List Int)} (h : ∀ p ∈ ks, SqT K H p.1 (p.2.map V.int)) : DpAll K H (ks.map fun p => V.ref p.1) ((ks.map (·.2)).map rD) := by
  rw [List.map_map]
  exact dpAll_of fun p hp => dp_ints (h p hp)
/-- set(xs) of rows, then sorted of it: the members, each once, in order -/
theorem set_rows {H : Hp} {l : Addr} {xs : List V} {ls : List (List Int)} {Q : VK} (hl : SqL K H l xs ∨ SqT K H l xs) (hd : DpAll K H xs (ls.map rD)) (hf : ls.length < 64) (he : (∀ x ∈ ls, x ≠ []) ∨ ∀ x ∈ ls, x = [])
    (h : ∀ a Ha, Same H Ha → (∀ Q' : VK, (∀ p zs, Ha p = none → DpAll K (upd Ha p (.lst zs)) zs ((setL ls).map rD) → Q' (.ref p) (upd Ha p (.lst zs))) → rSortedSetE K P w [.ref a] Ha Q') → Q (.ref a) Ha) : rSetA K P w [.ref l] H Q := by
  obtain ⟨ks, e1, e2, e3⟩ := rows_keys hd
  have hkl : ks.length = ls.length := by rw [← e2, List.length_map]
  refine ⟨l, ks, rfl, by rw [← e1]; exact hl, e3, by omega, fun a L ha hsub hall => h a _ (same_upd ha) fun Q' hQ => ?_⟩
  have s1 := same_upd (o := SetTO P w a L) ha
  have memL : ∀ x, x ∈ L.map (·.2) ↔ x ∈ ls := fun x => by
    constructor
    · intro hx
      obtain ⟨p, hp, rfl⟩ := List.mem_map.mp hx
      rw [← e2]
      exact List.mem_map.mpr ⟨p, hsub p hp, rfl⟩
    · intro hx
      rw [← e2] at hx
      obtain ⟨p, hp, rfl⟩ := List.mem_map.mp hx
      exact hall p hp
  refine ⟨a, L, rfl, upd_same, fun p hp => Toy.Same.tup s1 (e3 p (hsub p hp)), ?_, fun L1 p pm nd hp => ?_⟩
  · rcases he with z | z
    · exact .inl fun p hp => z _ ((memL _).mp (List.mem_map.mpr ⟨p, hp, rfl⟩))
    · exact .inr fun p hp => z _ ((memL _).mp (List.mem_map.mpr ⟨p, hp, rfl⟩))
  · refine hQ p _ hp ?_
    have eL1 : (L1.mergeSort (PySem.W.dataLe false fun q : Addr × List Int => PyData.tuple (q.2.map .int))).map (·.2) = setL ls := by
      have e := List.map_mergeSort (r := PySem.W.dataLe false fun q : Addr × List Int => PyData.tuple (q.2.map .int)) (s := leR) (f := fun q : Addr × List Int => q.2) (l := L1) (hl := fun x _ y _ => rfl)
      refine e.trans (setL_of nd fun x => ?_)
      rw [(pm.map (·.2)).mem_iff]
      exact memL x
    have d := keys_rows (K := K) (H := upd (upd H a (SetTO P w a L)) p (.lst ((L1.mergeSort (PySem.W.dataLe false fun q : Addr × List Int => PyData.tuple (q.2.map .int))).map fun q => V.ref q.1))) (ks := L1.mergeSort (PySem.W.dataLe false fun q : Addr × List Int => PyData.tuple (q.2.map .int))) fun q hq => Toy.Same.tup (Same.trans s1 (same_upd hp)) (e3 q (hsub q (pm.mem_iff.mp ((List.mergeSort_perm _ _).mem_iff.mp hq))))
    rw [eL1] at d
    exact d
def sp_associated (t : TabsAt) (K : PySem.W.Frag) : Sp := fun vs H Q _ => ∃ (n : Nat) (v : V) (ms : List (List Int)), vs = [.int n, v] ∧ 1 ≤ n ∧ n ≤ 8 ∧ Dp K H v (rsD ms) ∧ LotOk n ms ∧ (∀ i, i ≤ (leastF n ms).length → (corners n (leastF n ms) i).length ≤ 1000000) ∧ (cornersL n ms).length < 64 ∧
  ((∀ c ∈ cornersL n ms, suppI n c ≠ []) ∨ ∀ c ∈ cornersL n ms, suppI n c = []) ∧ TS t H ∧ ∀ p H', Ex t H H' → Dp K H' (.ref p) (rsD (assocL n ms)) → Q (.ref p) H'
theorem ok_associated (T : Txt K mg) {t : TabsAt} (B : TBs T base t) : FnOk P w K mg base CX0 15 T.associated.f T.associated.fd P_associated (sp_associated t K) := by
  refine T.associated.F.ok sc_associated (fun vs H Q E h => ?_) (fun cdv A outer s H vs Q E hr h => ?_)
  · obtain ⟨n, v, ms, rfl, _⟩ := h; rfl
  · obtain ⟨n, v, ms, rfl, hn1, hn, hv, hlot, hbd, hfew, hem, ts, kk⟩ := h
    have hbig : 1000000 < sizeLine := by decide
    refine ⟨_, (pss_cons (ps_expr (pe_call (ok_check_ideal T B) (hr.mono (by decide)) rfl T.check_ideal.g T.check_ideal.F.kp (b_check_ideal T) .nil pass0 (pa_cons (pv 0) (pa_cons (pv 1) pa_nil))))
  (pss_one (ps_ret (pe_callTy (r := rTupOf K) call_tuple_of rfl T.n_tuple bo_tuple (pa_cons (pe_callB (r := rSortedSetE K P w) (cr_sortedSetE rfl hr.units) rfl T.n_sorted bo_sorted (pa_cons (pe_callTy (r := rSetA K P w) (cr_setA rfl hr.units) rfl T.n_set bo_set (pa_cons (pe_lc (own := [("corner", 2)]) rfl sc_associated.nd (pi_list (pe_call (ok_corners_of T B) (hr.mono (by decide)) rfl T.corners_of.g T.corners_of.F.kp (b_corners_of T) .nil pass0 (pa_cons (pv 0) (pa_cons (pe_call (ok_least_ones T B) (hr.mono (by decide)) rfl T.least_ones.g T.least_ones.F.kp (b_least_ones T) .nil pass0 (pa_cons (pv 1) pa_nil)) pa_nil)))) (blkOk_by (own := [("corner", 2)]) (N := N_associated) (sc := defScope s_associated) (by decide +kernel)) (fun _ _ _ _ _ => (pg_name (i := 2) sc_associated.nd rfl (Or.inl rfl))) (fun _ _ _ _ _ => pts_nil) (fun _ _ _ _ _ => (pe_call (ok_support T) (hr.mono (by decide)) rfl T.support.g T.support.F.kp (b_support T) .nil pass0 (pa_cons (pv 2) pa_nil)))) pa_nil)) pa_nil)) pa_nil))))), ?_⟩
    walk_at "rd"
    refine ⟨n, v, ms, rfl, hn1, hn, hv, hlot, ts, fun H1 x1 => ?_⟩
    obtain ⟨am, xs, rfl, ham, hms⟩ := rows_tup hv
    have ham1 := (tp_ext x1.keep).sqt ham
    have hms1 := DpAll.tp (tp_ext x1.keep) _ _ (tOnly_rows _) hms
    walk_at "rd"
    refine ⟨am, n, xs, ms, rfl, .inr ham1, hms1, fun g hg => (hlot.2 g hg).1, by have := hlot.1; omega, x1.ts, fun pl H2 ys x2 npl e2 d2 => ?_⟩
    have hll := least_len (n := n) (ms := ms)
    have hlm : ∀ g ∈ leastF n ms, g.length = n := fun g hg => (hlot.2 g (least_mem hg)).1
    refine ⟨pl, n, ys, leastF n ms, rfl, e2, d2, hlm, hn1, hn, by have := hlot.1; omega, hbd, x2.ts, fun pc H3 cs x3 npc e3 d3 => ?_⟩
    have hcm := corners_mem_len (n := n) (ms := leastF n ms) (leastF n ms).length
    have x03 := x1.trans (x2.trans x3)
    unfold assocL at kk
    have eC : corners n (leastF n ms) (leastF n ms).length = cornersL n ms := rfl
    rw [eC] at d3 hcm
    generalize cornersL n ms = C at *
    have hcsl : cs.length = C.length := by have := Toy.DpAll.len d3; rwa [List.length_map] at this
    refine ⟨_, rfl, ⟨_, .inl (.inl e3)⟩, fun D hD => ?_⟩
    refine lc_list (K := K) (a := pc) (xs := cs) (fun i H' => ∃ zs : List V, Same H3 H' ∧ H' D = some (.lst zs) ∧ zs.length ≤ i ∧ DpAll K H' zs (((C.take i).map (suppI n)).map rD)) ⟨[], same_upd hD, upd_same, Nat.le_refl _, .nil⟩ (fun i H' _ q => ?_) (fun i x H4 hi q => ?_) (fun H4 q => ?_)
    · obtain ⟨zs, q1, _⟩ := q
      exact .inl (.inl (q1 _ _ e3))
    · obtain ⟨zs, q1, q2, q3, q4⟩ := q
      obtain ⟨ac, c, hc, rfl, hac⟩ := row_at d3 hi
      have hil : i < C.length := (List.getElem?_eq_some_iff.mp hc).1
      have et : C.take (i + 1) = C.take i ++ [c] := by rw [List.take_add_one, hc]; rfl
      walk_at "rd"
      refine ⟨ac, c, n, rfl, Toy.Same.tup q1 hac, hcm c (List.mem_of_getElem? hc), hn, fun p H5 s5 t5 => ?_⟩
      have t5 : SqT K H5 p ((suppI n c).map V.int) := .inl (.inl t5)
      have z5 := s5 _ _ q2
      refine ⟨zs, z5, by omega, zs ++ [.ref p], fun b' v e => ?_, upd_same, by simp; omega, ?_⟩
      · rw [upd_ne (ne_of_none e hD)]
        exact s5 _ _ (q1 _ _ e)
      · rw [et, List.map_append, List.map_append]
        exact DpAll.tp (tp_lst z5) _ _ (by rw [← List.map_append]; exact tOnly_rows _) (dpAll_snoc (DpAll.same s5 _ _ q4) (dp_ints t5))
    · obtain ⟨zs, q1, q2, q3, q4⟩ := q
      rw [hcsl, List.take_length] at q4
      walk_at "rd"
      delta tNil
      show rSetA K P w [V.ref D] H4 _
      refine set_rows (.inl (.inl (.inl q2))) q4 (by rw [List.length_map]; exact hfew) ?_ fun a Ha sa hso => ?_
      · rcases hem with z | z
        · exact .inl fun x hx => by obtain ⟨c, hc, rfl⟩ := List.mem_map.mp hx; exact z c hc
        · exact .inr fun x hx => by obtain ⟨c, hc, rfl⟩ := List.mem_map.mp hx; exact z c hc
      · refine hso _ fun p zs' hp dz => ?_
        walk_at "rd"
        refine ⟨p, zs', rfl, .inl ⟨.inl (.inl upd_same), fun l hl => ?_⟩⟩
        exact kk l _ (x03.same (Same.trans q1 (Same.trans sa (Same.trans (same_upd hp) (same_upd hl))))) (.tup (.inl (.inl upd_same)) (DpAll.same (same_upd hl) _ _ dz))
end

/-! ### max(xs, default=d) of a list of ints -/
section
open PySem.Spec PyProof.Rows
variable {X : Cx}
theorem fold_max_mem : ∀ (ns : List Int) (n : Int), ns.foldl max n ∈ n :: ns
  | [], n => List.mem_cons_self
  | m :: ns, n => by
    have h := fold_max_mem ns (max n m)
    rw [List.foldl_cons]
    rcases List.mem_cons.mp h with h | h
    · rw [h]
      by_cases c : n ≤ m
      · rw [Int.max_eq_right c]; simp
      · rw [Int.max_eq_left (by omega)]; simp
    · exact List.mem_cons_of_mem _ (List.mem_cons_of_mem _ h)
theorem fold_max_ge : ∀ (ns : List Int) (n : Int), ∀ y ∈ n :: ns, y ≤ ns.foldl max n
  | [], n, y, h => by rw [List.mem_singleton] at h; rw [h]; exact Int.le_refl _
  | m :: ns, n, y, h => by
    have g := fold_max_ge ns (max n m)
    rw [List.foldl_cons]
    rcases List.mem_cons.mp h with rfl | h
    · exact Int.le_trans (Int.le_max_left _ _) (g _ List.mem_cons_self)
    · rcases List.mem_cons.mp h with rfl | h
      · exact Int.le_trans (Int.le_max_right _ _) (g _ List.mem_cons_self)
      · exact g _ (List.mem_cons_of_mem _ h)
def tMaxD (K : PySem.W.Frag) (te td : TE) : TE := fun σ H Q => tCons te tNil σ H fun vs H1 => tCons td tNil σ H1 fun zs H2 => ∃ (a : Addr) (ns : List Int) (d : V), vs = [.ref a] ∧ zs = [d] ∧ SqL K H2 a (ns.map V.int) ∧ (ns = [] → Q d H2) ∧ ∀ m, m ∈ ns → (∀ y ∈ ns, y ≤ m) → Q (.int m) H2
theorem depth_ints : ∀ ns : List Int, PyData.depthAll (ns.map PyData.int) ≤ 1
  | [] => by simp [PyData.depthAll]
  | n :: ns => by
    have := depth_ints ns
    rw [List.map_cons]
    simp only [PyData.depthAll, PyData.depth]
    omega
theorem dpAll_ints0 {K : PySem.W.Frag} {H : Hp} : ∀ ns : List Int, DpAll K H (ns.map V.int) (ns.map PyData.int)
  | [] => .nil
  | n :: ns => .cons (.int n) (dpAll_ints0 ns)
theorem pe_maxD {e fe : Expr} {te td : TE} {p pos kpos : Pos} {k : Nat} (hr : Room k X.A) (hg : Gl X "max") (hm : X.mg "max" = none) (hv : bootBuiltins "max" = some (.builtin "max")) (he : PE X e te) (hl : PE X fe td)
    (q0 : starEach [e] X.env = (false, eval e X.env) :: starEach [] X.env := by rfl)
    (q1 : backTo pos (starEach [e] X.env) = (false, eval e X.env) :: backTo pos (starEach [] X.env) := by rfl) (q2 : (backTo pos (starEach [e] X.env)).any (·.1) = false := by rfl)
    (q3 : (backToKw pos (keywordEach [⟨some "default", fe, kpos⟩] X.env)).all (·.1.isSome) = true := by rfl) (q4 : (backToKw pos (keywordEach [⟨some "default", fe, kpos⟩] X.env)).any (·.1.isNone) = false := by rfl)
    (q5 : (backToKw pos (keywordEach [⟨some "default", fe, kpos⟩] X.env)).filterMap (·.1) = [Str.ofString "default"] := by rfl) :
    PE X (.Call (.Name "max" p) [e] [⟨some "default", fe, kpos⟩] pos) (tMaxD X.K te td) := by
  refine ⟨fun pins s σ H Q I h => wpAny_Call_Name_kw (ld_blt I hg hm hv ?_)⟩
  have ha := pa_cons (X := X) he pa_nil q0
  have hk := pk_cons (X := X) (nm := some "default") (kpos := kpos) hl pk_nil
  refine PyProof.Rows.callWith_kw (thn (ha.run pos pins s σ H _ I h) fun us s1 ⟨vs, H1, I1, r1, h1⟩ => thn (hk.run pos pins s1 σ H1 _ I1 h1) fun ws s2 ⟨zs, H2, I2, r2, a, ns, d, ev, ez, hs, q0, q1⟩ => ?_) q1 q2 q3 q4
  rw [q5]
  subst ev ez
  obtain rfl := Vals.ref1 r1
  obtain ⟨w1, rfl, e1⟩ := vals1 r2
  obtain ⟨its, rv, hli, hz⟩ := I2.list hs
  obtain ⟨as, hra⟩ := Dp.readsAll I2 _ _ _ (dpAll_ints0 (K := X.K) (H := H2) ns) rv
  refine PySem.W.max_list_default (xs := ns.map PyData.int) (as := as) hr.hd hli.isList (by rw [List.toList_toArray]; exact hra) ⟨fun x hx y hy => ?_, fun x hx => ?_⟩ ?_ (fun hn h' tk hk2 => ?_) (fun y ys i v h' tk bs hxs hv' hrd hk2 => ?_)
  · obtain ⟨n1, _, rfl⟩ := List.mem_map.mp hx
    obtain ⟨n2, _, rfl⟩ := List.mem_map.mp hy
    rfl
  · obtain ⟨n1, _, rfl⟩ := List.mem_map.mp hx
    exact fun z => nomatch z
  · have := hr.units
    have := depth_ints ns
    omega
  · have en : ns = [] := List.map_eq_nil_iff.mp hn
    exact ⟨d, H2, I2.kept (t' := tk) hk2, e1, q0 en⟩
  · cases ns with
    | nil => cases hxs
    | cons n ns =>
      rw [List.map_cons] at hxs
      cases hxs
      rw [PySem.W.maxD_ints] at hrd
      cases hrd
      refine ⟨.int (ns.foldl max n), H2, I2.kept (t' := tk) hk2, ⟨_, rfl⟩, q1 _ ?_ ?_⟩
      · exact fold_max_mem ns n
      · exact fold_max_ge ns n
end

theorem pe_maxDK {X : Cx} {K : PySem.W.Frag} {e fe : Expr} {te td : TE} {p pos kpos : Pos} {k : Nat} (hK : X.K = K) (hr : Room k X.A) (hg : Gl X "max") (hm : X.mg "max" = none) (hv : bootBuiltins "max" = some (.builtin "max")) (he : PE X e te) (hl : PE X fe td)
    (q0 : starEach [e] X.env = (false, eval e X.env) :: starEach [] X.env := by rfl)
    (q1 : backTo pos (starEach [e] X.env) = (false, eval e X.env) :: backTo pos (starEach [] X.env) := by rfl) (q2 : (backTo pos (starEach [e] X.env)).any (·.1) = false := by rfl)
    (q3 : (backToKw pos (keywordEach [⟨some "default", fe, kpos⟩] X.env)).all (·.1.isSome) = true := by rfl) (q4 : (backToKw pos (keywordEach [⟨some "default", fe, kpos⟩] X.env)).any (·.1.isNone) = false := by rfl)
    (q5 : (backToKw pos (keywordEach [⟨some "default", fe, kpos⟩] X.env)).filterMap (·.1) = [Str.ofString "default"] := by rfl) :
    PE X (.Call (.Name "max" p) [e] [⟨some "default", fe, kpos⟩] pos) (tMaxD K te td) := by
  subst hK
  exact pe_maxD hr hg hm hv he hl q0 q1 q2 q3 q4 q5

/-! ### d.setdefault of a dict with tuple keys -/
section
open PySem.Spec PyProof.Rows
variable {X : Cx} {pins : List (Addr × Obj)} {σ : L2.St} {H : Hp} {s : Shared} {a : Addr} {u r : Value} {d : V} {A : Around} {E : Value → Shared → Prop}
theorem d_setdT {kvs : List (List L2.Key × V)} {k : List L2.Key} {b : Addr} {Q : Value → Shared → Prop} (hu : A.units + 1 < cLine) (I : Inv X pins σ H s) (e : H a = some (.dT kvs)) (eb : H b = some (.tup (k.map kV))) (rd : RelV d r) (hl : kvs.length < sizeLine)
    (h1 : ∀ v, valV kvs k = some v → ∀ (w' : Value) (s' : Shared), Inv X pins σ H s' → RelV v w' → Q w' s') (h2 : valV kvs k = none → ∀ (w' : Value) (s' : Shared), Inv X pins σ (upd H a (.dT (putK kvs k d))) s' → RelV d w' → Q w' s') :
    wpAny (model X.prog X.w) A (call (.builtin "dict.setdefault") [.ref a, .ref b, r]) Q E s := by
  obtain ⟨z, hd, xs, rel, dd⟩ := dt_of I.hok e
  have hz : xs.length ≤ sizeLine := by rw [← Paired.length rel]; exact z
  have hl2 : (putK kvs k d).length ≤ sizeLine := by have := length_putK kvs k d; omega
  have q := rel.val k
  refine call_setdefault_heap (hsz := hz) (tupleKind_room_in1 hu) (key_of I.hok eb) hd dd (fun p hp => ?_) (fun hn h' dd' hs => ?_)
  · rw [hp] at q
    cases q0 : valV kvs k with
    | none =>
      rw [q0] at q
      exact (show False from q).elim
    | some v0 =>
      rw [q0] at q
      exact h1 v0 q0 _ _ (I.tok _) q
  · rw [hn] at q
    cases q0 : valV kvs k with
    | some v0 =>
      rw [q0] at q
      exact (show False from q).elim
    | none =>
      obtain ⟨q1, es, ep, hq, h3, h4, h5, _, h6⟩ := dd'
      refine h2 q0 _ _ (d_write I (by rw [e]; exact True.intro) hs ⟨q1, hq⟩ ⟨hl2, hd, _, (rel.put k eb rd).keeps fun c ys ec => ?_, q1, es, ep, hq, h3, h4, h5, h6⟩) rd
      rw [upd_ne (ne_of ec e (fun z => nomatch z))]
      exact ec
end
/-- d.setdefault(t, z), t a tuple -/
def tDSetT (td ty tx : TE) : TE := fun σ H Q => td σ H fun x H1 => ∃ a, x = .ref a ∧ IsD H1 a ∧ ty σ H1 fun y H2 => tx σ H2 fun z H3 => ∃ (kvs : List (List L2.Key × V)) (k : List L2.Key) (b : Addr), H3 a = some (.dT kvs) ∧ y = .ref b ∧ H3 b = some (.tup (k.map kV)) ∧ kvs.length < sizeLine ∧
  (∀ v, valV kvs k = some v → Q v H3) ∧ (valV kvs k = none → Q z (upd H3 a (.dT (putK kvs k z))))
section
open PySem.Spec PyProof.Rows
variable {X : Cx} {o e f : Expr} {td ty tx : TE} {apos cpos : Pos}
theorem pe_dsetT (hu : X.A.units + 1 < cLine) (ho : PE X o td) (he : PE X e ty) (hf : PE X f tx) (m : M2 X o "setdefault" apos e f cpos) : PE X (.Call (.Attribute o "setdefault" apos) [e, f] [] cpos) (tDSetT td ty tx) := by
  refine ⟨fun pins s σ H Q I h => ?_⟩
  refine wpAny_Call_method m.base m.few m.line PySem.F.plainAttrs_dict PySem.F.slot_dict_setdefault PySem.F.type_dict_setdefault (thn (ho.run pins s σ H _ I h) fun u s1 ⟨x, H1, I1, rx, a, ex, d, q1⟩ => ?_)
  subst ex
  obtain rfl : u = Value.ref a := rx
  obtain ⟨t1, t2, _⟩ := isD_at I1 d
  refine ⟨t1, t2, ?_⟩
  rw [m.trees]
  refine Calls.callWith_builtin rfl (Calls.evalArgs_plain (Calls.spliced_cons (thn (he.run pins s1 σ H1 _ I1 q1) fun iv s2 ⟨y, H2, I2, ry, q2⟩ =>
    Calls.spliced_cons (thn (hf.run pins s2 σ H2 _ I2 q2) fun fv s3 ⟨z, H3, I3, rz, kvs, k, b, ea, ey, eb, hl, q3, q4⟩ => Calls.spliced_nil ?_))))
  subst ey
  obtain rfl : iv = Value.ref b := ry
  exact d_setdT hu I3 ea eb rz hl (fun v hv w' s4 I4 rw' => ⟨v, _, I4, rw', q3 v hv⟩) fun hn w' s4 I4 rw' => ⟨z, _, I4, rw', q4 hn⟩
end

/-! ### equal rows -/
theorem eqv_intsL : ∀ a b : List Int, PyData.eqvAll (a.map .int) (b.map .int) = decide (a = b)
  | [], [] => rfl
  | [], _ :: _ => by simp [PyData.eqvAll]
  | _ :: _, [] => by simp [PyData.eqvAll]
  | x :: a, y :: b => by
    show (PyData.eqv (.int x) (.int y) && PyData.eqvAll (a.map .int) (b.map .int)) = _
    rw [eqv_intsL a b]
    show (x == y && decide (a = b)) = _
    by_cases h1 : x = y <;> by_cases h2 : a = b <;> simp [h1, h2]
theorem eqv_rowsL : ∀ a b : List (List Int), PyData.eqvAll (a.map rD) (b.map rD) = decide (a = b)
  | [], [] => rfl
  | [], _ :: _ => by simp [PyData.eqvAll]
  | _ :: _, [] => by simp [PyData.eqvAll]
  | x :: a, y :: b => by
    show (PyData.eqvAll (x.map .int) (y.map .int) && PyData.eqvAll (a.map rD) (b.map rD)) = _
    rw [eqv_rowsL a b, eqv_intsL]
    by_cases h1 : x = y <;> by_cases h2 : a = b <;> simp [h1, h2]
theorem sh_rD (l : List Int) : SeqAt.shaped (rD l) = true := by
  unfold SeqAt.shaped
  rw [show PyData.canLay0 (rD l) = true from can_ints l, Bool.true_and, decide_eq_true_eq]
  simp only [PyData.depth, PySem.W.depth_ints]
  omega
theorem sh_rsD (l : List (List Int)) : SeqAt.shaped (rsD l) = true := by
  unfold SeqAt.shaped
  have h := depth_rows l
  rw [show PyData.canLay0 (rsD l) = true from can_rows l, Bool.true_and, decide_eq_true_eq]
  simp only [PyData.depth]
  omega
section
variable {K : PySem.W.Frag} {H : Hp} {a b : Addr} {l m : List Int} {ls ks : List (List Int)} {Q : VK}
theorem eqRow (ha : SqT K H a (l.map V.int)) (hb : SqT K H b (m.map V.int)) (q : Q (.bl (decide (l = m))) H) : rEqD K (.ref a) (.ref b) H Q := by
  refine ⟨_, _, dp_ints ha, dp_ints hb, sh_rD l, sh_rD m, ?_⟩
  show Q (.bl (PyData.eqvAll (l.map .int) (m.map .int))) H
  rw [eqv_intsL]
  exact q
theorem neRow (ha : SqT K H a (l.map V.int)) (hb : SqT K H b (m.map V.int)) (q : Q (.bl (!decide (l = m))) H) : rNeD K (.ref a) (.ref b) H Q := by
  refine ⟨_, _, dp_ints ha, dp_ints hb, sh_rD l, sh_rD m, ?_⟩
  show Q (.bl (!PyData.eqvAll (l.map .int) (m.map .int))) H
  rw [eqv_intsL]
  exact q
theorem eqRows {u v : V} (ha : Dp K H u (rsD ls)) (hb : Dp K H v (rsD ks)) (q : Q (.bl (decide (ls = ks))) H) : rEqD K u v H Q := by
  refine ⟨_, _, ha, hb, sh_rsD ls, sh_rsD ks, ?_⟩
  show Q (.bl (PyData.eqvAll (ls.map rD) (ks.map rD))) H
  rw [eqv_rowsL]
  exact q
end
theorem lot_ge {n : Nat} {ms : List (List Int)} (h : LotOk n ms) {g : List Int} (hg : g ∈ ms) {i : Nat} (hi : i < n) : 0 ≤ gI g i ∧ gI g i ≤ 8 := (h.2 g hg).2 _ (List.mem_of_getElem? (gI_get (by rw [(h.2 g hg).1]; exact hi)))

/-! ### comprehensions that make rows, ints -/
section
variable {P : Program} {w : World} {K : PySem.W.Frag} {mg : Str → Option Value} {base : Heap}
theorem lc_mkRows {J : It} {n : Nat} {G : Hp → Prop} {Y : Nat → Hp → V → Hp → Prop} {g : TG} {te : TE} {vs : List Nat} {σ : L2.St} {H1 : Hp} {D : Addr} {Qd : Hp → Prop}
    (w : Walk J n G Y) (f : Nat → List Int) (hG : ∀ H', Same H1 H' → G H') (hD : H1 D = none) (hn : n ≤ 100000)
    (hs : ∀ i x Ha Hb (Qv : V → Hp → Prop), i < n → Same H1 Ha → Y i Ha x Hb → (∀ p H4, Same Ha H4 → SqT K H4 p ((f i).map V.int) → Qv (.ref p) H4) → g x (wipe σ vs) Hb fun σ2 H2 => wipe σ2 vs = wipe σ vs ∧ te σ2 H2 Qv)
    (hd : ∀ H' zs, Same H1 H' → H' D = some (.lst zs) → DpAll K H' zs (((List.range n).map f).map rD) → Qd H') :
    ∃ W : Nat → Nat → Hp → Prop, (∃ m, W 0 m (upd H1 D (.lst []))) ∧ ∀ i m H, W i m H →
      (J.stop i H ∧ Qd H) ∨ (J.go i H ∧ ∃ Nx : Hp → Prop, (∀ H', Nx H' → ∃ m', m' < m ∧ W (i + 1) m' H') ∧ ∀ x H', J.yld i H x H' → g x (wipe σ vs) H' fun σ2 H2 => wipe σ2 vs = wipe σ vs ∧ tYes σ2 H2 fun b H3 =>
        if b = true then te σ2 H3 fun y H4 => ∃ acc, H4 D = some (.lst acc) ∧ acc.length < sizeLine ∧ Nx (upd H4 D (.lst (acc ++ [y]))) else Nx H3) := by
  have hbig : 100000 < sizeLine := by decide
  refine lc_it w (tt := tYes) (fun i H' => ∃ zs : List V, Same H1 H' ∧ H' D = some (.lst zs) ∧ zs.length = i ∧ DpAll K H' zs (((List.range i).map f).map rD)) ⟨[], same_upd hD, upd_same, rfl, .nil⟩ (fun i H' _ q => hG _ q.choose_spec.1) (fun i x Ha Hb hi q y => ?_) (fun H' q => ?_)
  · obtain ⟨zs, q1, q2, q3, q4⟩ := q
    refine hs i x Ha Hb _ hi q1 y fun p H4 s4 t4 => ?_
    have z4 := s4 _ _ q2
    refine ⟨zs, z4, by omega, zs ++ [.ref p], fun b' v e => ?_, upd_same, by simp [q3], ?_⟩
    · rw [upd_ne (ne_of_none e hD)]
      exact s4 _ _ (q1 _ _ e)
    · rw [List.range_succ, List.map_append, List.map_append]
      exact DpAll.tp (tp_lst z4) _ _ (by rw [← List.map_append]; exact tOnly_rows _) (dpAll_snoc (DpAll.same s4 _ _ q4) (dp_ints t4))
  · obtain ⟨zs, q1, q2, q3, q4⟩ := q
    exact hd _ _ q1 q2 q4
theorem lc_mkInts {J : It} {n : Nat} {G : Hp → Prop} {Y : Nat → Hp → V → Hp → Prop} {g : TG} {te : TE} {vs : List Nat} {σ : L2.St} {H1 : Hp} {D : Addr} {Qd : Hp → Prop}
    (w : Walk J n G Y) (f : Nat → Int) (hG : ∀ H', Same H1 H' → G H') (hD : H1 D = none) (hn : n ≤ 100000)
    (hs : ∀ i x Ha Hb (Qv : V → Hp → Prop), i < n → Same H1 Ha → Y i Ha x Hb → (∀ H4, Same Ha H4 → Qv (.int (f i)) H4) → g x (wipe σ vs) Hb fun σ2 H2 => wipe σ2 vs = wipe σ vs ∧ te σ2 H2 Qv)
    (hd : ∀ H', Same H1 H' → H' D = some (.lst (((List.range n).map f).map V.int)) → Qd H') :
    ∃ W : Nat → Nat → Hp → Prop, (∃ m, W 0 m (upd H1 D (.lst []))) ∧ ∀ i m H, W i m H →
      (J.stop i H ∧ Qd H) ∨ (J.go i H ∧ ∃ Nx : Hp → Prop, (∀ H', Nx H' → ∃ m', m' < m ∧ W (i + 1) m' H') ∧ ∀ x H', J.yld i H x H' → g x (wipe σ vs) H' fun σ2 H2 => wipe σ2 vs = wipe σ vs ∧ tYes σ2 H2 fun b H3 =>
        if b = true then te σ2 H3 fun y H4 => ∃ acc, H4 D = some (.lst acc) ∧ acc.length < sizeLine ∧ Nx (upd H4 D (.lst (acc ++ [y]))) else Nx H3) := by
  have hbig : 100000 < sizeLine := by decide
  refine lc_it w (tt := tYes) (fun i H' => Same H1 H' ∧ H' D = some (.lst (((List.range i).map f).map V.int))) ⟨same_upd hD, upd_same⟩ (fun i H' _ q => hG _ q.1) (fun i x Ha Hb hi q y => ?_) (fun H' q => hd _ q.1 q.2)
  obtain ⟨q1, q2⟩ := q
  refine hs i x Ha Hb _ hi q1 y fun H4 s4 => ?_
  refine ⟨_, s4 _ _ q2, by simp; omega, fun b' v e => ?_, ?_⟩
  · rw [upd_ne (ne_of_none e hD)]
    exact s4 _ _ (q1 _ _ e)
  · rw [upd_same, List.range_succ, List.map_append, List.map_append]; rfl
theorem range_map {α : Type} (S : List Int) (F : Int → α) : (List.range S.length).map (fun i => F (gI S i)) = S.map F := by
  refine List.ext_getElem? fun i => ?_
  rw [List.getElem?_map, List.getElem?_map]
  by_cases hi : i < S.length
  · rw [List.getElem?_range hi, gI_get hi]; rfl
  · rw [List.getElem?_eq_none (by simp; omega), List.getElem?_eq_none (by omega)]; rfl
theorem range_rows {α : Type} (S : List (List Int)) (F : List Int → α) : (List.range S.length).map (fun i => F (S.getD i [])) = S.map F := by
  refine List.ext_getElem? fun i => ?_
  rw [List.getElem?_map, List.getElem?_map]
  by_cases hi : i < S.length
  · rw [List.getElem?_range hi, List.getElem?_eq_getElem hi, Option.map_some, Option.map_some, List.getD_eq_getElem?_getD, List.getElem?_eq_getElem hi]; rfl
  · rw [List.getElem?_eq_none (by simp; omega), List.getElem?_eq_none (by omega)]; rfl
end

/-! ### mono_radical, mono_meet -/
section
variable {P : Program} {w : World} {K : PySem.W.Frag} {mg : Str → Option Value} {base : Heap}
def radL (n : Nat) (g : List Int) : List Int := (List.range n).map fun i => if 1 < gI g i then 1 else gI g i
def lcmL (n : Nat) (a b : List Int) : List Int := (List.range n).map fun i => if gI b i > gI a i then gI b i else gI a i
def sp_mono_radical (t : TabsAt) (K : PySem.W.Frag) : Sp := fun vs H Q _ => ∃ (n : Nat) (v : V) (ms : List (List Int)), vs = [.int n, v] ∧ 1 ≤ n ∧ n ≤ 8 ∧ Dp K H v (rsD ms) ∧ LotOk n ms ∧ TS t H ∧ ∀ p H', Ex t H H' → Dp K H' (.ref p) (rsD (minS n (ms.map (radL n)))) → Q (.ref p) H'
theorem ok_mono_radical (T : Txt K mg) {t : TabsAt} (B : TBs T base t) : FnOk P w K mg base CX0 16 T.mono_radical.f T.mono_radical.fd P_mono_radical (sp_mono_radical t K) := by
  refine T.mono_radical.F.ok sc_mono_radical (fun vs H Q E h => ?_) (fun cdv A outer s H vs Q E hr h => ?_)
  · obtain ⟨n, v, ms, rfl, _⟩ := h; rfl
  · obtain ⟨n, v, ms, rfl, hn1, hn, hv, hlot, ts, kk⟩ := h
    have hbig : 1000000 < sizeLine := by decide
    refine ⟨_, (pss_cons (ps_expr (pe_call (ok_check_ideal T B) (hr.mono (by decide)) rfl T.check_ideal.g T.check_ideal.F.kp (b_check_ideal T) .nil pass0 (pa_cons (pv 0) (pa_cons (pv 1) pa_nil))))
  (pss_one (ps_ret (pe_call (ok_ascending_least T B) (hr.mono (by decide)) rfl T.ascending_least.g T.ascending_least.F.kp (b_ascending_least T) .nil pass0 (pa_cons (pe_lc (own := [("mono", 3)]) rfl sc_mono_radical.nd (pi_tup (pv 1)) (blkOk_by (own := [("mono", 3)]) (N := N_mono_radical) (sc := defScope s_mono_radical) (by decide +kernel)) (fun _ _ _ _ _ => (pg_name (i := 3) sc_mono_radical.nd rfl (Or.inl rfl))) (fun _ _ _ _ _ => pts_nil) (fun _ _ _ _ _ => (pe_callTy (r := rTupOf K) call_tuple_of rfl T.n_tuple bo_tuple (pa_cons (pe_lc (own := [("exponent", 2)]) rfl sc_mono_radical.nd (pi_tupK (K := K) rfl (pv 3)) (blkOk_in (own := [("exponent", 2)]) (N := N_mono_radical) (sc := _) (by decide +kernel)) (fun _ _ _ _ _ => (pg_name (i := 2) sc_mono_radical.nd rfl (Or.inl rfl))) (fun _ _ _ _ _ => pts_nil) (fun _ _ _ _ _ => (pe_callB (call_min2 rfl) rfl T.n_min bo_min (pa_cons (pv 2) (pa_cons pe_int pa_nil))))) pa_nil)))) pa_nil))))), ?_⟩
    walk_at "rd"
    refine ⟨n, v, ms, rfl, hn1, hn, hv, hlot, ts, fun H1 x1 => ?_⟩
    obtain ⟨am, xs, rfl, ham, hms⟩ := rows_tup hv
    have ham1 := (tp_ext x1.keep).sqt ham
    have hms1 := DpAll.tp (tp_ext x1.keep) _ _ (tOnly_rows _) hms
    have hxl : xs.length = ms.length := by have := Toy.DpAll.len hms; rwa [List.length_map] at this
    have hml := hlot.1
    walk_at "rd"
    refine ⟨⟨_, ham1⟩, fun D hD => ?_⟩
    refine lc_mkRows (K := K) (walk_tup (K := K) (a := am) (xs := xs)) (fun i => radL n (ms.getD i [])) (fun H' s' => Toy.Same.tup s' ham1) hD (by omega) (fun i x Ha Hb Qv hi s1 y hq => ?_) (fun H2 zs s2 e2 d2 => ?_)
    · obtain ⟨rfl, ey⟩ := y
      obtain ⟨ag, g, hg, rfl, hag⟩ := row_at hms1 ey
      have hgl := (hlot.2 g (List.mem_of_getElem? hg)).1
      have hag1 := Toy.Same.tup s1 hag
      refine ⟨rfl, ?_⟩
      walk_at "rd"
      refine ⟨⟨_, hag1⟩, fun D2 hD2 => ?_⟩
      have hgz : (g.map V.int).length = n := by rw [List.length_map]; exact hgl
      refine lc_mkInts (walk_tup (K := K) (a := ag) (xs := g.map V.int)) (fun i => if 1 < gI g i then 1 else gI g i) (fun H' s' => Toy.Same.tup s' hag1) hD2 (by omega) (fun k x Hc Hd Qv hk s2 y hq2 => ?_) (fun H6 s6 e6 => ?_)
      · obtain ⟨rfl, ey⟩ := y
        obtain ⟨_, rfl⟩ := gI_of ey
        refine ⟨rfl, ?_⟩
        walk_at "rd"
        exact hq2 _ (Same.refl _)
      · rw [hgz] at e6
        walk_at "rd"
        refine ⟨_, _, rfl, .inl ⟨.inl (.inl e6), fun l hl => ?_⟩⟩
        refine hq l _ (Same.trans s6 (same_upd hl)) ?_
        rw [List.getD_eq_getElem?_getD, hg]
        exact .inl (.inl upd_same)
    · rw [hxl, range_rows ms (radL n)] at d2
      walk_at "rd"
      refine ⟨D, n, zs, ms.map (radL n), rfl, .inl (.inl (.inl e2)), d2, fun g hg => ?_, hn1, by simp; omega, (x1.same s2).ts, fun p H6 x6 d6 => ?_⟩
      · obtain ⟨g', _, rfl⟩ := List.mem_map.mp hg
        unfold radL
        simp
      · walk_at "rd"
        exact kk _ _ ((x1.same s2).trans x6) d6
end

/-! ### the least monomials of a meet: corners counted from above -/
def turnL (top : Int) (c : List Int) : List Int := c.map fun b => if b < 1000 then top - b else 0
theorem gI_turn {top : Int} {c : List Int} {i : Nat} (h : i < c.length) : gI (turnL top c) i = if gI c i < 1000 then top - gI c i else 0 := by
  have e := gI_get h
  unfold turnL
  conv => lhs; unfold gI
  rw [List.getD_eq_getElem?_getD, List.getElem?_map, e]
  rfl
theorem len_turn {top : Int} {c : List Int} : (turnL top c).length = c.length := List.length_map ..
/-- a lot of corners with one support -/
structure LotC (n : Nat) (top : Int) (S : List Int) (L : List (List Int)) : Prop where
  len : ∀ c ∈ L, c.length = n
  lo : ∀ c ∈ L, ∀ i, i < n → 1 ≤ gI c i ∧ gI c i ≤ 1000
  hi : ∀ c ∈ L, ∀ i, i < n → gI c i < 1000 → gI c i < top
  top : 1 ≤ top ∧ top ≤ 900
  sup : ∀ c ∈ L, suppI n c = S
def rawM (n : Nat) (top : Int) (L : List (List Int)) : List (List Int) := (corners n (L.map (turnL top)) (L.map (turnL top)).length).map (turnL top)
section
variable {n : Nat} {top : Int} {S : List Int} {L : List (List Int)}
theorem turn_ms (h : LotC n top S L) : MsOk n (L.map (turnL top)) := fun g hg => by
  obtain ⟨c, hc, rfl⟩ := List.mem_map.mp hg
  have hl := h.len c hc
  refine ⟨by rw [len_turn, hl], fun i hi => ?_⟩
  rw [gI_turn (by omega)]
  have h1 := h.lo c hc i hi
  have h2 := h.hi c hc i hi
  have h3 := h.top
  split <;> omega
theorem turn_mem (h : LotC n top S L) (d : List Int) : d ∈ corners n (L.map (turnL top)) (L.map (turnL top)).length ↔ Corner n (L.map (turnL top)) d := by
  have := (corners_all (turn_ms h) _ (Nat.le_refl _)).2 d
  rwa [List.take_length] at this
theorem turn_top (h : LotC n top S L) : ∀ g ∈ L.map (turnL top), ∀ i, i < n → gI g i ≤ top - 1 := fun g hg i hi => by
  obtain ⟨c, hc, rfl⟩ := List.mem_map.mp hg
  rw [gI_turn (by rw [h.len c hc]; exact hi)]
  have h1 := h.lo c hc i hi
  have h3 := h.top
  split <;> omega
theorem raw_mem (h : LotC n top S L) {m : List Int} : m ∈ rawM n top L ↔ ∃ d, Corner n (L.map (turnL top)) d ∧ m = turnL top d := by
  unfold rawM
  rw [List.mem_map]
  exact ⟨fun ⟨d, hd, e⟩ => ⟨d, (turn_mem h d).mp hd, e.symm⟩, fun ⟨d, hd, e⟩ => ⟨d, (turn_mem h d).mpr hd, e.symm⟩⟩
theorem raw_gI (h : LotC n top S L) {d : List Int} (hd : Corner n (L.map (turnL top)) d) {i : Nat} (hi : i < n) : gI (turnL top d) i = (if gI d i < 1000 then top - gI d i else 0) ∧ 0 ≤ gI (turnL top d) i ∧ gI (turnL top d) i < top := by
  have e := gI_turn (top := top) (c := d) (i := i) (by rw [hd.len]; exact hi)
  have h1 := hd.lo i hi
  have h3 := h.top
  rw [e]
  by_cases z : gI d i < 1000
  · have := corner_top (turn_top h) hd hi z
    rw [if_pos z]
    exact ⟨rfl, by omega, by omega⟩
  · rw [if_neg z]
    exact ⟨rfl, by omega, by omega⟩
/-- it reaches every corner of the lot -/
theorem raw_in (h : LotC n top S L) {m : List Int} (hm : m ∈ rawM n top L) {c : List Int} (hc : c ∈ L) : ∃ i, i < n ∧ gI c i ≤ gI m i ∧ 1 ≤ gI m i := by
  obtain ⟨d, hd, rfl⟩ := (raw_mem h).mp hm
  obtain ⟨i, hi, hle⟩ := hd.F _ (List.mem_map.mpr ⟨c, hc, rfl⟩)
  have h1 := hd.lo i hi
  have h2 := h.lo c hc i hi
  rw [gI_turn (by rw [h.len c hc]; exact hi)] at hle
  refine ⟨i, hi, ?_⟩
  rw [(raw_gI h hd hi).1]
  by_cases z : gI c i < 1000
  · rw [if_pos z] at hle
    have := h.top
    rw [if_pos (by omega)]
    omega
  · rw [if_neg z] at hle
    omega
/-- what reaches every corner lies above one -/
theorem raw_all (h : LotC n top S L) {w : List Int} (hw : ∀ i, i < n → 0 ≤ gI w i ∧ gI w i < 1000) (hr : ∀ c ∈ L, ∃ i, i < n ∧ gI c i ≤ gI w i) : ∃ m ∈ rawM n top L, ∀ i, i < n → gI m i ≤ gI w i := by
  have ht := h.top
  have ge : ∀ i, i < n → gI ((List.range n).map fun i => if gI w i ≤ 0 then (1000 : Int) else if gI w i < top then top - gI w i else 1) i = if gI w i ≤ 0 then 1000 else if gI w i < top then top - gI w i else 1 := fun i hi => by
    conv => lhs; unfold gI
    rw [List.getD_eq_getElem?_getD, List.getElem?_map, List.getElem?_range hi]; rfl
  obtain ⟨d, hd, hle⟩ := corner_above (turn_ms h) (c := (List.range n).map fun i => if gI w i ≤ 0 then (1000 : Int) else if gI w i < top then top - gI w i else 1) (by simp) (fun i hi => by
    rw [ge i hi]
    have := hw i hi
    split
    · omega
    · split <;> omega) (fun g hg => by
    obtain ⟨c, hc, rfl⟩ := List.mem_map.mp hg
    obtain ⟨i, hi, hci⟩ := hr c hc
    have h1 := h.lo c hc i hi
    have h2 := hw i hi
    have h3 := h.hi c hc i hi (by omega)
    refine ⟨i, hi, ?_⟩
    rw [ge i hi, gI_turn (by rw [h.len c hc]; exact hi), if_neg (show ¬ gI w i ≤ 0 by omega), if_pos (show gI c i < 1000 by omega)]
    split <;> omega)
  refine ⟨turnL top d, (raw_mem h).mpr ⟨d, hd, rfl⟩, fun i hi => ?_⟩
  have h1 := hle i hi
  have h2 := hw i hi
  have h3 := hd.lo i hi
  rw [ge i hi] at h1
  rw [(raw_gI h hd hi).1]
  by_cases z : gI d i < 1000
  · rw [if_pos z]
    split at h1
    · omega
    · split at h1 <;> omega
  · rw [if_neg z]; omega
/-- none divides another one -/
theorem raw_anti (h : LotC n top S L) {m m' : List Int} (hm : m ∈ rawM n top L) (hm' : m' ∈ rawM n top L) (hle : ∀ i, i < n → gI m i ≤ gI m' i) : m = m' := by
  obtain ⟨d, hd, rfl⟩ := (raw_mem h).mp hm
  obtain ⟨d', hd', rfl⟩ := (raw_mem h).mp hm'
  have : d' = d := corner_anti hd' hd fun i hi => by
    have h1 := hle i hi
    have h3 := hd.lo i hi
    have h4 := hd'.lo i hi
    by_cases z : gI d i < 1000
    · have ht := corner_top (turn_top h) hd hi z
      rw [(raw_gI h hd hi).1, (raw_gI h hd' hi).1, if_pos z] at h1
      split at h1 <;> omega
    · omega
  rw [this]
theorem raw_len (h : LotC n top S L) {m : List Int} (hm : m ∈ rawM n top L) : m.length = n := by
  obtain ⟨d, hd, rfl⟩ := (raw_mem h).mp hm
  rw [len_turn, hd.len]
theorem raw_nodup (h : LotC n top S L) : (rawM n top L).Nodup := by
  unfold rawM
  refine List.pairwise_map.mpr (List.Pairwise.imp_of_mem ?_ (corners_all (turn_ms h) _ (Nat.le_refl _)).1)
  intro a b ha hb hab e
  have h1 := (turn_mem h a).mp ha
  have h2 := (turn_mem h b).mp hb
  refine hab (corner_anti h1 h2 fun i hi => ?_)
  have q : gI (turnL top a) i = gI (turnL top b) i := by rw [e]
  have l1 := h1.lo i hi
  have l2 := h2.lo i hi
  have t1 := corner_top (turn_top h) h1 hi
  have t2 := corner_top (turn_top h) h2 hi
  rw [(raw_gI h h1 hi).1, (raw_gI h h2 hi).1] at q
  by_cases z1 : gI a i < 1000 <;> by_cases z2 : gI b i < 1000
  · rw [if_pos z1, if_pos z2] at q; omega
  · omega
  · have := t2 z2
    rw [if_neg z1, if_pos z2] at q; omega
  · omega
/-- its places lie in the support -/
theorem raw_sup (h : LotC n top S L) {m : List Int} (hm : m ∈ rawM n top L) {i : Nat} (hi : i < n) (h1 : 1 ≤ gI m i) : ((i : Nat) : Int) ∈ S := by
  obtain ⟨d, hd, rfl⟩ := (raw_mem h).mp hm
  have l1 := hd.lo i hi
  rw [(raw_gI h hd hi).1] at h1
  by_cases z : gI d i < 1000
  · obtain ⟨g, hg, e1, _⟩ := hd.B i hi z
    obtain ⟨c, hc, rfl⟩ := List.mem_map.mp hg
    rw [gI_turn (by rw [h.len c hc]; exact hi)] at e1
    rw [← h.sup c hc]
    refine supp_mem.mpr ⟨i, hi, ?_, rfl⟩
    by_cases z2 : gI c i < 1000
    · exact z2
    · rw [if_neg z2] at e1; omega
  · rw [if_neg z] at h1; omega
/-- a power of each variable of the support -/
theorem raw_pure (h : LotC n top S L) (hL : L ≠ []) {i : Nat} (hi : i < n) (hS : ((i : Nat) : Int) ∈ S) : ∃ m ∈ rawM n top L, 1 ≤ gI m i ∧ ∀ j, j < n → j ≠ i → gI m j = 0 := by
  have ht := h.top
  have gw : ∀ j, j < n → gI ((List.range n).map fun j => if j = i then top else (0 : Int)) j = if j = i then top else 0 := fun j hj => by
    conv => lhs; unfold gI
    rw [List.getD_eq_getElem?_getD, List.getElem?_map, List.getElem?_range hj]; rfl
  obtain ⟨m, hm, hle⟩ := raw_all h (w := (List.range n).map fun j => if j = i then top else (0 : Int)) (fun j hj => by rw [gw j hj]; split <;> omega) fun c hc => by
    refine ⟨i, hi, ?_⟩
    rw [gw i hi, if_pos rfl]
    rw [← h.sup c hc] at hS
    obtain ⟨k, hk, hck, e⟩ := supp_mem.mp hS
    have : k = i := by omega
    subst this
    have := h.hi c hc k hi hck
    omega
  have z : ∀ j, j < n → j ≠ i → gI m j = 0 := fun j hj hne => by
    have h1 := hle j hj
    rw [gw j hj, if_neg hne] at h1
    obtain ⟨d, hd, rfl⟩ := (raw_mem h).mp hm
    have := (raw_gI h hd hj).2.1
    omega
  refine ⟨m, hm, ?_, z⟩
  obtain ⟨c, hc⟩ := List.exists_mem_of_ne_nil L hL
  obtain ⟨k, hk, _, h1⟩ := raw_in h hm hc
  by_cases e : k = i
  · rw [← e]; exact h1
  · have := z k hk e
    omega
end

/-! ### a part: least ones, radical, associated places; products; meets of parts -/
def partM (n : Nat) (top : Int) (L : List (List Int)) : List (List Int) := (rawM n top L).mergeSort leR
theorem minS_units {n : Nat} {ms : List (List Int)} {S : List Int} (hl : ∀ m ∈ ms, m.length = n) (h : PlacesOk n S) (e : ∀ x, MinIn n ms x ↔ ∃ p ∈ S, x = unitV n p.toNat) : minS n ms = (unitsOf n S).mergeSort leR := by
  obtain ⟨h1, h2⟩ := least_min hl
  have hu : ∀ x, x ∈ unitsOf n S ↔ ∃ p ∈ S, x = unitV n p.toNat := fun x => by
    unfold unitsOf
    rw [List.mem_map]
    exact ⟨fun ⟨p, hp, e⟩ => ⟨p, hp, e.symm⟩, fun ⟨p, hp, e⟩ => ⟨p, hp, e.symm⟩⟩
  exact sort_perm (perm_of_mem h1 (units_nodup h) fun x => by rw [h2, hu, e])
theorem radL_gI {n : Nat} {g : List Int} {i : Nat} (h : i < n) : gI (radL n g) i = if 1 < gI g i then 1 else gI g i := by
  unfold radL
  conv => lhs; unfold gI
  rw [List.getD_eq_getElem?_getD, List.getElem?_map, List.getElem?_range h]; rfl
theorem radL_len {n : Nat} {g : List Int} : (radL n g).length = n := by unfold radL; simp
section
variable {n : Nat} {top : Int} {S : List Int} {L : List (List Int)}
theorem part_mem {m : List Int} : m ∈ partM n top L ↔ m ∈ rawM n top L := (List.mergeSort_perm _ _).mem_iff
theorem raw_nn (h : LotC n top S L) {m : List Int} (hm : m ∈ rawM n top L) {i : Nat} (hi : i < n) : 0 ≤ gI m i ∧ gI m i < top := by
  obtain ⟨d, hd, rfl⟩ := (raw_mem h).mp hm
  exact (raw_gI h hd hi).2
theorem part_ms (h : LotC n top S L) : MsOk n (partM n top L) := fun g hg => by
  have hg' := part_mem.mp hg
  refine ⟨raw_len h hg', fun i hi => ?_⟩
  have := raw_nn h hg' hi
  have := h.top
  omega
theorem part_least (h : LotC n top S L) : minS n (partM n top L) = partM n top L := by
  have e := law_min (n := n) (ms := partM n top L) (s := partM n top L) (fun m hm => raw_len h (part_mem.mp hm)) (PySem.W.sort_pairwise leR_total _) (((List.mergeSort_perm _ _).nodup_iff).mpr (raw_nodup h)) fun x => Iff.rfl
  rw [← e]
  refine List.filter_eq_self.mpr fun x hx => ?_
  rw [List.all_eq_true]
  intro y hy
  rw [Bool.not_eq_true', Bool.and_eq_false_iff]
  by_cases hd : divB n y x = true
  · refine .inl ?_
    rw [decide_eq_false_iff_not]
    exact fun c => c (raw_anti h (part_mem.mp hy) (part_mem.mp hx) (div_iff.mp hd))
  · exact .inr (by simpa using hd)
theorem rad_unit (h : LotC n top S L) {m : List Int} {i : Nat} (hi : i < n) (h1 : 1 ≤ gI m i) (h2 : ∀ j, j < n → j ≠ i → gI m j = 0) : radL n m = unitV n i := by
  refine gI_ext radL_len len_unit fun j hj => ?_
  rw [radL_gI hj, gI_unit hj]
  by_cases e : j = i
  · rw [if_pos e, e]
    split <;> omega
  · rw [if_neg e, h2 j hj e]
    rfl
theorem part_rad (h : LotC n top S L) (hL : L ≠ []) (hS : PlacesOk n S) : minS n ((partM n top L).map (radL n)) = (unitsOf n S).mergeSort leR := by
  have units : ∀ i, i < n → ((i : Nat) : Int) ∈ S → unitV n i ∈ (partM n top L).map (radL n) := fun i hi hiS => by
    obtain ⟨m, hm, h1, h2⟩ := raw_pure h hL hi hiS
    exact List.mem_map.mpr ⟨m, part_mem.mpr hm, rad_unit h hi h1 h2⟩
  have one : ∀ m ∈ rawM n top L, ∃ i, i < n ∧ ((i : Nat) : Int) ∈ S ∧ 1 ≤ gI m i := fun m hm => by
    obtain ⟨c, hc⟩ := List.exists_mem_of_ne_nil L hL
    obtain ⟨i, hi, _, h1⟩ := raw_in h hm hc
    exact ⟨i, hi, raw_sup h hm hi h1, h1⟩
  refine minS_units (fun m hm => by obtain ⟨g, _, rfl⟩ := List.mem_map.mp hm; exact radL_len) hS fun x => ⟨?_, ?_⟩
  · rintro ⟨hx, hmin⟩
    obtain ⟨m, hm, rfl⟩ := List.mem_map.mp hx
    have hm' := part_mem.mp hm
    obtain ⟨i, hi, hiS, h1⟩ := one m hm'
    refine ⟨(i : Nat), hiS, ?_⟩
    rw [Int.toNat_natCast]
    refine (hmin _ (units i hi hiS) fun j hj => ?_).symm
    rw [gI_unit hj, radL_gI hj]
    by_cases e : j = i
    · rw [if_pos e, e]
      split <;> omega
    · rw [if_neg e]
      have := (raw_nn h hm' hj).1
      split <;> omega
  · rintro ⟨p, hp, rfl⟩
    have hp' := hS.2 p hp
    refine ⟨units _ (by omega) (by rw [show ((p.toNat : Nat) : Int) = p by omega]; exact hp), fun y hy hle => ?_⟩
    obtain ⟨m, hm, rfl⟩ := List.mem_map.mp hy
    have hm' := part_mem.mp hm
    obtain ⟨i, hi, hiS, h1⟩ := one m hm'
    have hle' : ∀ j, j < n → (if 1 < gI m j then 1 else gI m j) ≤ if j = p.toNat then 1 else 0 := fun j hj => by
      have := hle j hj
      rwa [radL_gI hj, gI_unit hj] at this
    have eip : i = p.toNat := by
      by_cases e : i = p.toNat
      · exact e
      · have := hle' i hi
        rw [if_neg e] at this
        split at this <;> omega
    subst eip
    refine rad_unit h hi h1 fun j hj hne => ?_
    have h3 := hle' j hj
    rw [if_neg hne] at h3
    have := (raw_nn h hm' hj).1
    split at h3 <;> omega
/-- the part's corners have the lot's support -/
theorem part_corner (h : LotC n top S L) (hL : L ≠ []) (hS : PlacesOk n S) {c : List Int} (hc : Corner n (partM n top L) c) : suppI n c = S := by
  refine places_ext supp_ok hS fun p => ⟨fun hp => ?_, fun hp => ?_⟩
  · obtain ⟨i, hi, hci, rfl⟩ := supp_mem.mp hp
    obtain ⟨g, hg, e, _⟩ := hc.B i hi hci
    have := hc.lo i hi
    exact raw_sup h (part_mem.mp hg) hi (by omega)
  · have hp' := hS.2 p hp
    obtain ⟨m, hm, h1, h2⟩ := raw_pure h hL (i := p.toNat) (by omega) (by rw [show ((p.toNat : Nat) : Int) = p by omega]; exact hp)
    obtain ⟨j, hj, hle⟩ := hc.F m (part_mem.mpr hm)
    have hl := hc.lo j hj
    have ej : j = p.toNat := by
      by_cases e : j = p.toNat
      · exact e
      · have := h2 j hj e; omega
    subst ej
    have h3 := raw_nn h hm hj
    have := h.top
    exact supp_mem.mpr ⟨p.toNat, hj, by omega, by omega⟩
theorem part_some (h : LotC n top S L) (hL : L ≠ []) : ∃ c, Corner n (partM n top L) c := by
  have g1 : ∀ i, i < n → gI (List.replicate n (1 : Int)) i = 1 := fun i hi => by
    unfold gI
    rw [List.getD_eq_getElem?_getD, List.getElem?_replicate, if_pos hi]; rfl
  obtain ⟨d, hd, _⟩ := corner_above (part_ms h) (c := List.replicate n (1 : Int)) (by simp) (fun i hi => by rw [g1 i hi]; omega) fun g hg => by
    obtain ⟨c, hc⟩ := List.exists_mem_of_ne_nil L hL
    obtain ⟨i, hi, _, h1⟩ := raw_in h (part_mem.mp hg) hc
    exact ⟨i, hi, by rw [g1 i hi]; exact h1⟩
  exact ⟨d, hd⟩
theorem part_assoc (h : LotC n top S L) (hL : L ≠ []) (hS : PlacesOk n S) : assocL n (partM n top L) = [S] := by
  have hM := part_ms h
  have e1 : assocL n (partM n top L) = setL [S] := setL_congr fun x => by
    rw [List.mem_map, List.mem_singleton]
    constructor
    · rintro ⟨c, hc, rfl⟩
      exact part_corner h hL hS ((corners_mem hM c).mp hc)
    · rintro rfl
      obtain ⟨c, hc⟩ := part_some h hL
      exact ⟨c, (corners_mem hM c).mpr hc, part_corner h hL hS hc⟩
  rw [e1]
  unfold setL dd
  rw [if_neg (by simp)]
  exact List.mergeSort_singleton _
/-- the part's monomials reach the lot's corners -/
theorem part_holds (h : LotC n top S L) {w : List Int} (hw : ∀ i, i < n → 0 ≤ gI w i ∧ gI w i < 1000) : holdsB n (partM n top L) w = true ↔ ∀ c ∈ L, ∃ i, i < n ∧ gI c i ≤ gI w i := by
  rw [holdsB_iff]
  constructor
  · rintro ⟨m, hm, hle⟩ c hc
    obtain ⟨i, hi, h1, _⟩ := raw_in h (part_mem.mp hm) hc
    exact ⟨i, hi, Int.le_trans h1 (hle i hi)⟩
  · intro hr
    obtain ⟨m, hm, hle⟩ := raw_all h hw hr
    exact ⟨m, part_mem.mpr hm, hle⟩
/-- a product leaves the part only by places of the support -/
theorem part_power (h : LotC n top S L) {a b : List Int} (hab : holdsB n (partM n top L) ((List.range n).map fun i => gI a i + gI b i) = true) (ha : ¬ holdsB n (partM n top L) a = true) (ha0 : ∀ i, i < n → 0 ≤ gI a i) : ∃ p ∈ S, ¬ gI b p.toNat ≤ 0 := by
  refine Classical.byContradiction fun no => ha ?_
  rw [holdsB_iff] at hab ⊢
  obtain ⟨m, hm, hle⟩ := hab
  refine ⟨m, hm, fun i hi => ?_⟩
  have hg : gI ((List.range n).map fun i => gI a i + gI b i) i = gI a i + gI b i := by
    conv => lhs; unfold gI
    rw [List.getD_eq_getElem?_getD, List.getElem?_map, List.getElem?_range hi]; rfl
  have h1 := hle i hi
  rw [hg] at h1
  have h0 := ha0 i hi
  rcases Int.lt_or_le 0 (gI m i) with z | z
  · have hs := raw_sup h (part_mem.mp hm) hi (by omega)
    have hb : gI b i ≤ 0 := Classical.byContradiction fun c => no ⟨_, hs, by rw [Int.toNat_natCast]; exact c⟩
    omega
  · omega
end

/-! ### comprehensions over two walks; mono_meet, meet_of_corners -/
theorem pi_zipAK {X : Cx} {K : PySem.W.Frag} {e e2 : Expr} {ta : TA} {p pos tpos : Pos} {elts : List Expr} {kk : Nat} (hK : X.K = K) (hg : Gl X "zip") (hm : X.mg "zip" = none) (ha : PA X [e, e2] ta)
    (hs : starEach [e, e2] X.env = (false, eval e X.env) :: starEach [e2] X.env := by rfl) (hpl : (backTo pos (starEach [e2] X.env)).any (·.1) = false := by rfl) :
    PI X (.Tuple elts kk tpos) (.Call (.Name "zip" p) [e, e2] [] pos) (RZ.iZipA K ta) := by
  subst hK
  exact RZ.pi_zipA hg hm ha hs hpl
section
variable {J : It} {n : Nat} {G : Hp → Prop} {Y : Nat → Hp → V → Hp → Prop}
theorem in_it (w : Walk J n G Y) {g : TG} {tt : TT} {te : TE} {vs : List Nat} {σ : L2.St} {H4 : Hp} {D : Addr} {Qd : Hp → Prop} (Pv : Nat → Hp → Prop) (h0 : Pv 0 H4) (hG : ∀ i H, i ≤ n → Pv i H → G H)
    (hs : ∀ i x H H', i < n → Pv i H → Y i H x H' → g x (wipe σ vs) H' fun σ2 H2 => wipe σ2 vs = wipe σ vs ∧ tt σ2 H2 fun b H3 =>
      if b = true then te σ2 H3 fun y H4 => ∃ acc, H4 D = some (.lst acc) ∧ acc.length < sizeLine ∧ Pv (i + 1) (upd H4 D (.lst (acc ++ [y]))) else Pv (i + 1) H3) (hd : ∀ H, Pv n H → Qd H) :
    ∃ W : Nat → Nat → Hp → Prop, (∃ m, W 0 m H4) ∧ ∀ i m H, W i m H →
      (J.stop i H ∧ Qd H) ∨ (J.go i H ∧ ∃ Nx : Hp → Prop, (∀ H', Nx H' → ∃ m', m' < m ∧ W (i + 1) m' H') ∧ ∀ x H', J.yld i H x H' → g x (wipe σ vs) H' fun σ2 H2 => wipe σ2 vs = wipe σ vs ∧ tt σ2 H2 fun b H3 =>
        if b = true then te σ2 H3 fun y H4 => ∃ acc, H4 D = some (.lst acc) ∧ acc.length < sizeLine ∧ Nx (upd H4 D (.lst (acc ++ [y]))) else Nx H3) := by
  refine ⟨fun i m H => m = n - i ∧ i ≤ n ∧ Pv i H, ⟨n, by simp, Nat.zero_le _, h0⟩, ?_⟩
  rintro i m H ⟨rfl, hi, p⟩
  have q := hG i H hi p
  by_cases hlt : i < n
  · refine .inr ⟨w.goes i H hlt q, Pv (i + 1), fun H' p' => ⟨n - (i + 1), by omega, rfl, hlt, p'⟩, fun x H' y => hs i x H H' hlt p (w.yields i H x H' hlt q y)⟩
  · have e : i = n := by omega
    subst e
    exact .inl ⟨w.stops H q, hd H p⟩
theorem out_it (w : Walk J n G Y) {g : TG} {tt : TT} {wi1 : TI} {F : L2.St → (Hp → Prop) → It → Hp → Prop} {vs : List Nat} {σ : L2.St} {H1 : Hp} {D : Addr} {Qd : Hp → Prop} (Pv : Nat → Hp → Prop) (h0 : Pv 0 (upd H1 D (.lst []))) (hG : ∀ i H, i ≤ n → Pv i H → G H)
    (hs : ∀ i x H H', i < n → Pv i H → Y i H x H' → g x (wipe σ vs) H' fun σ2 H2 => wipe σ2 vs = wipe σ vs ∧ tt σ2 H2 fun b H3 => if b = true then wi1 σ2 H3 (F σ2 (Pv (i + 1))) else Pv (i + 1) H3) (hd : ∀ H, Pv n H → Qd H) :
    ∃ W : Nat → Nat → Hp → Prop, (∃ m, W 0 m (upd H1 D (.lst []))) ∧ ∀ i m H, W i m H →
      (J.stop i H ∧ Qd H) ∨ (J.go i H ∧ ∃ Nx : Hp → Prop, (∀ H', Nx H' → ∃ m', m' < m ∧ W (i + 1) m' H') ∧ ∀ x H', J.yld i H x H' → g x (wipe σ vs) H' fun σ2 H2 => wipe σ2 vs = wipe σ vs ∧ tt σ2 H2 fun b H3 =>
        if b = true then wi1 σ2 H3 (F σ2 Nx) else Nx H3) := by
  refine ⟨fun i m H => m = n - i ∧ i ≤ n ∧ Pv i H, ⟨n, by simp, Nat.zero_le _, h0⟩, ?_⟩
  rintro i m H ⟨rfl, hi, p⟩
  have q := hG i H hi p
  by_cases hlt : i < n
  · refine .inr ⟨w.goes i H hlt q, Pv (i + 1), fun H' p' => ⟨n - (i + 1), by omega, rfl, hlt, p'⟩, fun x H' y => hs i x H H' hlt p (w.yields i H x H' hlt q y)⟩
  · have e : i = n := by omega
    subst e
    exact .inl ⟨w.stops H q, hd H p⟩
end
section
variable {P : Program} {w : World} {K : PySem.W.Frag} {mg : Str → Option Value} {base : Heap}
def sp_mono_meet (t : TabsAt) (K : PySem.W.Frag) : Sp := fun vs H Q _ => ∃ (n : Nat) (u v : V) (ks ms : List (List Int)), vs = [.int n, u, v] ∧ 1 ≤ n ∧ n ≤ 8 ∧ Dp K H u (rsD ks) ∧ LotOk n ks ∧ Dp K H v (rsD ms) ∧ LotOk n ms ∧ TS t H ∧ ∀ p H', Ex t H H' → Dp K H' (.ref p) (rsD (minS n (ks.flatMap fun a => ms.map (lcmL n a)))) → Q (.ref p) H'
theorem ok_mono_meet (T : Txt K mg) {t : TabsAt} (B : TBs T base t) : FnOk P w K mg base CX0 16 T.mono_meet.f T.mono_meet.fd P_mono_meet (sp_mono_meet t K) := by
  refine T.mono_meet.F.ok sc_mono_meet (fun vs H Q E h => ?_) (fun cdv A outer s H vs Q E hr h => ?_)
  · obtain ⟨n, u, v, ks, ms, rfl, _⟩ := h; rfl
  · obtain ⟨n, u, v, ks, ms, rfl, hn1, hn, hu, hlk, hv, hlot, ts, kk⟩ := h
    have hbig : 1000000 < sizeLine := by decide
    refine ⟨_, (pss_cons (ps_expr (pe_call (ok_check_ideal T B) (hr.mono (by decide)) rfl T.check_ideal.g T.check_ideal.F.kp (b_check_ideal T) .nil pass0 (pa_cons (pv 0) (pa_cons (pv 1) pa_nil))))
  (pss_cons (ps_expr (pe_call (ok_check_monos T B) (hr.mono (by decide)) rfl T.check_monos.g T.check_monos.F.kp (b_check_monos T) .nil pass0 (pa_cons (pv 0) (pa_cons (pv 2) pa_nil))))
  (pss_one (ps_ret (pe_call (ok_ascending_least T B) (hr.mono (by decide)) rfl T.ascending_least.g T.ascending_least.F.kp (b_ascending_least T) .nil pass0 (pa_cons (pe_lc2 (own := [("m", 5), ("k", 6)]) (vs1 := [6]) rfl sc_mono_meet.nd (pi_tup (pv 1)) (blkOk_by (own := [("m", 5), ("k", 6)]) (N := N_mono_meet) (sc := defScope s_mono_meet) (by decide +kernel)) (by decide) (fun _ _ _ _ _ => (pg_name (i := 5) sc_mono_meet.nd rfl (Or.inl rfl))) (fun _ _ _ _ _ => pts_nil) (fun _ _ _ _ _ => (pi_tupK (K := K) rfl (pv 2))) (fun _ _ _ _ _ => (pg_name (i := 6) sc_mono_meet.nd rfl (Or.inl rfl))) (fun _ _ _ _ _ => pts_nil) (fun _ _ _ _ _ => (pe_callTy (r := rTupOf K) call_tuple_of rfl T.n_tuple bo_tuple (pa_cons (pe_lc (own := [("a", 3), ("b", 4)]) rfl sc_mono_meet.nd (pi_zipAK (K := K) rfl rfl T.n_zip (pa_cons (pv 5) (pa_cons (pv 6) pa_nil))) (blkOk_in (own := [("a", 3), ("b", 4)]) (N := N_mono_meet) (sc := _) (by decide +kernel)) (fun _ _ _ _ _ => (pg_tupK (K := K) (n := 2) rfl rfl (pgs_cons (pg_name (i := 3) sc_mono_meet.nd rfl (Or.inl rfl)) (pgs_cons (pg_name (i := 4) sc_mono_meet.nd rfl (Or.inl rfl)) pgs_nil)))) (fun _ _ _ _ _ => pts_nil) (fun _ _ _ _ _ => (pe_callB (call_max2 rfl) rfl T.n_max bo_max (pa_cons (pv 3) (pa_cons (pv 4) pa_nil))))) pa_nil)))) pa_nil)))))), ?_⟩
    walk_at "rd"
    refine ⟨n, u, ks, rfl, hn1, hn, hu, hlk, ts, fun H1 x1 => ?_⟩
    have hv1 := Dp.tp (tp_ext x1.keep) _ _ (tOnly_rsD ms) hv
    walk_at "rd"
    refine ⟨n, v, ms, rfl, hv1, hlot, x1.ts, fun H2 x2 => ?_⟩
    have x12 := x1.trans x2
    obtain ⟨ak, xs, rfl, hak, hks⟩ := rows_tup (Dp.tp (tp_ext x12.keep) _ _ (tOnly_rsD ks) hu)
    obtain ⟨am, ys, rfl, ham, hms⟩ := rows_tup (Dp.tp (tp_ext x12.keep) _ _ (tOnly_rsD ms) hv)
    have hxl : xs.length = ks.length := by have := Toy.DpAll.len hks; rwa [List.length_map] at this
    have hyl : ys.length = ms.length := by have := Toy.DpAll.len hms; rwa [List.length_map] at this
    have hkl := hlk.1
    have hml := hlot.1
    walk_at "rd"
    refine ⟨⟨_, hak⟩, fun D hD => ?_⟩
    refine out_it (walk_tup (K := K) (a := ak) (xs := xs)) (fun i H' => ∃ zs : List V, Same H2 H' ∧ H' D = some (.lst zs) ∧ zs.length ≤ i * 12 ∧ DpAll K H' zs (((ks.take i).flatMap fun a => ms.map (lcmL n a)).map rD)) ⟨[], same_upd hD, upd_same, Nat.zero_le _, .nil⟩ (fun i H' _ q => ?_) (fun i x Ha Hb hi q y => ?_) (fun H3 q => ?_)
    · obtain ⟨zs, q1, _⟩ := q
      exact Toy.Same.tup q1 hak
    · obtain ⟨zs, q1, q2, q3, q4⟩ := q
      obtain ⟨rfl, ey⟩ := y
      obtain ⟨aa, a, ha, rfl, haa⟩ := row_at hks ey
      have hal := (hlk.2 a (List.mem_of_getElem? ha)).1
      have ham2 := Toy.Same.tup q1 ham
      have hms2 := DpAll.same q1 _ _ hms
      refine ⟨rfl, ?_⟩
      walk_at "rd"
      refine ⟨⟨_, ham2⟩, ?_⟩
      refine in_it (walk_tup (K := K) (a := am) (xs := ys)) (fun j H' => ∃ zs : List V, Same H2 H' ∧ H' D = some (.lst zs) ∧ zs.length ≤ i * 12 + j ∧ DpAll K H' zs ((((ks.take i).flatMap fun a => ms.map (lcmL n a)) ++ (ms.take j).map (lcmL n a)).map rD)) ⟨zs, q1, q2, q3, by rw [List.take_zero, List.map_nil, List.append_nil]; exact q4⟩ (fun j H' _ q => ?_) (fun j x Hc Hd hj q y => ?_) (fun H3 q => ?_)
      · obtain ⟨zs, q1, _⟩ := q
        exact Toy.Same.tup q1 ham
      · obtain ⟨zs, r1, r2, r3, r4⟩ := q
        obtain ⟨rfl, ey⟩ := y
        obtain ⟨ab, b, hb, rfl, hab⟩ := row_at hms ey
        have hbl := (hlot.2 b (List.mem_of_getElem? hb)).1
        refine ⟨rfl, ?_⟩
        walk_at "rd"
        have haa2 := Toy.Same.tup r1 haa
        have hab2 := Toy.Same.tup r1 hab
        refine ⟨aa, ab, _, _, rfl, .inr ⟨haa2, hab2, fun D2 hD2 => ?_⟩⟩
        refine lc_mkInts (walk_zipTT (K := K) (a := aa) (b := ab) (xs := a.map V.int) (ys := b.map V.int) (n := n) (by simp [hal, hbl])) (fun i => if gI b i > gI a i then gI b i else gI a i) (fun H' s' => ⟨Toy.Same.tup s' haa2, Toy.Same.tup s' hab2⟩) hD2 (by omega) (fun k x He Hf Qv hk s2 y hq2 => ?_) (fun H6 s6 e6 => ?_)
        · obtain ⟨Tz, x1, y1, rfl, nT, rfl, ex, ey⟩ := y
          obtain ⟨_, rfl⟩ := gI_of ex
          obtain ⟨_, rfl⟩ := gI_of ey
          refine ⟨Tz, _, rfl, .inl (.inl upd_same), rfl, ?_⟩
          walk_at "rd"
          exact hq2 _ (same_upd nT)
        · walk_at "rd"
          refine ⟨_, _, rfl, .inl ⟨.inl (.inl e6), fun l hl => ?_⟩⟩
          have s7 := Same.trans s6 (same_upd (o := .tup (((List.range n).map fun i => if gI b i > gI a i then gI b i else gI a i).map V.int)) hl)
          have z7 := s7 _ _ r2
          refine ⟨zs, z7, by omega, zs ++ [.ref l], fun b' v e => ?_, upd_same, by simp; omega, ?_⟩
          · rw [upd_ne (ne_of_none e hD)]
            exact s7 _ _ (r1 _ _ e)
          · have et : (ms.take (j + 1)) = ms.take j ++ [b] := by rw [List.take_add_one, hb]; rfl
            have eL : ∀ X : List (List Int), X ++ (ms.take (j + 1)).map (lcmL n a) = (X ++ (ms.take j).map (lcmL n a)) ++ [lcmL n a b] := fun X => by
              rw [et, List.map_append, List.append_assoc]; rfl
            rw [eL, List.map_append]
            exact DpAll.tp (tp_lst z7) _ _ (by rw [← List.map_append]; exact tOnly_rows _) (dpAll_snoc (DpAll.same s7 _ _ r4) (dp_ints (.inl (.inl upd_same))))
      · obtain ⟨zs, r1, r2, r3, r4⟩ := q
        rw [hyl, List.take_length] at r4
        refine ⟨zs, r1, r2, by omega, ?_⟩
        rw [flat_take ha]
        exact r4
    · obtain ⟨zs, q1, q2, q3, q4⟩ := q
      rw [hxl, List.take_length] at q4
      have x3 := x12.same q1
      have hzl : (ks.flatMap fun a => ms.map (lcmL n a)).length ≤ 1000 := by
        have h1 := Toy.DpAll.len q4
        rw [List.length_map] at h1
        omega
      walk_at "rd"
      refine ⟨D, n, zs, _, rfl, .inl (.inl (.inl q2)), q4, fun g hg => ?_, hn1, hzl, x3.ts, fun p H6 x6 d6 => ?_⟩
      · obtain ⟨a, _, hg'⟩ := List.mem_flatMap.mp hg
        obtain ⟨g', _, rfl⟩ := List.mem_map.mp hg'
        unfold lcmL
        simp
      · walk_at "rd"
        exact kk _ _ (x3.trans x6) d6
end

/-! ### how many corners -/
theorem corners_few {n top : Nat} {T : List (List Int)} (h : DrawnOk n top T) (ht : top ≤ 8) (hn : 1 ≤ n) {i : Nat} (hi : i ≤ T.length) : (corners n T i).length ≤ (top + 1) ^ (n - 1) := by
  have hG := drawn_ms h ht
  have hD : DrawnOk n top (T.take i) := fun m hm => h m (List.mem_of_mem_take hm)
  obtain ⟨nd, mem⟩ := corners_all hG i hi
  have h1 := nodup_len nd (m := cornersL n (T.take i)) fun c hc => (corners_mem (drawn_ms hD ht) c).mpr ((mem c).mp hc)
  have h2 := parts_few hD ht hn
  have h3 : (partsL n (T.take i)).length = (cornersL n (T.take i)).length := by
    unfold partsL cornersL
    rw [List.length_mergeSort, List.length_map]
  omega

/-! ### meet_of_corners -/
section
variable {P : Program} {w : World} {K : PySem.W.Frag} {mg : Str → Option Value} {base : Heap}
/-- corners with small bounds -/
def LotB (n b : Nat) (L : List (List Int)) : Prop := ∀ c ∈ L, c.length = n ∧ ∀ i, i < n → 1 ≤ gI c i ∧ gI c i ≤ 1000 ∧ (gI c i < 1000 → gI c i ≤ (b : Int))
def TopOf (n b : Nat) (L : List (List Int)) (top : Int) : Prop := 1 ≤ top ∧ top ≤ (b : Int) + 1 ∧ ∀ c ∈ L, ∀ i, i < n → gI c i < 1000 → gI c i < top
theorem turn_drawn {n b : Nat} {L : List (List Int)} {top : Int} (h : LotB n b L) (ht : TopOf n b L top) : DrawnOk n b (L.map (turnL top)) := fun m hm => by
  obtain ⟨c, hc, rfl⟩ := List.mem_map.mp hm
  obtain ⟨hl, hb⟩ := h c hc
  refine ⟨by rw [len_turn, hl], fun e he => ?_⟩
  obtain ⟨i, hi, rfl⟩ := List.mem_iff_getElem.mp he
  rw [len_turn] at hi
  have eg : gI (turnL top c) i = (turnL top c)[i] := by
    have := gI_get (l := turnL top c) (i := i) (by rw [len_turn]; exact hi)
    rw [List.getElem?_eq_getElem (by rw [len_turn]; exact hi)] at this
    exact (Option.some.inj this).symm
  rw [← eg, gI_turn hi]
  have h1 := hb i (by omega)
  have h2 := ht.2.2 c hc i (by omega)
  have h3 := ht.1
  have h4 := ht.2.1
  split <;> omega
theorem tailM_ok (T : Txt K mg) {t : TabsAt} (B : TBs T base t) {fl : Addr} {cdv : Value} {A : Around} {outer : List Env} {s : Shared} {H0 : Hp} {E : XK} (hr : Room 16 (A.deeper (PyProof.Rows.envOfC "meet_of_corners" (defScope s_meet_of_corners) s.heap.objs.size fl cdv))) :
    ∃ tt, PSs (cxOf CX0 P w K mg base N_meet_of_corners "meet_of_corners" (defScope s_meet_of_corners) fl cdv A outer s H0 E).nox ((defBody s_meet_of_corners).drop 1) tt ∧
      ∀ (Q : VK) (H : Hp) (n b : Nat) (l : Addr) (xs : List V) (L : List (List Int)) (top : Int), 1 ≤ n → n ≤ 4 → b ≤ 7 → SqL K H l xs → DpAll K H xs (L.map rD) → L.length ≤ 64 → LotB n b L → TopOf n b L top → TS t H → (∀ p H', Ex t H H' → Dp K H' (.ref p) (rsD (partM n top L)) → Q (.ref p) H') →
        tt { nx := fun _ H' => Q .non H', rt := Q } [some (.int n), some (.ref l), some (.int top), none, none, none, none] H := by
  refine ⟨_, (pss_cons (ps_setLc (i := 5) (own := [("corner", 3)]) rfl sc_meet_of_corners.nd rfl rfl (sw_true rfl rfl rfl (by decide +kernel)) (pi_list (pv 1)) (blkOk_by (own := [("corner", 3)]) (N := N_meet_of_corners) (sc := defScope s_meet_of_corners) (by decide +kernel)) (fun _ _ _ _ _ => (pg_name (i := 3) sc_meet_of_corners.nd rfl (Or.inl rfl))) (fun _ _ _ _ _ => pts_nil) (fun _ _ _ _ _ => (pe_callTy (r := rTupOf K) call_tuple_of rfl T.n_tuple bo_tuple (pa_cons (pe_lc (own := [("bound", 4)]) rfl sc_meet_of_corners.nd (pi_tupK (K := K) rfl (pv 3)) (blkOk_in (own := [("bound", 4)]) (N := N_meet_of_corners) (sc := scOf (rvOf ((defBody s_meet_of_corners).getD 1 (.Pass ⟨0, 0, 0, 0⟩)))) (by decide +kernel)) (fun _ _ _ _ _ => (pg_name (i := 4) sc_meet_of_corners.nd rfl (Or.inl rfl))) (fun _ _ _ _ _ => pts_nil) (fun _ _ _ _ _ => (pe_ifExp (pt_cmpR op_lt (pv 4) (pe_glob rfl T.g_FAR (v := .int 1000) ⟨_, rfl⟩) (nomark _)) (pe_op op_sub (pv 2) (pv 4)) pe_int))) pa_nil))))
  (pss_cons (ps_setLc (i := 6) (own := [("corner", 3)]) rfl sc_meet_of_corners.nd rfl rfl (sw_true rfl rfl rfl (by decide +kernel)) (pi_list (pe_call (ok_corners_of T B) (hr.mono (by decide)) rfl T.corners_of.g T.corners_of.F.kp (b_corners_of T) .nil pass0 (pa_cons (pv 0) (pa_cons (pv 5) pa_nil)))) (blkOk_by (own := [("corner", 3)]) (N := N_meet_of_corners) (sc := defScope s_meet_of_corners) (by decide +kernel)) (fun _ _ _ _ _ => (pg_name (i := 3) sc_meet_of_corners.nd rfl (Or.inl rfl))) (fun _ _ _ _ _ => pts_nil) (fun _ _ _ _ _ => (pe_callTy (r := rTupOf K) call_tuple_of rfl T.n_tuple bo_tuple (pa_cons (pe_lc (own := [("bound", 4)]) rfl sc_meet_of_corners.nd (pi_tupK (K := K) rfl (pv 3)) (blkOk_in (own := [("bound", 4)]) (N := N_meet_of_corners) (sc := scOf (rvOf ((defBody s_meet_of_corners).getD 2 (.Pass ⟨0, 0, 0, 0⟩)))) (by decide +kernel)) (fun _ _ _ _ _ => (pg_name (i := 4) sc_meet_of_corners.nd rfl (Or.inl rfl))) (fun _ _ _ _ _ => pts_nil) (fun _ _ _ _ _ => (pe_ifExp (pt_cmpR op_lt (pv 4) (pe_glob rfl T.g_FAR (v := .int 1000) ⟨_, rfl⟩) (nomark _)) (pe_op op_sub (pv 2) (pv 4)) pe_int))) pa_nil))))
  (pss_one (ps_ret (pe_callTy (r := rTupOf K) call_tuple_of rfl T.n_tuple bo_tuple (pa_cons (pe_callB (r := rSortedD K) (cr_sortedD hr.units) rfl T.n_sorted bo_sorted (pa_cons (pv 6) pa_nil)) pa_nil)))))), ?_⟩
  intro Q H n b l xs L top hn1 hn hb hl hd hlen hL hT ts kk
  have hbig : 1000000 < sizeLine := by decide
  have hxl : xs.length = L.length := by have := Toy.DpAll.len hd; rwa [List.length_map] at this
  have hDr := turn_drawn hL hT
  walk_at "rd"
  refine ⟨⟨_, hl⟩, fun D hD => ?_⟩
  refine lc_mkRows (K := K) (walk_list (K := K) (a := l) (xs := xs)) (fun i => turnL top (L.getD i [])) (fun H' s' => s'.seq hl) hD (by omega) (fun i x Ha Hb Qv hi s1 y hq => ?_) (fun H2 zs s2 e2 d2 => ?_)
  · obtain ⟨rfl, ey⟩ := y
    obtain ⟨ac, c, hc, rfl, hac⟩ := row_at hd ey
    have hcl := (hL c (List.mem_of_getElem? hc)).1
    have hac1 := Toy.Same.tup s1 hac
    refine ⟨rfl, ?_⟩
    walk_at "rd"
    refine ⟨⟨_, hac1⟩, fun D2 hD2 => ?_⟩
    have hcz : (c.map V.int).length = n := by rw [List.length_map]; exact hcl
    refine lc_mkInts (walk_tup (K := K) (a := ac) (xs := c.map V.int)) (fun i => if gI c i < 1000 then top - gI c i else 0) (fun H' s' => Toy.Same.tup s' hac1) hD2 (by omega) (fun k x Hc Hd Qv hk s2 y hq2 => ?_) (fun H6 s6 e6 => ?_)
    · obtain ⟨rfl, ey⟩ := y
      obtain ⟨_, rfl⟩ := gI_of ey
      refine ⟨rfl, ?_⟩
      have q := hq2 _ (Same.refl _)
      walk_at "rd"
      refine iteD (fun hb => ?_) (fun hb => ?_)
      · walk_at "rd"
        rw [if_pos hb] at q
        exact q
      · rw [if_neg hb] at q
        exact q
    · walk_at "rd"
      refine ⟨_, _, rfl, .inl ⟨.inl (.inl e6), fun l hl => ?_⟩⟩
      refine hq l _ (Same.trans s6 (same_upd hl)) ?_
      rw [List.getD_eq_getElem?_getD, hc]
      have em : (List.range (c.map V.int).length).map (fun i => if gI c i < 1000 then top - gI c i else 0) = turnL top c := by
        rw [List.length_map]
        exact range_map c fun b => if b < 1000 then top - b else 0
      rw [em]
      exact .inl (.inl upd_same)
  · rw [hxl, range_rows L (turnL top)] at d2
    have x2 := Ex.of ts s2
    have hlM : ∀ g ∈ L.map (turnL top), g.length = n := fun g hg => (hDr g hg).1
    walk_at "rd"
    refine ⟨D, n, zs, L.map (turnL top), rfl, e2, d2, hlM, hn1, by omega, by rw [List.length_map]; omega, fun i hi => ?_, x2.ts, fun pc H3 cs x3 npc e3 d3 => ?_⟩
    · have h1 := corners_few hDr (by omega) hn1 hi
      have h2 : (b + 1) ^ (n - 1) ≤ 8 ^ (n - 1) := Nat.pow_le_pow_left (by omega) _
      have h3 : 8 ^ (n - 1) ≤ 8 ^ 3 := Nat.pow_le_pow_right (by decide) (by omega)
      omega
    have hcm := corners_mem_len (n := n) (ms := L.map (turnL top)) (L.map (turnL top)).length
    have hcf : (corners n (L.map (turnL top)) (L.map (turnL top)).length).length ≤ 512 := by
      have h1 := corners_few hDr (by omega) hn1 (Nat.le_refl _)
      have h2 : (b + 1) ^ (n - 1) ≤ 8 ^ (n - 1) := Nat.pow_le_pow_left (by omega) _
      have h3 : 8 ^ (n - 1) ≤ 8 ^ 3 := Nat.pow_le_pow_right (by decide) (by omega)
      omega
    have x03 := x2.trans x3
    have eP : partM n top L = ((corners n (L.map (turnL top)) (L.map (turnL top)).length).map (turnL top)).mergeSort leR := rfl
    rw [eP] at kk
    generalize corners n (L.map (turnL top)) (L.map (turnL top)).length = C at *
    have hcsl : cs.length = C.length := by have := Toy.DpAll.len d3; rwa [List.length_map] at this
    refine ⟨_, rfl, ⟨_, .inl (.inl e3)⟩, fun D3 hD3 => ?_⟩
    refine lc_mkRows (K := K) (walk_list (K := K) (a := pc) (xs := cs)) (fun i => turnL top (C.getD i [])) (fun H' s' => .inl (.inl (s' _ _ e3))) hD3 (by omega) (fun i x Ha Hb Qv hi s1 y hq => ?_) (fun H4 ws s4 e4 d4 => ?_)
    · obtain ⟨rfl, ey⟩ := y
      obtain ⟨ac, c, hc, rfl, hac⟩ := row_at d3 ey
      have hcl := hcm c (List.mem_of_getElem? hc)
      have hac1 := Toy.Same.tup s1 hac
      refine ⟨rfl, ?_⟩
      walk_at "rd"
      refine ⟨⟨_, hac1⟩, fun D2 hD2 => ?_⟩
      have hcz : (c.map V.int).length = n := by rw [List.length_map]; exact hcl
      refine lc_mkInts (walk_tup (K := K) (a := ac) (xs := c.map V.int)) (fun i => if gI c i < 1000 then top - gI c i else 0) (fun H' s' => Toy.Same.tup s' hac1) hD2 (by omega) (fun k x Hc Hd Qv hk s2 y hq2 => ?_) (fun H6 s6 e6 => ?_)
      · obtain ⟨rfl, ey⟩ := y
        obtain ⟨_, rfl⟩ := gI_of ey
        refine ⟨rfl, ?_⟩
        have q := hq2 _ (Same.refl _)
        walk_at "rd"
        refine iteD (fun hb => ?_) (fun hb => ?_)
        · walk_at "rd"
          rw [if_pos hb] at q
          exact q
        · rw [if_neg hb] at q
          exact q
      · walk_at "rd"
        refine ⟨_, _, rfl, .inl ⟨.inl (.inl e6), fun l hl => ?_⟩⟩
        refine hq l _ (Same.trans s6 (same_upd hl)) ?_
        rw [List.getD_eq_getElem?_getD, hc]
        have em : (List.range (c.map V.int).length).map (fun i => if gI c i < 1000 then top - gI c i else 0) = turnL top c := by
          rw [List.length_map]
          exact range_map c fun b => if b < 1000 then top - b else 0
        rw [em]
        exact .inl (.inl upd_same)
    · rw [hcsl, range_rows C (turnL top)] at d4
      have x04 := x03.same s4
      walk_at "rd"
      delta tNil
      show rSortedD K [V.ref D3] H4 _
      refine sorted_rows (.inl (.inl e4)) d4 (fun c hc e => ?_) fun p2 zs' hp dz => ?_
      · obtain ⟨c', hc', rfl⟩ := List.mem_map.mp hc
        have h1 := hcm c' hc'
        have h2 := len_turn (top := top) (c := c')
        rw [e] at h2
        simp at h2
        omega
      · walk_at "rd"
        refine ⟨p2, zs', rfl, .inl ⟨.inl (.inl upd_same), fun l hl => ?_⟩⟩
        exact kk l _ (x04.same (Same.trans (same_upd hp) (same_upd hl))) (.tup (.inl (.inl upd_same)) (DpAll.same (same_upd hl) _ _ dz))
end

/-! ### meet_of_corners: the top; primary_parts -/
section
variable {P : Program} {w : World} {K : PySem.W.Frag} {mg : Str → Option Value} {base : Heap}
def topL (L : List (List Int)) : Int := 1 + (L.flatMap fun c => c.filter fun e => decide (e < 1000)).foldl max 0
def sp_meet_of_corners (t : TabsAt) (K : PySem.W.Frag) : Sp := fun vs H Q _ => ∃ (n b : Nat) (l : Addr) (xs : List V) (L : List (List Int)), vs = [.int n, .ref l] ∧ 1 ≤ n ∧ n ≤ 4 ∧ b ≤ 7 ∧ SqL K H l xs ∧ DpAll K H xs (L.map rD) ∧ L.length ≤ 64 ∧ LotB n b L ∧ TS t H ∧
  ∀ p H', TopOf n b L (topL L) → Ex t H H' → Dp K H' (.ref p) (rsD (partM n (topL L) L)) → Q (.ref p) H'
theorem ok_meet_of_corners (T : Txt K mg) {t : TabsAt} (B : TBs T base t) : FnOk P w K mg base CX0 17 T.meet_of_corners.f T.meet_of_corners.fd P_meet_of_corners (sp_meet_of_corners t K) := by
  refine T.meet_of_corners.F.ok sc_meet_of_corners (fun vs H Q E h => ?_) (fun cdv A outer s H vs Q E hr h => ?_)
  · obtain ⟨n, b, l, xs, L, rfl, _⟩ := h; rfl
  · obtain ⟨n, b, l, xs, L, rfl, hn1, hn, hb, hl, hd, hlen, hL, ts, kk⟩ := h
    have hbig : 1000000 < sizeLine := by decide
    have hxl : xs.length = L.length := by have := Toy.DpAll.len hd; rwa [List.length_map] at this
    obtain ⟨tM, hM, hqM⟩ := tailM_ok (P := P) (w := w) T B (cdv := cdv) (outer := outer) (H0 := H) (E := E) hr
    refine ⟨_, pss_cons (ps_set (i := 2) sc_meet_of_corners.nd rfl (Or.inr rfl) (pe_op op_add pe_int (pe_maxD hr rfl T.n_max bo_max (pe_lc2 (own := [("corner", 3), ("bound", 4)]) (vs1 := [4]) rfl sc_meet_of_corners.nd (pi_list (pv 1)) (blkOk_by (own := [("corner", 3), ("bound", 4)]) (N := N_meet_of_corners) (sc := defScope s_meet_of_corners) (by decide +kernel)) (by decide) (fun _ _ _ _ _ => (pg_name (i := 3) sc_meet_of_corners.nd rfl (Or.inl rfl))) (fun _ _ _ _ _ => pts_nil) (fun _ _ _ _ _ => (pi_tupK (K := K) rfl (pv 3))) (fun _ _ _ _ _ => (pg_name (i := 4) sc_meet_of_corners.nd rfl (Or.inl rfl))) (fun _ _ _ _ _ => pts_one (pt_cmpR op_lt (pv 4) (pe_glob rfl T.g_FAR (v := .int 1000) ⟨_, rfl⟩) (nomark _))) (fun _ _ _ _ _ => (pv 4))) pe_int))) hM, ?_⟩
    walk_at "rd"
    refine ⟨⟨_, hl⟩, fun D hD => ?_⟩
    refine out_it (walk_list (K := K) (a := l) (xs := xs)) (fun i H' => ∃ us : List Int, Same H H' ∧ H' D = some (.lst (us.map V.int)) ∧ us.length ≤ i * 4 ∧ us = (L.take i).flatMap fun c => c.filter fun e => decide (e < 1000)) ⟨[], same_upd hD, upd_same, Nat.zero_le _, rfl⟩ (fun i H' _ q => ?_) (fun i x Ha Hb hi q y => ?_) (fun H3 q => ?_)
    · obtain ⟨us, q1, _⟩ := q
      exact q1.seq hl
    · obtain ⟨us, q1, q2, q3, q4⟩ := q
      obtain ⟨rfl, ey⟩ := y
      obtain ⟨ac, c, hc, rfl, hac⟩ := row_at hd ey
      have hcl := (hL c (List.mem_of_getElem? hc)).1
      have hac1 := Toy.Same.tup q1 hac
      have hcz : (c.map V.int).length = n := by rw [List.length_map]; exact hcl
      refine ⟨rfl, ?_⟩
      walk_at "rd"
      refine ⟨⟨_, hac1⟩, ?_⟩
      refine in_it (walk_tup (K := K) (a := ac) (xs := c.map V.int)) (fun j H' => ∃ us' : List Int, Same H H' ∧ H' D = some (.lst (us'.map V.int)) ∧ us'.length ≤ i * 4 + j ∧ us' = us ++ (c.take j).filter fun e => decide (e < 1000)) ⟨us, q1, q2, q3, by simp⟩ (fun j H' _ q => ?_) (fun j x Hc Hd hj q y => ?_) (fun H3 q => ?_)
      · obtain ⟨us, q1, _⟩ := q
        exact Toy.Same.tup q1 hac
      · obtain ⟨us', r1, r2, r3, r4⟩ := q
        obtain ⟨rfl, ey⟩ := y
        obtain ⟨hjc, rfl⟩ := gI_of ey
        have et : c.take (j + 1) = c.take j ++ [gI c j] := by rw [List.take_add_one, gI_get hjc]; rfl
        refine ⟨rfl, ?_⟩
        walk_at "rd"
        refine iteD (fun hb => ?_) (fun hb => ?_)
        · walk_at "rd"
          have ef : [gI c j].filter (fun e => decide (e < 1000)) = [gI c j] := by simp [hb]
          refine ⟨_, r2, by rw [List.length_map]; omega, us' ++ [gI c j], fun b' v e => ?_, by rw [upd_same, List.map_append]; rfl, by simp; omega, ?_⟩
          · rw [upd_ne (ne_of_none e hD)]
            exact r1 _ _ e
          · rw [et, List.filter_append, ef, r4, List.append_assoc]
        · have ef : [gI c j].filter (fun e => decide (e < 1000)) = [] := by simp [hb]
          refine ⟨us', r1, r2, by omega, ?_⟩
          rw [et, List.filter_append, ef, List.append_nil]
          exact r4
      · obtain ⟨us', r1, r2, r3, r4⟩ := q
        rw [hcz] at r3
        rw [hcz, ← hcl, List.take_length] at r4
        refine ⟨us', r1, r2, by omega, ?_⟩
        rw [flat_take hc, r4, q4]
    · obtain ⟨us, q1, q2, q3, q4⟩ := q
      rw [hxl, List.take_length] at q4
      have x3 := Ex.of ts q1
      have hin : ∀ c ∈ L, ∀ i, i < n → gI c i < 1000 → gI c i ∈ us := fun c hc i hi hlt => by
        rw [q4]
        refine List.mem_flatMap.mpr ⟨c, hc, List.mem_filter.mpr ⟨List.mem_of_getElem? (gI_get (by rw [(hL c hc).1]; exact hi)), by simpa using hlt⟩⟩
      have hof : ∀ e ∈ us, 1 ≤ e ∧ e ≤ (b : Int) := fun e he => by
        rw [q4] at he
        obtain ⟨c, hc, hm⟩ := List.mem_flatMap.mp he
        obtain ⟨h1, h2⟩ := List.mem_filter.mp hm
        obtain ⟨i, hi, rfl⟩ := List.mem_iff_getElem.mp h1
        obtain ⟨hl', hb'⟩ := hL c hc
        have eg : gI c i = c[i] := by
          have := gI_get hi
          rw [List.getElem?_eq_getElem hi] at this
          exact (Option.some.inj this).symm
        have := hb' i (by omega)
        rw [eg] at this
        have h2' : c[i] < 1000 := by simpa using h2
        exact ⟨this.1, this.2.2 h2'⟩
      have go := fun top (et : top = topL L) (hT : TopOf n b L top) => hqM Q H3 n b l xs L top hn1 hn hb (q1.seq hl) (DpAll.same q1 _ _ hd) hlen hL hT x3.ts fun p H' x' d' => kk p H' (et ▸ hT) (x3.trans x') (et ▸ d')
      walk_at "rd"
      delta tNil
      refine ⟨D, us, _, rfl, rfl, .inl (.inl q2), fun e => ?_, fun m hm hge => ?_⟩
      · walk_at "rd"
        refine go (1 + 0) (by unfold topL; rw [← q4, e]; rfl) ⟨by omega, by omega, fun c hc i hi hlt => ?_⟩
        have := hin c hc i hi hlt
        rw [e] at this
        cases this
      · have h1 := hof m hm
        walk_at "rd"
        refine go (1 + m) (by
          unfold topL
          rw [← q4]
          have f1 := fold_max_ge us 0 m (List.mem_cons_of_mem _ hm)
          have f2 : us.foldl max 0 ≤ m := by
            rcases List.mem_cons.mp (fold_max_mem us 0) with z | z
            · omega
            · exact hge _ z
          omega) ⟨by omega, by omega, fun c hc i hi hlt => ?_⟩
        have := hge _ (hin c hc i hi hlt)
        omega
end

/-! ### the law's mathematics: all parts together -/
def lotS (n : Nat) (ms : List (List Int)) (S : List Int) : List (List Int) := (cornersL n ms).filter fun c => decide (suppI n c = S)
theorem lcmL_gI {n : Nat} {a b : List Int} {i : Nat} (h : i < n) : gI (lcmL n a b) i = if gI b i > gI a i then gI b i else gI a i := by
  unfold lcmL
  conv => lhs; unfold gI
  rw [List.getD_eq_getElem?_getD, List.getElem?_map, List.getElem?_range h]; rfl
theorem lcmL_len {n : Nat} {a b : List Int} : (lcmL n a b).length = n := by unfold lcmL; simp
theorem min_holds {n : Nat} {l : List (List Int)} {w : List Int} : holdsB n (minS n l) w = holdsB n l w := by
  refine Bool.eq_iff_iff.mpr ?_
  rw [holdsB_iff, holdsB_iff]
  unfold minS
  constructor
  · rintro ⟨g, hg, hle⟩
    exact ⟨g, least_mem ((List.mergeSort_perm _ _).mem_iff.mp hg), hle⟩
  · rintro ⟨g, hg, hle⟩
    obtain ⟨m, hm, h2⟩ := least_all (n := n) hg
    exact ⟨m, (List.mergeSort_perm _ _).mem_iff.mpr hm, fun i hi => Int.le_trans (h2 i hi) (hle i hi)⟩
theorem meet_holds {n : Nat} {ks ms : List (List Int)} {w : List Int} : holdsB n (minS n (ks.flatMap fun a => ms.map (lcmL n a))) w = (holdsB n ks w && holdsB n ms w) := by
  rw [min_holds]
  refine Bool.eq_iff_iff.mpr ?_
  rw [Bool.and_eq_true, holdsB_iff, holdsB_iff, holdsB_iff]
  constructor
  · rintro ⟨g, hg, hle⟩
    obtain ⟨a, ha, hg⟩ := List.mem_flatMap.mp hg
    obtain ⟨b, hb, rfl⟩ := List.mem_map.mp hg
    refine ⟨⟨a, ha, fun i hi => ?_⟩, b, hb, fun i hi => ?_⟩
    · have h1 := hle i hi
      rw [lcmL_gI hi] at h1
      split at h1 <;> omega
    · have h1 := hle i hi
      rw [lcmL_gI hi] at h1
      split at h1 <;> omega
  · rintro ⟨⟨a, ha, h1⟩, b, hb, h2⟩
    refine ⟨lcmL n a b, List.mem_flatMap.mpr ⟨a, ha, List.mem_map.mpr ⟨b, hb, rfl⟩⟩, fun i hi => ?_⟩
    rw [lcmL_gI hi]
    split
    · exact h2 i hi
    · exact h1 i hi
section
variable {n top : Nat} {ms : List (List Int)}
theorem lot_mem (h : MsOk n ms) {S c : List Int} : c ∈ lotS n ms S ↔ Corner n ms c ∧ suppI n c = S := by
  unfold lotS
  rw [List.mem_filter, decide_eq_true_eq]
  exact and_congr_left fun _ => corners_mem h c
theorem assoc_mem (h : MsOk n ms) {S : List Int} : S ∈ assocL n ms ↔ ∃ c, Corner n ms c ∧ suppI n c = S := by
  unfold assocL
  rw [setL_mem, List.mem_map]
  exact ⟨fun ⟨c, hc, e⟩ => ⟨c, (corners_mem h c).mp hc, e⟩, fun ⟨c, hc, e⟩ => ⟨c, (corners_mem h c).mpr hc, e⟩⟩
theorem assoc_places (h : MsOk n ms) {S : List Int} (hS : S ∈ assocL n ms) : PlacesOk n S := by
  obtain ⟨c, _, rfl⟩ := (assoc_mem h).mp hS
  exact supp_ok
theorem lot_ne (h : MsOk n ms) {S : List Int} (hS : S ∈ assocL n ms) : lotS n ms S ≠ [] := by
  obtain ⟨c, hc, e⟩ := (assoc_mem h).mp hS
  intro z
  have := (lot_mem h).mpr ⟨hc, e⟩
  rw [z] at this
  cases this
theorem lot_B (h : DrawnOk n top ms) (ht : top ≤ 8) {S : List Int} : LotB n top (lotS n ms S) := fun c hc => by
  obtain ⟨hc, _⟩ := (lot_mem (drawn_ms h ht)).mp hc
  refine ⟨hc.len, fun i hi => ⟨(hc.lo i hi).1, (hc.lo i hi).2, fun hlt => ?_⟩⟩
  exact corner_top (fun g hg i hi => (drawn_gI h hg hi).2) hc hi hlt
theorem lot_C (h : DrawnOk n top ms) (ht : top ≤ 8) {S : List Int} {tp : Int} (hT : TopOf n top (lotS n ms S) tp) : LotC n tp S (lotS n ms S) := by
  have hG := drawn_ms h ht
  refine ⟨fun c hc => ?_, fun c hc => ?_, hT.2.2, ⟨hT.1, ?_⟩, fun c hc => ?_⟩
  · exact ((lot_mem hG).mp hc).1.len
  · exact ((lot_mem hG).mp hc).1.lo
  · have := hT.2.1; omega
  · exact ((lot_mem hG).mp hc).2
/-- in every part, exactly what is in the ideal -/
theorem parts_all (h : DrawnOk n top ms) (ht : top ≤ 8) {tp : List Int → Int} (hT : ∀ S ∈ assocL n ms, TopOf n top (lotS n ms S) (tp S)) {w : List Int} (hw : ∀ i, i < n → 0 ≤ gI w i ∧ gI w i < 1000) :
    ((assocL n ms).all fun S => holdsB n (partM n (tp S) (lotS n ms S)) w) = holdsB n ms w := by
  have hG := drawn_ms h ht
  refine Bool.eq_iff_iff.mpr ?_
  rw [List.all_eq_true, holdsB_iff, ← parts_meet hG hw]
  constructor
  · intro z c hc
    have hS : suppI n c ∈ assocL n ms := (assoc_mem hG).mpr ⟨c, hc, rfl⟩
    obtain ⟨i, hi, hle⟩ := (part_holds (lot_C h ht (hT _ hS)) hw).mp (z _ hS) c ((lot_mem hG).mpr ⟨hc, rfl⟩)
    exact (inP_pt hc).mpr ⟨i, hi, by have := hw i hi; omega, hle⟩
  · intro z S hS
    refine (part_holds (lot_C h ht (hT _ hS)) hw).mpr fun c hc => ?_
    obtain ⟨hc, _⟩ := (lot_mem hG).mp hc
    obtain ⟨i, hi, _, hle⟩ := (inP_pt hc).mp (z c hc)
    exact ⟨i, hi, hle⟩
/-- no part can be left out -/
theorem parts_need (h : DrawnOk n top ms) (ht : top ≤ 8) {tp : List Int → Int} (hT : ∀ S ∈ assocL n ms, TopOf n top (lotS n ms S) (tp S)) {S : List Int} (hS : S ∈ assocL n ms) :
    ∃ w : List Int, (∀ R ∈ assocL n ms, R ≠ S → holdsB n (partM n (tp R) (lotS n ms R)) w = true) ∧ ¬ holdsB n ms w = true := by
  have hG := drawn_ms h ht
  have htop : ∀ g ∈ ms, ∀ i, i < n → gI g i ≤ (top : Int) := fun g hg i hi => (drawn_gI h hg hi).2
  obtain ⟨c, hc, rfl⟩ := (assoc_mem hG).mp hS
  have hb := wit_box (top := (top : Int)) (by omega) htop hc
  refine ⟨witC top c, fun R hR hne => ?_, fun z => wit_out (by omega) htop hc (holdsB_iff.mp z)⟩
  refine (part_holds (lot_C h ht (hT _ hR)) fun i hi => by have := hb.2 i hi; omega).mpr fun d hd => ?_
  obtain ⟨hd, ed⟩ := (lot_mem hG).mp hd
  have hcd : c ≠ d := fun e => hne (by rw [← ed, e])
  obtain ⟨i, hi, _, hle⟩ := (inP_pt hd).mp (wit_in htop hc hd hcd)
  exact ⟨i, hi, hle⟩
end

/-! ### sorted of a list: also of one item that is the empty tuple -/
section
open PySem.Spec PyProof.Rows PySem.Calls PySem.W
variable {P : Program} {w : World} {A : Around} {E : Value → Shared → Prop} {s : Shared}
theorem sorted_list1 {a x : Addr} {Q : Value → Shared → Prop} (hl : s.heap.IsList a [Value.ref x].toArray) (rx : Reads s.heap (.ref x) (.tuple []) [])
    (hQ : ∀ (h' : Heap) (c : Nat), Kp s.heap h' → h'.get? (s.heap.objs.size + 1) = some (seqObj "list" [Value.ref x].toArray c) → Q (.ref (s.heap.objs.size + 1)) { s with heap := h' }) :
    wpAny (model P w) A (call (.builtin "sorted") [.ref a]) Q E s := by
  refine sorted_of_sort (vs := [Value.ref x]) hl (by show 1 ≤ sizeLine; decide) (args_sorted1 _) (fun x => args_list_sort _) fun E' => ?_
  have hoL := copyHeap_at s.heap [Value.ref x]
  have rd : Reads (copyHeap s.heap [Value.ref x]) (.ref x) (.tuple []) [] := Reads.keeps (fun b o e => copyHeap_old e) rx
  have rd2 : Reads (sortingHeap (copyHeap s.heap [Value.ref x]) (s.heap.objs.size + 1) [Value.ref x]) (.ref x) (.tuple []) [] :=
    PySem.W.Reads.keepBut (fun b u hb q => sortingHeap_old hb q) (fun u q => by rw [hoL] at q; rw [← Option.some.inj q]) (.tuple []) _ _ (by simp [alike, alikeAll]) rd (fun z => nomatch z)
  refine list_sort_vals (s := { s with heap := copyHeap s.heap [Value.ref x] }) hoL (sortsAt_one (s := { s with heap := sortingHeap (copyHeap s.heap [Value.ref x]) (s.heap.objs.size + 1) [Value.ref x] }) rd2) (by show 1 ≤ sizeLine; decide) ⟨rfl, ?_⟩
  have e1 : ∀ κ : PyProof.Rows.KeyKind, sortVals κ false [Value.ref x] [Value.ref x] = [Value.ref x] := fun κ => by
    unfold sortVals
    show (([(Value.ref x, Value.ref x)].mergeSort _).map Prod.snd) = _
    rw [List.mergeSort_singleton]
    rfl
  rw [e1]
  obtain ⟨c, hc⟩ := sortedHeap_at (vs := [Value.ref x]) (out := [Value.ref x].toArray) hoL
  refine hQ _ c (fun b u e => ?_) hc
  have q : (copyHeap s.heap [Value.ref x]).get? b = some u := copyHeap_old e
  have hne : b ≠ s.heap.objs.size + 1 := Nat.ne_of_lt (Nat.lt_succ_of_lt (Heap.lt_size e))
  have hlt := Heap.lt_size q
  exact sortedHeap_old hne hlt |>.trans q
end
section
open PySem.Spec PyProof.Rows PySem.W
variable {X : Cx}
def rSorted1 (K : PySem.W.Frag) : List V → Hp → VK → Prop := fun vs H Q => ∃ a x, vs = [V.ref a] ∧ SqL K H a [.ref x] ∧ Dp K H (.ref x) (.tuple []) ∧ ∀ p, H p = none → Q (.ref p) (upd H p (.lst [.ref x]))
theorem cr_sorted1 : CallR X (.builtin "sorted") (rSorted1 X.K) := by
  intro pins s σ H vs us Q I r ⟨a, x, ev, hs, hd, q⟩
  subst ev
  obtain ⟨its, rv, hl, hz⟩ := I.list hs
  obtain rfl := Vals.ref1 rv
  rw [Vals.ref1 r]
  obtain ⟨as, rx⟩ := Dp.reads I (.tuple []) (.ref x) (.ref x) hd rfl
  have eas : as = [] := by
    cases rx with
    | @tuple l o xs n _ _ h1 h2 h3 h4 =>
      revert h4
      generalize xs.toList = ys
      intro h4
      cases h4
      rfl
  subst eas
  refine sorted_list1 hl.isList rx fun h' c kp hat => ?_
  exact ⟨.ref _, _, I.laid (t' := s.toks) (o := .lst [V.ref x]) (fun b o e => kp b o e) (Nat.le_succ _) ⟨(by show 1 ≤ sizeLine; decide), [Value.ref x], c, .cons rfl .nil, hat⟩, rfl, q _ (I.hok.fresh (Nat.le_succ _))⟩
def rSortedL (K : PySem.W.Frag) : List V → Hp → VK → Prop := fun vs H Q => rSortedD K vs H Q ∨ rSorted1 K vs H Q
theorem cr_sortedL (hu : X.A.units + 64 < cLine) : CallR X (.builtin "sorted") (rSortedL X.K) := CallR.or (cr_sortedD hu) cr_sorted1
end
theorem room1 {k : Nat} {A : Around} (r : Room k A) : A.units + 1 < cLine := by have := r.un; omega

/-! ### x in a tuple of data; the law's mathematics -/
section
open PySem PySem.Spec PyProof.Rows
variable {X : Cx}
def rInT (K : PySem.W.Frag) : R2 := fun x y H Q => ∃ d ds, Dp K H x d ∧ Dp K H y (.tuple ds) ∧ SeqAt.shaped d = true ∧ SeqAt.shaped (.tuple ds) = true ∧ Q (.bl (ds.any fun z => PyData.eqv z d)) H
theorem op_inT (hu : X.A.units + 65 < cLine) : OpR X (compareOp .In) (rInT X.K) := by
  intro pins s σ H x y v u Q I rx ry h
  obtain ⟨d, ds, hd, he, sd, se, q⟩ := h
  obtain ⟨as, r1⟩ := Dp.reads I d x v hd rx
  obtain ⟨bs, r2⟩ := Dp.reads I (.tuple ds) y u he ry
  exact SeqAt.in_tuple_reads r2 r1 (SeqAt.canLay_of_shaped se) (SeqAt.canLay_of_shaped sd) (room_in_shaped sd hu) ⟨.bl _, H, I, rfl, q⟩
end
theorem inRows {K : PySem.W.Frag} {H : Hp} {a : Addr} {v : V} {l : List Int} {ls : List (List Int)} {Q : VK} (ha : SqT K H a (l.map V.int)) (hv : Dp K H v (rsD ls)) (q : Q (.bl (decide (l ∈ ls))) H) : rInT K (.ref a) v H Q := by
  refine ⟨_, _, dp_ints ha, hv, sh_rD l, sh_rsD ls, ?_⟩
  have e : ((ls.map rD).any fun z => PyData.eqv z (rD l)) = decide (l ∈ ls) := by
    induction ls with
    | nil => rfl
    | cons x ls ih =>
      have h1 : PyData.eqv (rD x) (rD l) = decide (x = l) := eqv_intsL x l
      have ih' : ((ls.map rD).any fun z => PyData.eqv z (rD l)) = decide (l ∈ ls) := by
        clear ih q hv
        induction ls with
        | nil => rfl
        | cons y ls ih =>
          rw [List.map_cons, List.any_cons, ih, show PyData.eqv (rD y) (rD l) = decide (y = l) from eqv_intsL y l]
          by_cases h1 : y = l
          · subst h1; simp
          · have h2 : ¬ l = y := fun z => h1 z.symm
            simp [h1, h2]
      rw [List.map_cons, List.any_cons, ih', h1]
      by_cases h2 : x = l
      · subst h2; simp
      · have h3 : ¬ l = x := fun z => h2 z.symm
        simp [h2, h3]
  rw [e]
  exact q
section
variable {n top : Nat} {ms : List (List Int)}
theorem cornersL_mem (h : MsOk n ms) (c : List Int) : c ∈ cornersL n ms ↔ Corner n ms c := corners_mem h c
/-- the places of a part -/
def posI (n : Nat) (p : List Int) : List Int := ((List.range n).filter fun i => decide (gI p i > 0)).map fun (i : Nat) => (i : Int)
theorem pos_pt {c : List Int} (h : Corner n ms c) : posI n (ptC c) = suppI n c := by
  unfold posI suppI
  congr 1
  refine List.filter_congr fun i hi => ?_
  have hi' := List.mem_range.mp hi
  have h1 := h.lo i hi'
  rw [gI_pt]
  by_cases z : gI c i < 1000
  · rw [if_pos z, decide_eq_true z, decide_eq_true (by omega)]
  · rw [if_neg z, decide_eq_false z, decide_eq_false (by omega)]
theorem assoc_due (h : MsOk n ms) : setL ((partsL n ms).map (posI n)) = assocL n ms := by
  refine setL_congr fun x => ?_
  rw [List.mem_map, List.mem_map]
  constructor
  · rintro ⟨p, hp, rfl⟩
    obtain ⟨c, hc, rfl⟩ := (parts_mem h p).mp hp
    exact ⟨c, (cornersL_mem h c).mpr hc, (pos_pt hc).symm⟩
  · rintro ⟨c, hc, rfl⟩
    have hc' := (cornersL_mem h c).mp hc
    exact ⟨ptC c, (parts_mem h _).mpr ⟨c, hc', rfl⟩, pos_pt hc'⟩
theorem assoc_empty (h : MsOk n ms) : (∀ c ∈ cornersL n ms, suppI n c ≠ []) ∨ ∀ c ∈ cornersL n ms, suppI n c = [] := by
  cases e : ms with
  | nil =>
    rw [e] at h
    refine .inr fun c hc => ?_
    have hcn := (cornersL_mem h c).mp hc
    cases es : suppI n c with
    | nil => rfl
    | cons p S =>
      obtain ⟨i, hi, hci, _⟩ := supp_mem.mp (show p ∈ suppI n c by rw [es]; exact List.mem_cons_self)
      obtain ⟨g, hg, _⟩ := hcn.B i hi hci
      cases hg
  | cons g gs =>
    rw [e] at h
    refine .inl fun c hc es => ?_
    have hcn := (cornersL_mem h c).mp hc
    obtain ⟨i, hi, hle⟩ := hcn.F g List.mem_cons_self
    have := (h g List.mem_cons_self).2 i hi
    have hm : ((i : Nat) : Int) ∈ suppI n c := supp_mem.mpr ⟨i, hi, by omega, rfl⟩
    rw [es] at hm
    cases hm
theorem parts_corners : (partsL n ms).length = (cornersL n ms).length := by
  unfold partsL cornersL
  rw [List.length_mergeSort, List.length_map]
/-- which sets have a witness -/
theorem wit_iff (h : DrawnOk n top ms) (ht : top ≤ 8) {S : List Int} (hS : PlacesOk n S) : ((boxL top n).any fun m => showsB n ms S m) = decide (S ∈ assocL n ms) := by
  have hG := drawn_ms h ht
  have hm : S ∈ assocL n ms ↔ ∃ c, Corner n ms c ∧ suppI n c = S := by
    unfold assocL
    rw [setL_mem, List.mem_map]
    exact ⟨fun ⟨c, hc, e⟩ => ⟨c, (cornersL_mem hG c).mp hc, e⟩, fun ⟨c, hc, e⟩ => ⟨c, (cornersL_mem hG c).mpr hc, e⟩⟩
  have hi : ((boxL top n).any fun m => showsB n ms S m) = true ↔ ∃ c, Corner n ms c ∧ suppI n c = S := by
    rw [List.any_eq_true]
    constructor
    · rintro ⟨m, hm, hs⟩
      obtain ⟨_, b2⟩ := box_mem.mp hm
      exact shows_corner hG hS (fun i hi => by have := b2 i hi; omega) hs
    · rintro ⟨c, hc, rfl⟩
      have htop : ∀ g ∈ ms, ∀ i, i < n → gI g i ≤ (top : Int) := fun g hg i hi => (drawn_gI h hg hi).2
      have hb := wit_box (top := (top : Int)) (by omega) htop hc
      have gw : ∀ i, i < n → gI (witC top c) i = if gI c i < 1000 then gI c i - 1 else (top : Int) := fun i hi => gI_wit (by rw [hc.len]; exact hi)
      refine ⟨witC top c, box_mem.mpr hb, corner_shows hG hc (fun i hi => ?_) fun i hi hci => ?_⟩
      · rw [gw i hi]
        by_cases z : gI c i < 1000
        · rw [if_pos z]; exact .inl rfl
        · rw [if_neg z]; exact .inr ⟨z, fun g hg => htop g hg i hi⟩
      · rw [gw i hi, if_pos hci]
  by_cases z : S ∈ assocL n ms
  · rw [decide_eq_true z]
    exact hi.mpr (hm.mp z)
  · rw [decide_eq_false z]
    cases hb : (boxL top n).any fun m => showsB n ms S m with
    | false => rfl
    | true => exact absurd (hm.mpr (hi.mp hb)) z
theorem box_row (ht : top ≤ 8) {m : List Int} (hm : m ∈ boxL top n) : rowB n 0 8 m = true := by
  obtain ⟨h1, h2⟩ := box_mem.mp hm
  refine row_true (by rw [h1]) fun e he => ?_
  obtain ⟨i, hi, rfl⟩ := List.mem_iff_getElem.mp he
  have := h2 i (by omega)
  have eg : gI m i = m[i] := by
    have := gI_get hi
    rw [List.getElem?_eq_getElem hi] at this
    exact (Option.some.inj this).symm
  rw [eg] at this
  omega
/-- what the program gives shows -/
theorem wit_shows (h : DrawnOk n top ms) (ht : top ≤ 8) {c u : List Int} (hc : c ∈ cornersL n ms) (hw : WitOk n top ms c u) : (rowB n 0 8 u && showsB n ms (suppI n c) u) = true := by
  have hG := drawn_ms h ht
  have hcn := (cornersL_mem hG c).mp hc
  have htop : ∀ g ∈ ms, ∀ i, i < n → gI g i ≤ (top : Int) := fun g hg i hi => (drawn_gI h hg hi).2
  rw [corner_shows hG hcn (fun i hi => ?_) fun i hi hci => ?_, Bool.and_true]
  · refine row_true (by rw [hw.1]) fun e he => ?_
    obtain ⟨i, hi, rfl⟩ := List.mem_iff_getElem.mp he
    have hi' : i < n := by rw [← hw.1]; exact hi
    have eg : gI u i = u[i] := by
      have := gI_get hi
      rw [List.getElem?_eq_getElem hi] at this
      exact (Option.some.inj this).symm
    rw [← eg]
    by_cases z : gI c i < 1000
    · have h1 := (hw.2 i hi').1 z
      have h2 := corner_top htop hcn hi' z
      have h3 := hcn.lo i hi'
      omega
    · have := (hw.2 i hi').2 z
      omega
  · by_cases z : gI c i < 1000
    · exact .inl ((hw.2 i hi).1 z)
    · exact .inr ⟨z, ((hw.2 i hi).2 z).2.2⟩
  · exact (hw.2 i hi).1 hci
end
def rListOf (K : PySem.W.Frag) : List V → Hp → VK → Prop := fun xs H Q => ∃ p ys, xs = [V.ref p] ∧ (SqL K H p ys ∨ SqT K H p ys) ∧ ∀ l : Addr, H l = Option.none → Q (.ref l) (upd H l (.lst ys))
def forB : Stmt → List Stmt
  | .For _ _ b _ _ => b
  | _ => []
theorem room65 {k : Nat} {A : Around} (r : Room k A) : A.units + 65 < cLine := by have := r.un; omega
theorem repA' {K : PySem.W.Frag} {H : Hp} {a : Addr} {x : V} {k : Int} {n : Nat} {Q : VK} (hk : k = (n : Int)) (ha : SqT K H a [x]) (hn : 1 ≤ n) (hz : n ≤ 1000) (h : ∀ p H', Same H H' → SqT K H' p (List.replicate n x) → Q (.ref p) H') : rRepA K (.ref a) (.int k) H Q := by
  subst hk
  exact repA ha hn hz h

/-! ### primary_parts -/
section
variable {P : Program} {w : World} {K : PySem.W.Frag} {mg : Str → Option Value} {base : Heap}
/-- a pair of places and a part -/
abbrev partS (n : Nat) (ms : List (List Int)) (S : List Int) : List (List Int) := partM n (topL (lotS n ms S)) (lotS n ms S)
abbrev ppD (n : Nat) (ms : List (List Int)) (S : List Int) : PyData := .tuple [rD S, rsD (partS n ms S)]
abbrev keyI (S : List Int) : List L2.Key := S.map Sum.inl
theorem keyI_kV (S : List Int) : (keyI S).map kV = S.map V.int := by rw [List.map_map]; rfl
theorem keyI_inj : ∀ {S R : List Int}, keyI S = keyI R → S = R
  | [], [], _ => rfl
  | [], _ :: _, h => by cases h
  | _ :: _, [], h => by cases h
  | x :: S, y :: R, h => by
    have h' : (Sum.inl x : L2.Key) :: keyI S = Sum.inl y :: keyI R := h
    rw [List.cons.injEq] at h'
    rw [Sum.inl.inj h'.1, keyI_inj h'.2]
/-- groups by keys, with the lists of their members -/
abbrev kvG (G : List (List Int × Addr)) : List (List L2.Key × V) := G.map fun p => (keyI p.1, V.ref p.2)
theorem valG_some {S : List Int} {v : V} : ∀ {G : List (List Int × Addr)}, valV (kvG G) (keyI S) = some v → ∃ a, v = .ref a ∧ (S, a) ∈ G
  | [], h => by cases h
  | (R, a) :: G, h => by
    unfold valV at h
    rw [show kvG ((R, a) :: G) = (keyI R, V.ref a) :: kvG G from rfl, List.find?_cons] at h
    by_cases e : keyI R = keyI S
    · rw [decide_eq_true e] at h
      have eR := keyI_inj e
      subst eR
      cases h
      exact ⟨a, rfl, List.mem_cons_self⟩
    · rw [decide_eq_false e] at h
      obtain ⟨b, e1, e2⟩ := valG_some (G := G) (v := v) h
      exact ⟨b, e1, List.mem_cons_of_mem _ e2⟩
theorem valG_none {S : List Int} {G : List (List Int × Addr)} (h : valV (kvG G) (keyI S) = none) : S ∉ G.map (·.1) := fun z => by
  obtain ⟨p, hp, rfl⟩ := List.mem_map.mp z
  unfold valV at h
  rw [Option.map_eq_none_iff, List.find?_eq_none] at h
  exact h _ (List.mem_map.mpr ⟨p, hp, rfl⟩) (by simp)
theorem valG_at {S : List Int} {a : Addr} : ∀ {G : List (List Int × Addr)}, (G.map (·.1)).Nodup → (S, a) ∈ G → valV (kvG G) (keyI S) = some (.ref a)
  | [], _, h => by cases h
  | (R, b) :: G, nd, h => by
    rw [List.map_cons, List.nodup_cons] at nd
    unfold valV
    rw [show kvG ((R, b) :: G) = (keyI R, V.ref b) :: kvG G from rfl, List.find?_cons]
    rcases List.mem_cons.mp h with e | h
    · cases e
      rw [decide_eq_true rfl]; rfl
    · have hne : ¬ keyI R = keyI S := fun e => nd.1 (by rw [keyI_inj e]; exact List.mem_map.mpr ⟨_, h, rfl⟩)
      rw [decide_eq_false hne]
      exact valG_at nd.2 h
theorem putG_new {S : List Int} {a : Addr} {G : List (List Int × Addr)} (h : S ∉ G.map (·.1)) : putK (kvG G) (keyI S) (.ref a) = kvG (G ++ [(S, a)]) := by
  unfold putK
  have e : ((kvG G).any fun kv => decide (kv.1 = keyI S)) = false := by
    rw [List.any_eq_false]
    intro kv hkv
    obtain ⟨p, hp, rfl⟩ := List.mem_map.mp hkv
    simp only [decide_eq_true_eq]
    exact fun e => h (List.mem_map.mpr ⟨p, hp, keyI_inj e⟩)
  rw [e, if_neg Bool.false_ne_true]
  show _ = (G ++ [(S, a)]).map _
  rw [List.map_append]; rfl
/-- the groups of some corners, as they stand -/
structure Grp (K : PySem.W.Frag) (n : Nat) (Hb : Hp) (pd : Addr) (C : List (List Int)) (G : List (List Int × Addr)) (H : Hp) : Prop where
  keep : ∀ b o, b ≠ pd → Hb b = some o → H b = some o
  dict : H pd = some (.dT (kvG G))
  new : ∀ p ∈ G, Hb p.2 = none ∧ p.2 ≠ pd
  lst : ∀ p ∈ G, ∃ vs, H p.2 = some (.lst vs) ∧ vs.length ≤ C.length ∧ DpAll K H vs ((C.filter fun c => decide (suppI n c = p.1)).map rD)
  nd1 : (G.map (·.1)).Nodup
  nd2 : (G.map (·.2)).Nodup
theorem Grp.same {n : Nat} {Hb H H' : Hp} {pd : Addr} {C : List (List Int)} {G : List (List Int × Addr)} (g : Grp K n Hb pd C G H) (s : Same H H') : Grp K n Hb pd C G H' :=
  ⟨fun b o hn e => s _ _ (g.keep b o hn e), s _ _ g.dict, g.new, fun p hp => by obtain ⟨vs, h1, h2, h3⟩ := g.lst p hp; exact ⟨vs, s _ _ h1, h2, DpAll.same s _ _ h3⟩, g.nd1, g.nd2⟩
/-- one corner more, its group there -/
theorem Grp.add {n : Nat} {Hb H : Hp} {pd la ac : Addr} {C : List (List Int)} {G : List (List Int × Addr)} {c : List Int} {vs : List V} (g : Grp K n Hb pd C G H) (hm : (suppI n c, la) ∈ G) (hl : H la = some (.lst vs)) (hc : SqT K H ac (c.map V.int)) :
    Grp K n Hb pd (C ++ [c]) G (upd H la (.lst (vs ++ [.ref ac]))) := by
  have tl : Tp H (upd H la (.lst (vs ++ [.ref ac]))) := tp_lst hl
  obtain ⟨nl1, nl2⟩ := g.new _ hm
  refine ⟨fun b o hn e => ?_, (upd_ne fun z => nl2 z.symm).trans g.dict, g.new, fun p hp => ?_, g.nd1, g.nd2⟩
  · rw [upd_ne fun z => by rw [z] at e; rw [nl1] at e; cases e]
    exact g.keep b o hn e
  · obtain ⟨ws, h1, h2, h3⟩ := g.lst p hp
    by_cases e : p.2 = la
    · have ep : p = (suppI n c, la) := by
        have h4 := List.pairwise_iff_getElem.mp g.nd2
        obtain ⟨i, hi, ei⟩ := List.mem_iff_getElem.mp hp
        obtain ⟨j, hj, ej⟩ := List.mem_iff_getElem.mp hm
        rcases Nat.lt_trichotomy i j with z | z | z
        · exact absurd (by rw [List.getElem_map, List.getElem_map, ei, ej]; exact e) (h4 i j (by simpa using hi) (by simpa using hj) z)
        · subst z; rw [← ei, ← ej]
        · exact absurd (by rw [List.getElem_map, List.getElem_map, ei, ej]; exact e.symm) (h4 j i (by simpa using hj) (by simpa using hi) z)
      subst ep
      rw [hl] at h1
      cases h1
      have ef : [c].filter (fun c' => decide (suppI n c' = suppI n c)) = [c] := by simp
      refine ⟨_, upd_same, by simp; omega, ?_⟩
      show DpAll K _ _ (((C ++ [c]).filter fun c' => decide (suppI n c' = suppI n c)).map rD)
      rw [List.filter_append, ef, List.map_append]
      exact DpAll.tp tl _ _ (by rw [← List.map_append]; exact tOnly_rows _) (dpAll_snoc h3 (dp_ints hc))
    · have hne : ¬ suppI n c = p.1 := fun z => e (by
        have h5 := valG_at g.nd1 hm
        have h6 := valG_at g.nd1 (show (suppI n c, p.2) ∈ G by rw [z]; exact hp)
        rw [h5] at h6
        cases h6
        rfl)
      have ef : [c].filter (fun c' => decide (suppI n c' = p.1)) = [] := by simp [hne]
      refine ⟨ws, (upd_ne e).trans h1, by simp; omega, ?_⟩
      rw [List.filter_append, ef, List.append_nil]
      exact DpAll.tp tl _ _ (tOnly_rows _) h3
/-- a new group -/
theorem Grp.newg {n : Nat} {Hb H : Hp} {pd q : Addr} {C : List (List Int)} {G : List (List Int × Addr)} {S : List Int} (g : Grp K n Hb pd C G H) (hq : H q = some (.lst [])) (hb : Hb q = none) (hn : q ≠ pd) (hG : ∀ p ∈ G, p.2 ≠ q) (hS : S ∉ G.map (·.1)) (hC : ∀ c ∈ C, suppI n c ≠ S) :
    Grp K n Hb pd C (G ++ [(S, q)]) (upd H pd (.dT (putK (kvG G) (keyI S) (.ref q)))) := by
  have tl : Tp H (upd H pd (.dT (putK (kvG G) (keyI S) (.ref q)))) := fun b xs z => by
    have nb : b ≠ pd := fun e => by
      subst e
      rcases z with z | ⟨o, z⟩
      · rw [g.dict] at z; cases z
      · rw [g.dict] at z; cases z
    rcases z with z | ⟨o, z⟩
    · exact .inl ((upd_ne nb).trans z)
    · exact .inr ⟨o, (upd_ne nb).trans z⟩
  refine ⟨fun b o hn' e => (upd_ne hn').trans (g.keep b o hn' e), by rw [upd_same, putG_new hS], fun p hp => ?_, fun p hp => ?_, ?_, ?_⟩
  · rcases List.mem_append.mp hp with z | z
    · exact g.new p z
    · rw [List.mem_singleton.mp z]; exact ⟨hb, hn⟩
  · rcases List.mem_append.mp hp with z | z
    · obtain ⟨vs, h1, h2, h3⟩ := g.lst p z
      exact ⟨vs, (upd_ne (g.new p z).2).trans h1, h2, DpAll.tp tl _ _ (tOnly_rows _) h3⟩
    · rw [List.mem_singleton.mp z]
      refine ⟨[], (upd_ne hn).trans hq, Nat.zero_le _, ?_⟩
      have ef : C.filter (fun c => decide (suppI n c = S)) = [] := List.filter_eq_nil_iff.mpr fun c hc => by simpa using hC c hc
      show DpAll K _ [] ((C.filter fun c => decide (suppI n c = S)).map rD)
      rw [ef]
      exact .nil
  · rw [List.map_append, List.nodup_append]
    refine ⟨g.nd1, by simp, fun a ha b hb' e => hS ?_⟩
    have : b = S := by simpa using hb'
    rw [← this, ← e]
    exact ha
  · rw [List.map_append, List.nodup_append]
    refine ⟨g.nd2, by simp, fun a ha b hb' e => ?_⟩
    have hbq : b = q := by simpa using hb'
    obtain ⟨p, hp, rfl⟩ := List.mem_map.mp ha
    exact hG p hp (e.trans hbq)
theorem TS.at {t : TabsAt} {H : Hp} {p : Addr} {o u : HO} (h : TS t H) (hp : H p = some o) (no : ∀ ps, o ≠ .tbl ps) : TS t (upd H p u) := by
  refine ⟨fun x hx => ?_, fun x hx => ?_⟩
  · obtain ⟨ps, h1, h2⟩ := h.g x hx
    exact ⟨ps, (upd_ne fun z => by rw [z, hp] at h1; exact no ps (Option.some.inj h1)).trans h1, h2⟩
  · have : x ∈ ([] : List Str) := hx
    cases this
theorem paired_list {R : List Int → Addr → Prop} : ∀ {Ss : List (List Int)} {bs : List Addr}, Paired R Ss bs → ∃ ks : List (List Int × Addr), ks.map (·.1) = Ss ∧ ks.map (·.2) = bs ∧ ∀ p ∈ ks, R p.1 p.2
  | [], [], _ => ⟨[], rfl, rfl, fun p h => (by cases h)⟩
  | S :: Ss, b :: bs, .cons h t => by
    obtain ⟨ks, e1, e2, e3⟩ := paired_list t
    refine ⟨(S, b) :: ks, by rw [List.map_cons, e1], by rw [List.map_cons, e2], fun p hp => ?_⟩
    rcases List.mem_cons.mp hp with e | hp
    · rw [e]; exact h
    · exact e3 p hp
/-- sorted of a list of keys, which stand as tuples -/
theorem sorted_keys {H : Hp} {a : Addr} {ks : List (List Int × Addr)} {Q : VK} (ha : H a = some (.lst (ks.map fun p => V.ref p.2))) (hk : ∀ p ∈ ks, H p.2 = some (.tup (p.1.map V.int))) (nd : (ks.map (·.1)).Nodup) (he : (∀ p ∈ ks, p.1 ≠ []) ∨ ∀ p ∈ ks, p.1 = [])
    (h : ∀ p (ls : List (List Int × Addr)), H p = none → (∀ q ∈ ls, q ∈ ks) → ls.map (·.1) = (ks.map (·.1)).mergeSort leR → Q (.ref p) (upd H p (.lst (ls.map fun p => V.ref p.2)))) : rSortedL K [.ref a] H Q := by
  by_cases hall : ∀ p ∈ ks, p.1 ≠ []
  · refine .inl ⟨a, ks.map fun p => (V.ref p.2, rD p.1), rfl, ?_, fun b hb => ?_, ?_, .inl fun d hd' => ?_, fun b hb => ?_, fun p hp => ?_⟩
    · rw [List.map_map]
      exact .inl (.inl ha)
    · obtain ⟨q, hq, rfl⟩ := List.mem_map.mp hb
      exact dp_ints (.inl (.inl (hk q hq)))
    · rw [List.map_map]
      refine PySem.W.AllAlike.of (enc := fun b : List Int × Addr => rD b.1) fun b b' => ?_
      unfold PySem.W.alike
      exact PySem.W.alike_ints _ _
    · rw [List.map_map] at hd'
      obtain ⟨q, hq, rfl⟩ := List.mem_map.mp hd'
      have := hall q hq
      cases e : q.1 with
      | nil => exact absurd e this
      | cons x r => exact ⟨.int x, r.map .int, by simp [e]⟩
    · obtain ⟨q, hq, rfl⟩ := List.mem_map.mp hb
      have := depth_rD q.1
      show (rD q.1).depth ≤ 32
      omega
    · have em : (ks.map fun p => (V.ref p.2, rD p.1)).mergeSort (PySem.W.dataLe false (·.2)) = (ks.mergeSort fun x y => leR x.1 y.1).map fun p => (V.ref p.2, rD p.1) :=
        (List.map_mergeSort (r := fun x y : List Int × Addr => leR x.1 y.1) (s := PySem.W.dataLe false (·.2)) (f := fun p : List Int × Addr => (V.ref p.2, rD p.1)) (hl := fun x _ y _ => rfl)).symm
      have em2 : (ks.mergeSort fun x y => leR x.1 y.1).map (·.1) = (ks.map (·.1)).mergeSort leR := List.map_mergeSort (r := fun x y : List Int × Addr => leR x.1 y.1) (s := leR) (f := fun b : List Int × Addr => b.1) (hl := fun x _ y _ => rfl)
      rw [em, List.map_map]
      exact h p _ hp (fun q hq => (List.mergeSort_perm _ _).mem_iff.mp hq) em2
  · have hnil := he.resolve_left hall
    have h1 : ∃ x, ks = [([], x)] := by
      match ks, hnil, hall, nd with
      | [], _, h, _ => exact absurd (fun p hp => by cases hp) h
      | [(l, x)], z, _, _ =>
        have e : l = [] := z (l, x) List.mem_cons_self
        exact ⟨x, by rw [e]⟩
      | (l, x) :: (m, y) :: r, z, _, nd =>
        exfalso
        have e1 : l = [] := z (l, x) List.mem_cons_self
        have e2 : m = [] := z (m, y) (List.mem_cons_of_mem _ List.mem_cons_self)
        rw [List.map_cons, List.map_cons, e1, e2] at nd
        exact (List.nodup_cons.mp nd).1 List.mem_cons_self
    obtain ⟨x, rfl⟩ := h1
    refine .inr ⟨a, x, rfl, .inl (.inl ha), .tup (.inl (.inl (hk _ List.mem_cons_self))) .nil, fun p hp => ?_⟩
    exact h p [([], x)] hp (fun q hq => hq) (by rw [List.map_cons, List.map_nil, List.mergeSort_singleton])
theorem keys_list {H : Hp} : ∀ {G : List (List Int × Addr)} {bs : List Addr}, IsKeys H (kvG G) bs → ∃ ks : List (List Int × Addr), ks.map (·.1) = G.map (·.1) ∧ ks.map (·.2) = bs ∧ ∀ p ∈ ks, H p.2 = some (.tup (p.1.map V.int))
  | [], [], _ => ⟨[], rfl, rfl, fun p h => (by cases h)⟩
  | (S, a) :: G, b :: bs, .cons h t => by
    obtain ⟨ks, e1, e2, e3⟩ := keys_list t
    refine ⟨(S, b) :: ks, by rw [List.map_cons, e1]; rfl, by rw [List.map_cons, e2], fun p hp => ?_⟩
    rcases List.mem_cons.mp hp with e | hp
    · rw [e, ← keyI_kV]; exact h
    · exact e3 p hp
theorem setL_len (l : List (List Int)) : (setL l).length ≤ l.length := by
  unfold setL
  rw [List.length_mergeSort]
  exact nodup_len (dd_nodup l) fun x hx => dd_mem.mp hx
theorem tOnly_pp (n : Nat) (ms : List (List Int)) : ∀ l : List (List Int), tOnlyAll (l.map (ppD n ms)) = true
  | [] => rfl
  | S :: l => by
    have h1 := tOnly_pp n ms l
    have h2 := tOnly_rows (partS n ms S)
    have h3 := tOnly_ints S
    rw [List.map_cons]
    simp only [tOnlyAll, tOnly, h1, h2, h3, Bool.and_true]
def sp_primary_parts (t : TabsAt) (K : PySem.W.Frag) : Sp := fun vs H Q _ => ∃ (n top : Nat) (v : V) (ms : List (List Int)), vs = [.int n, v] ∧ 1 ≤ n ∧ n ≤ 4 ∧ top ≤ 5 ∧ (top + 1) ^ (n - 1) ≤ 64 ∧ Dp K H v (rsD ms) ∧ DrawnOk n top ms ∧ ms.length ≤ 5 ∧ TS t H ∧
  ∀ p H' xs, (∀ S ∈ assocL n ms, TopOf n top (lotS n ms S) (topL (lotS n ms S))) → Ex t H H' → NewP H p → H' p = some (.lst xs) → DpAll K H' xs ((assocL n ms).map (ppD n ms)) → Q (.ref p) H'
theorem ok_primary_parts (T : Txt K mg) {t : TabsAt} (B : TBs T base t) : FnOk P w K mg base CX0 18 T.primary_parts.f T.primary_parts.fd P_primary_parts (sp_primary_parts t K) := by
  refine T.primary_parts.F.ok sc_primary_parts (fun vs H Q E h => ?_) (fun cdv A outer s H vs Q E hr h => ?_)
  · obtain ⟨n, top, v, ms, rfl, _⟩ := h; rfl
  · obtain ⟨n, top, v, ms, rfl, hn1, hn, ht, hpw, hv, hD, hml, ts, kk⟩ := h
    have hbig : 1000000 < sizeLine := by decide
    have hlot := drawn_lot hD (show top ≤ 8 by omega) (show ms.length ≤ 12 by omega)
    refine ⟨_, (pss_cons (ps_expr (pe_call (ok_check_ideal T B) (hr.mono (by decide)) rfl T.check_ideal.g T.check_ideal.F.kp (b_check_ideal T) .nil pass0 (pa_cons (pv 0) (pa_cons (pv 1) pa_nil))))
  (pss_cons (ps_set (i := 2) sc_primary_parts.nd rfl (Or.inr rfl) pe_dnewT)
  (pss_cons (ps_for PassesOwn.never rfl (pi_list (pe_call (ok_corners_of T B) (hr.mono (by decide)) rfl T.corners_of.g T.corners_of.F.kp (b_corners_of T) .nil pass0 (pa_cons (pv 0) (pa_cons (pe_call (ok_least_ones T B) (hr.mono (by decide)) rfl T.least_ones.g T.least_ones.F.kp (b_least_ones T) .nil pass0 (pa_cons (pv 1) pa_nil)) pa_nil)))) (pg_name (i := 3) sc_primary_parts.nd rfl (Or.inl rfl)) (pss_one (ps_expr (pe_bm PySem.F.plainAttrs_list PySem.F.slot_list_append PySem.F.type_list_append mt_append (pe_dsetT (room1 hr) (pv 2) (pe_call (ok_support T) (hr.mono (by decide)) rfl T.support.g T.support.F.kp (b_support T) .nil pass0 (pa_cons (pv 3) pa_nil)) (pe_lst pa_nil) ⟨rfl, rfl, rfl, rfl⟩) (pa_cons (pv 3) pa_nil)))))
  (pss_one (ps_ret (pe_lc (own := [("places", 4)]) rfl sc_primary_parts.nd (pi_list (pe_callB (r := rSortedL K) (cr_sortedL hr.units) rfl T.n_sorted bo_sorted (pa_cons (pe_callTy (call_list_dT rfl) rfl T.n_list bo_list (pa_cons (pv 2) pa_nil)) pa_nil))) (blkOk_by (own := [("places", 4)]) (N := N_primary_parts) (sc := defScope s_primary_parts) (by decide +kernel)) (fun _ _ _ _ _ => (pg_name (i := 4) sc_primary_parts.nd rfl (Or.inl rfl))) (fun _ _ _ _ _ => pts_nil) (fun _ _ _ _ _ => (pe_tup (pa_cons (pv 4) (pa_cons (pe_call (ok_meet_of_corners T B) (hr.mono (by decide)) rfl T.meet_of_corners.g T.meet_of_corners.F.kp (b_meet_of_corners T) .nil pass0 (pa_cons (pv 0) (pa_cons (pe_dget (room1 hr) (pv 2) (pv 4) (fun _ _ => rfl)) pa_nil))) pa_nil)))))))))), ?_⟩
    walk_at "rd"
    refine ⟨n, v, ms, rfl, hn1, by omega, hv, hlot, ts, fun H1 x1 => ?_⟩
    obtain ⟨am, xs, rfl, ham, hms⟩ := rows_tup hv
    have ham1 := (tp_ext x1.keep).sqt ham
    have hms1 := DpAll.tp (tp_ext x1.keep) _ _ (tOnly_rows _) hms
    walk_at "rd"
    refine fun pd npd => ?_
    have sd := same_upd (o := .dT []) npd
    have x2 := x1.same sd
    have ed : (upd H1 pd (.dT [])) pd = some (.dT []) := upd_same
    have ham2 := Toy.Same.tup sd ham1
    have hms2 := DpAll.same sd _ _ hms1
    generalize upd H1 pd (.dT []) = H2 at *
    have hxl : xs.length = ms.length := by have := Toy.DpAll.len hms2; rwa [List.length_map] at this
    walk_at "rd"
    refine ⟨am, n, xs, ms, rfl, .inr ham2, hms2, fun g hg => (hlot.2 g hg).1, by omega, x2.ts, fun pl H3 ys x3 npl e3 d3 => ?_⟩
    have hll := least_len (n := n) (ms := ms)
    have hlm : ∀ g ∈ leastF n ms, g.length = n := fun g hg => (hlot.2 g (least_mem hg)).1
    have hbd : ∀ i, i ≤ (leastF n ms).length → (corners n (leastF n ms) i).length ≤ 1000000 := fun i hi => by
      have h1 := corners_len hn1 (ms := leastF n ms) i
      have h3 : n ^ i ≤ n ^ 5 := Nat.pow_le_pow_right hn1 (by omega)
      have h4 : n ^ 5 ≤ 4 ^ 5 := Nat.pow_le_pow_left hn 5
      omega
    refine ⟨pl, n, ys, leastF n ms, rfl, e3, d3, hlm, hn1, by omega, by omega, hbd, x3.ts, fun pc H4 cs x4 npc e4 d4 => ?_⟩
    have hMs := drawn_ms hD (show top ≤ 8 by omega)
    have hcm := corners_mem_len (n := n) (ms := leastF n ms) (leastF n ms).length
    have x04 := x2.trans (x3.trans x4)
    have ed4 := (x3.trans x4).keep _ _ ed (fun ps z => nomatch z)
    have hcf : (cornersL n ms).length ≤ 64 := by
      have h1 := parts_few hD (show top ≤ 8 by omega) hn1
      have h4 : (partsL n ms).length = (cornersL n ms).length := by unfold partsL cornersL; rw [List.length_mergeSort, List.length_map]
      omega
    have eC : corners n (leastF n ms) (leastF n ms).length = cornersL n ms := rfl
    rw [eC] at d4 hcm
    have hcsl : cs.length = (cornersL n ms).length := by have := Toy.DpAll.len d4; rwa [List.length_map] at this
    have npcd : pc ≠ pd := fun z => by rw [z, ed4] at e4; cases e4
    refine ⟨_, rfl, ⟨_, .inl (.inl e4)⟩, ?_⟩
    refine for_list (K := K) (a := pc) (xs := cs) (fun i σ H' => ∃ (G : List (List Int × Addr)) (y3 : Option V), σ = [some (.int n), some (.ref am), some (.ref pd), y3, none] ∧ Grp K n H4 pd ((cornersL n ms).take i) G H' ∧ TS t H' ∧ ∀ S, S ∈ G.map (·.1) ↔ S ∈ ((cornersL n ms).take i).map (suppI n))
      ⟨[], _, rfl, ⟨fun b o _ e => e, ed4, fun p h => (by cases h), fun p h => (by cases h), List.nodup_nil, List.nodup_nil⟩, x4.ts, fun S => Iff.rfl⟩ (fun i σ H' _ q => ?_) (fun i x σ H5 hi q => ?_) (fun σ H5 q => ?_)
    · obtain ⟨_, _, _, g, _⟩ := q
      exact .inl (.inl (g.keep _ _ npcd e4))
    · obtain ⟨G, y3, rfl, g, ts5, mem⟩ := q
      obtain ⟨ac, c, hc, rfl, hac⟩ := row_at d4 hi
      have hcl := hcm c (List.mem_of_getElem? hc)
      have et : (cornersL n ms).take (i + 1) = (cornersL n ms).take i ++ [c] := by rw [List.take_add_one, hc]; rfl
      have tp5 : Tp H4 H5 := fun b xs q => by
        have n1 : b ≠ pd := fun z => by
          subst z
          rcases q with q | ⟨o, q⟩
          · rw [ed4] at q; cases q
          · rw [ed4] at q; cases q
        rcases q with q | ⟨o, q⟩
        · exact .inl (g.keep _ _ n1 q)
        · exact .inr ⟨o, g.keep _ _ n1 q⟩
      have hac5 := tp5.sqt hac
      have hgl : G.length ≤ 1000 := by
        have h1 := nodup_len g.nd1 (m := ((cornersL n ms).take i).map (suppI n)) fun S hS => (mem S).mp hS
        rw [List.length_map, List.length_map, List.length_take] at h1
        omega
      walk_at "rd"
      refine ⟨.inr ⟨_, .inl g.dict⟩, ?_⟩
      walk_at "rd"
      refine ⟨ac, c, n, rfl, hac5, hcl, by omega, fun p H6 s6 t6 => ?_⟩
      have g6 := g.same s6
      have ts6 := ts5.same s6
      have hac6 := Toy.Same.tup s6 hac5
      walk_at "rd"
      refine ⟨by decide, fun q hq => ?_⟩
      have s7 := same_upd (o := .lst []) hq
      have g7 := g6.same s7
      have ts7 := ts6.same s7
      have hac7 := Toy.Same.tup s7 hac6
      have hqb : H4 q = none := by
        cases z : H4 q with
        | none => rfl
        | some o =>
          by_cases e : q = pd
          · rw [e, g6.dict] at hq; cases hq
          · rw [g6.keep _ _ e z] at hq; cases hq
      have hqd : q ≠ pd := fun e => by rw [e, g6.dict] at hq; cases hq
      have e7 : (upd H6 q (.lst [])) q = some (.lst []) := upd_same
      have hqG : ∀ p ∈ G, p.2 ≠ q := fun p hp e => by
        obtain ⟨vs, h1, _⟩ := g6.lst p hp
        rw [e, hq] at h1
        cases h1
      have t7 := s7 _ _ t6
      generalize upd H6 q (.lst []) = H7 at *
      rw [← keyI_kV] at t7
      refine ⟨_, _, p, g7.dict, rfl, t7, by rw [List.length_map]; omega, fun v hv => ?_, fun hno => ?_⟩
      · obtain ⟨la, rfl, hm⟩ := valG_some hv
        obtain ⟨vs, h1, h2, h3⟩ := g7.lst _ hm
        rw [List.length_take] at h2
        refine ⟨.inl ⟨rfl, _, .inl (.inl h1)⟩, ?_⟩
        walk_at "rd"
        refine ⟨_, _, _, rfl, rfl, h1, by omega, G, _, rfl, ?_, ts7.at h1 (fun ps z => nomatch z), fun S => ?_⟩
        · rw [et]
          exact g7.add hm h1 hac7
        · rw [mem, et, List.map_append, List.mem_append]
          refine ⟨.inl, fun z => z.elim id fun z => ?_⟩
          have : S = suppI n c := by simpa using z
          rw [this, ← mem]
          exact List.mem_map.mpr ⟨_, hm, rfl⟩
      · have hSn := valG_none hno
        have g8 := g7.newg e7 hqb hqd hqG hSn fun c' hc' e => hSn ((mem _).mpr (List.mem_map.mpr ⟨c', hc', e⟩))
        have ts8 := ts7.at (u := .dT (putK (kvG G) (keyI (suppI n c)) (.ref q))) g7.dict (fun ps z => nomatch z)
        have e8 : (upd H7 pd (.dT (putK (kvG G) (keyI (suppI n c)) (.ref q)))) q = some (.lst []) := (upd_ne hqd).trans e7
        have hac8 : SqT K (upd H7 pd (.dT (putK (kvG G) (keyI (suppI n c)) (.ref q)))) ac (c.map V.int) := by
          rcases hac7 with (z | ⟨o, z⟩) | z
          · exact .inl (.inl ((upd_ne (fun e => by rw [e, g7.dict] at z; cases z)).trans z))
          · exact .inl (.inr ⟨o, (upd_ne (fun e => by rw [e, g7.dict] at z; cases z)).trans z⟩)
          · exact .inr z
        refine ⟨.inl ⟨rfl, _, .inl (.inl e8)⟩, ?_⟩
        walk_at "rd"
        refine ⟨_, _, _, rfl, rfl, e8, (show 0 < sizeLine by decide), G ++ [(suppI n c, q)], _, rfl, ?_, ts8.at e8 (fun ps z => nomatch z), fun S => ?_⟩
        · rw [et]
          exact g8.add (List.mem_append_right _ (List.mem_singleton.mpr rfl)) e8 hac8
        · rw [et, List.map_append, List.map_append, List.mem_append, List.mem_append, mem]
          rfl
    · obtain ⟨G, y3, rfl, g, ts5, mem⟩ := q
      rw [hcsl, List.take_length] at g mem
      have x05 : Ex t H H5 := ⟨fun b o e no => g.keep b o (fun z => by
        have := x1.keep b o e no
        rw [z, npd] at this
        cases this) (x04.keep b o e no), ts5⟩
      walk_at "rd"
      refine ⟨pd, _, rfl, .inl g.dict, fun p1 bs hp1 hk => ?_⟩
      obtain ⟨ks, k1, k2, k3⟩ := keys_list hk
      have s6 := same_upd (o := .lst (bs.map V.ref)) hp1
      have e6 : (upd H5 p1 (.lst (bs.map V.ref))) p1 = some (.lst (ks.map fun p => V.ref p.2)) := by rw [upd_same, ← k2, List.map_map]; rfl
      have g6 := g.same s6
      have x06 := x05.same s6
      have k6 : ∀ p ∈ ks, (upd H5 p1 (.lst (bs.map V.ref))) p.2 = some (.tup (p.1.map V.int)) := fun p hp => s6 _ _ (k3 p hp)
      generalize upd H5 p1 (.lst (bs.map V.ref)) = H6 at *
      walk_at "rd"
      delta tNil
      show rSortedL K [V.ref p1] H6 _
      have hks : ∀ p ∈ ks, ∃ c ∈ cornersL n ms, suppI n c = p.1 := fun p hp => by
        have h1 : p.1 ∈ G.map (·.1) := by rw [← k1]; exact List.mem_map.mpr ⟨p, hp, rfl⟩
        exact List.mem_map.mp ((mem _).mp h1)
      refine sorted_keys e6 k6 (by rw [k1]; exact g.nd1) ?_ fun p2 ls hp2 hsub hls => ?_
      · rcases assoc_empty hMs with z | z
        · refine .inl fun p hp e => ?_
          obtain ⟨c, hc, e2⟩ := hks p hp
          exact z c hc (e2.trans e)
        · refine .inr fun p hp => ?_
          obtain ⟨c, hc, e2⟩ := hks p hp
          rw [← e2]; exact z c hc
      · have hls' : ls.map (·.1) = assocL n ms := by rw [hls, k1]; exact setL_of g.nd1 mem
        have hlsl : ls.length = (assocL n ms).length := by rw [← hls', List.length_map]
        have hal : (assocL n ms).length ≤ 1000 := by
          have h1 := setL_len ((cornersL n ms).map (suppI n))
          rw [List.length_map] at h1
          show (setL _).length ≤ 1000
          omega
        have s7 := same_upd (o := .lst (ls.map fun p => V.ref p.2)) hp2
        have e7 : (upd H6 p2 (.lst (ls.map fun p => V.ref p.2))) p2 = some (.lst (ls.map fun p => V.ref p.2)) := upd_same
        have g7 := g6.same s7
        have x07 := x06.same s7
        have k7 : ∀ p ∈ ls, (upd H6 p2 (.lst (ls.map fun p => V.ref p.2))) p.2 = some (.tup (p.1.map V.int)) := fun p hp => s7 _ _ (k6 p (hsub p hp))
        generalize upd H6 p2 (.lst (ls.map fun p => V.ref p.2)) = H7 at *
        refine ⟨_, rfl, ⟨_, .inl (.inl e7)⟩, fun D hDn => ?_⟩
        refine lc_it (walk_list (K := K) (a := p2) (xs := ls.map fun p => V.ref p.2)) (fun i H' => ∃ zs : List V, Ex t H7 H' ∧ H' D = some (.lst zs) ∧ zs.length = i ∧ DpAll K H' zs (((assocL n ms).take i).map (ppD n ms)) ∧ ∀ S ∈ (assocL n ms).take i, TopOf n top (lotS n ms S) (topL (lotS n ms S))) ⟨[], Ex.of x07.ts (same_upd hDn), upd_same, rfl, .nil, fun S h => (by cases h)⟩ (fun i H' _ q => ?_) (fun i x Ha Hb hi q y => ?_) (fun H8 q => ?_)
        · obtain ⟨zs, q1, _⟩ := q
          exact .inl (.inl (q1.keep _ _ e7 fun ps z => nomatch z))
        · obtain ⟨zs, q1, q2, q3, q4, q5⟩ := q
          obtain ⟨rfl, ey⟩ := y
          rw [List.length_map] at hi
          have hgi : ls[i]? = some ls[i] := List.getElem?_eq_getElem hi
          rw [List.getElem?_map, hgi] at ey
          obtain rfl := Option.some.inj ey
          have hmi : ls[i] ∈ ls := List.getElem_mem hi
          have hSi : (assocL n ms)[i]? = some (ls[i]).1 := by rw [← hls', List.getElem?_map, hgi]; rfl
          have et : (assocL n ms).take (i + 1) = (assocL n ms).take i ++ [(ls[i]).1] := by rw [List.take_add_one, hSi]; rfl
          have hSm : (ls[i]).1 ∈ assocL n ms := List.mem_of_getElem? hSi
          have hb7 := q1.keep _ _ (k7 _ hmi) fun ps z => nomatch z
          generalize ls[i] = sb at *
          obtain ⟨S, b⟩ := sb
          have hSG : S ∈ G.map (·.1) := (mem S).mpr (setL_mem.mp hSm)
          obtain ⟨pg, hpg, epg⟩ := List.mem_map.mp hSG
          obtain ⟨R, la⟩ := pg
          have eRS : R = S := epg
          subst eRS
          obtain ⟨vs, l1, l2, l3⟩ := g7.lst _ hpg
          have l1' := q1.keep _ _ l1 fun ps z => nomatch z
          have l3' := DpAll.tp (tp_ext q1.keep) _ _ (tOnly_rows _) l3
          have gd := q1.keep _ _ g7.dict fun ps z => nomatch z
          refine ⟨rfl, ?_⟩
          walk_at "rd"
          refine ⟨pd, .ref la, rfl, by rw [← valG_at g7.nd1 hpg]; exact DGet.t gd (by rw [keyI_kV]; exact hb7), ?_⟩
          walk_at "rd"
          have hlS : (lotS n ms R).length ≤ 64 := by
            have h1 := List.length_filter_le (fun c => decide (suppI n c = R)) (cornersL n ms)
            show ((cornersL n ms).filter _).length ≤ 64
            omega
          refine ⟨n, top, la, vs, lotS n ms R, rfl, hn1, hn, by omega, .inl (.inl l1'), l3', hlS, lot_B hD (by omega), q1.ts, fun p H8 hT x8 d8 => ?_⟩
          walk_at "rd"
          refine ⟨two_line, fun q hq => ?_⟩
          have x9 := q1.trans (x8.same (same_upd (o := .tup [.ref b, .ref p]) hq))
          have x89 := x8.same (same_upd (o := .tup [.ref b, .ref p]) hq)
          have z9 := x89.keep _ _ q2 fun ps z => nomatch z
          have b9 := x89.keep _ _ hb7 fun ps z => nomatch z
          have q4' := DpAll.tp (tp_ext x89.keep) _ _ (tOnly_pp n ms _) q4
          have d9 := Dp.same (same_upd (o := .tup [.ref b, .ref p]) hq) _ _ d8
          refine ⟨zs, z9, by omega, zs ++ [.ref q], Ex.lst x9 (NewP.of hDn) z9, upd_same, by simp [q3], ?_, fun T hT' => ?_⟩
          · rw [et, List.map_append]
            refine DpAll.tp (tp_lst z9) _ _ (by rw [← List.map_append]; exact tOnly_pp n ms _) (dpAll_snoc q4' ?_)
            exact .tup (.inl (.inl upd_same)) (.cons (dp_ints (.inl (.inl b9))) (.cons d9 .nil))
          · rw [et] at hT'
            rcases List.mem_append.mp hT' with z | z
            · exact q5 T z
            · rw [List.mem_singleton.mp z]; exact hT
        · obtain ⟨zs, q1, q2, q3, q4, q5⟩ := q
          rw [List.length_map, hlsl, List.take_length] at q4 q5
          exact kk D _ zs q5 (x07.trans q1) (NewP.ex x07 (NewP.of hDn)) q2 q4
end

/-! ### the law's small defs: least ones, shows, sets -/
section
variable {P : Program} {w : World} {K : PySem.W.Frag} {mg : Str → Option Value} {base : Heap}
theorem setL_sorted (l : List (List Int)) : (setL l).Pairwise fun a b => leR a b = true := PySem.W.sort_pairwise leR_total _
theorem setL_nodup (l : List (List Int)) : (setL l).Nodup := ((List.mergeSort_perm _ _).nodup_iff).mpr (dd_nodup l)
def sp_law_least (K : PySem.W.Frag) : Sp := fun vs H Q _ => ∃ (l : Addr) (xs : List V) (ms : List (List Int)) (n : Nat), vs = [.ref l] ∧ (SqL K H l xs ∨ SqT K H l xs) ∧ DpAll K H xs (ms.map rD) ∧ (∀ g ∈ ms, g.length = n) ∧ 1 ≤ n ∧ n ≤ 8 ∧ ms.length < 64 ∧ ∀ p H', Same H H' → Dp K H' (.ref p) (rsD (minS n ms)) → Q (.ref p) H'
theorem ok_law_least (T : Txt K mg) : FnOk P w K mg base CX0 2 T.law_least.f T.law_least.fd P_law_least (sp_law_least K) := by
  refine T.law_least.F.ok sc_law_least (fun vs H Q E h => ?_) (fun cdv A outer s H vs Q E hr h => ?_)
  · obtain ⟨l, xs, ms, n, rfl, _⟩ := h; rfl
  · obtain ⟨l, xs, ms, n, rfl, hl, hd, hg, hn1, hn, hml, kk⟩ := h
    have hbig : 1000000 < sizeLine := by decide
    refine ⟨_, (pss_cons (ps_par rfl sc_law_least.nd (i := 1) (j := 2) rfl rfl (by decide) rfl rfl (pa_cons (pe_callB (r := rSortedSetE K P w) (cr_sortedSetE rfl hr.units) rfl T.n_sorted bo_sorted (pa_cons (pe_callTy (r := rSetA K P w) (cr_setA rfl hr.units) rfl T.n_set bo_set (pa_cons (pv 0) pa_nil)) pa_nil)) (pa_cons (pe_lst pa_nil) pa_nil)) rfl)
  (pss_cons (ps_for PassesOwn.never rfl (pi_list (pv 1)) (pg_name (i := 3) sc_law_least.nd rfl (Or.inr rfl)) (pss_one (ps_if (pt_cmpR (r := rEqD K) (op_eqD hr.units) (pe_lc (own := [("one", 4)]) rfl sc_law_least.nd (pi_list (pv 1)) (blkOk_by (own := [("one", 4)]) (N := N_law_least) (sc := defScope s_law_least) (by decide +kernel)) (fun _ _ _ _ _ => (pg_name (i := 4) sc_law_least.nd rfl (Or.inl rfl))) (fun _ _ _ _ _ => pts_one (PW.pt (pw_and (pt_cmpR (r := rNeD K) (op_neD hr.units) (pv 4) (pv 3) (nomark _)) (pw_and1 (pt_val (pe_call (ok_law_divides T) (hr.mono (by decide)) rfl T.law_divides.g T.law_divides.F.kp (b_law_divides T) .nil pass0 (pa_cons (pv 4) (pa_cons (pv 3) pa_nil)))))))) (fun _ _ _ _ _ => (pv 4))) (pe_lst pa_nil) (nomark _)) (pss_one (ps_expr (pe_bm PySem.F.plainAttrs_list PySem.F.slot_list_append PySem.F.type_list_append mt_append (pv 2) (pa_cons (pv 3) pa_nil)))) pss_nil)))
  (pss_one (ps_ret (pe_callTy (r := rTupOf K) call_tuple_of rfl T.n_tuple bo_tuple (pa_cons (pv 2) pa_nil)))))), ?_⟩
    walk_at "rd"
    delta tNil
    show rSetA K P w [V.ref l] H _
    refine set_rows hl hd hml (.inl fun x hx e => ?_) fun a Ha sa hso => ?_
    · have := hg x hx
      rw [e] at this
      simp at this
      omega
    refine hso _ fun p zs hp dz => ?_
    have s1 := Same.trans sa (same_upd (o := .lst zs) hp)
    have e1 : (upd Ha p (.lst zs)) p = some (.lst zs) := upd_same
    have lF : ∀ x ∈ setL ms, x.length = n := fun x hx => hg x (setL_mem.mp hx)
    have hmin := law_min (n := n) hg (setL_sorted ms) (setL_nodup ms) fun x => setL_mem
    have hzl : zs.length ≤ 64 := by
      have h1 := Toy.DpAll.len dz
      have h2 := setL_len ms
      rw [List.length_map] at h1
      omega
    generalize upd Ha p (.lst zs) = H1 at *
    generalize setL ms = F at *
    have hzF : zs.length = F.length := by have := Toy.DpAll.len dz; rwa [List.length_map] at this
    walk_at "rd"
    refine ⟨by decide, fun pl npl => ?_⟩
    have s2 := same_upd (o := .lst []) npl
    walk_at "rd"
    refine ⟨⟨_, .inl (.inl (s2 _ _ e1))⟩, ?_⟩
    refine for_list (K := K) (a := p) (xs := zs) (fun j σ H' => ∃ (y3 : Option V) (ls : List V), σ = [some (.ref l), some (.ref p), some (.ref pl), y3, none] ∧ Same H1 H' ∧ H' pl = some (.lst ls) ∧ ls.length ≤ j ∧ DpAll K H' ls (((F.take j).filter fun x => F.all fun y => !(decide (y ≠ x) && divB n y x)).map rD))
      ⟨_, [], rfl, s2, upd_same, Nat.le_refl _, .nil⟩ (fun j σ H' _ q => ?_) (fun j x σ H3 hj q => ?_) (fun σ H3 q => ?_)
    · obtain ⟨_, _, _, q1, _⟩ := q
      exact .inl (.inl (q1 _ _ e1))
    · obtain ⟨y3, ls, rfl, q1, q2, q3, q4⟩ := q
      obtain ⟨ax, x, hx, rfl, hax⟩ := row_at dz hj
      have hjl : j < zs.length := (List.getElem?_eq_some_iff.mp hj).1
      have hxl := lF x (List.mem_of_getElem? hx)
      have et : F.take (j + 1) = F.take j ++ [x] := by rw [List.take_add_one, hx]; rfl
      have hax3 := Toy.Same.tup q1 hax
      walk_at "rd"
      refine ⟨⟨_, .inl (.inl (q1 _ _ e1))⟩, fun D hD => ?_⟩
      refine lc_rows (i := 4) (p := fun y => decide (y ≠ x) && divB n y x) (walk_list (K := K) (a := p) (xs := zs)) (fun H' s' => .inl (.inl (s' _ _ (q1 _ _ e1)))) (DpAll.same q1 _ _ dz) hD (by omega) (fun v => rfl) (fun v => rfl) (fun ay y H4 Qb hy hay s4 hq => ?_) (fun H4 ws s4 e4 d4 => ?_)
      · have hax4 := Toy.Same.tup s4 hax3
        walk_at "rd"
        refine neRow hay hax4 ?_
        by_cases hne : y = x
        · rw [decide_eq_true hne]
          walk_at "rd"
          have := hq H4 (Same.refl _)
          rw [decide_eq_false (fun c => c hne)] at this
          exact this
        · rw [decide_eq_false hne]
          walk_at "rd"
          refine ⟨ay, ax, y, x, n, rfl, hay, hax4, lF y hy, hxl, hn, fun H5 s5 => ?_⟩
          have := hq H5 s5
          rw [decide_eq_true hne, Bool.true_and] at this
          walk_at "rd"
          exact this
      · walk_at "rd"
        refine ⟨by decide, fun q0 hq0 => ?_⟩
        refine eqNil (.inl (.inl (same_upd hq0 _ _ e4))) upd_same (DpAll.same (same_upd hq0) _ _ d4) (sh_rows _) ?_
        rw [dpAll_empty d4, filter_empty]
        have s5 := Same.trans s4 (same_upd (o := .lst []) hq0)
        have q2' := s5 _ _ q2
        have q4' := DpAll.same s5 _ _ q4
        have q1' := Same.trans q1 s5
        generalize upd H4 q0 (.lst []) = H5 at *
        walk_at "rd"
        refine iteB (fun hb => ?_) (fun hb => ?_)
        · walk_at "rd"
          have ef : [x].filter (fun x => F.all fun y => !(decide (y ≠ x) && divB n y x)) = [x] := by rw [List.filter_cons, if_pos hb]; rfl
          refine ⟨.inl ⟨rfl, _, .inl (.inl q2')⟩, ?_⟩
          walk_at "rd"
          refine ⟨_, _, _, rfl, rfl, q2', by omega, _, ls ++ [.ref ax], rfl, fun b' v e => ?_, upd_same, by simp; omega, ?_⟩
          · rw [upd_ne (ne_of_none e npl)]
            exact q1' _ _ e
          · rw [et, List.filter_append, ef, List.map_append]
            exact DpAll.tp (tp_lst q2') _ _ (by rw [← List.map_append]; exact tOnly_rows _) (dpAll_snoc q4' (dp_ints (Toy.Same.tup s5 hax3)))
        · have ef : [x].filter (fun x => F.all fun y => !(decide (y ≠ x) && divB n y x)) = [] := by rw [List.filter_cons, if_neg (by rw [hb]; exact Bool.false_ne_true)]; rfl
          refine ⟨_, ls, rfl, q1', q2', by omega, ?_⟩
          rw [et, List.filter_append, ef, List.append_nil]
          exact q4'
    · obtain ⟨y3, ls, rfl, q1, q2, q3, q4⟩ := q
      rw [hzF, List.take_length, hmin] at q4
      walk_at "rd"
      refine ⟨_, _, rfl, .inl ⟨.inl (.inl q2), fun l hl => ?_⟩⟩
      exact kk l _ (Same.trans s1 (Same.trans q1 (same_upd hl))) (.tup (.inl (.inl upd_same)) (DpAll.same (same_upd hl) _ _ q4))
end

/-! ### the law of k64: the meet of all parts but one -/
section
variable {P : Program} {w : World} {K : PySem.W.Frag} {mg : Str → Option Value} {base : Heap}
/-- small monomials -/
def SmallM (n : Nat) (W : List (List Int)) : Prop := ∀ m ∈ W, m.length = n ∧ ∀ e ∈ m, 0 ≤ e ∧ e ≤ 8
theorem small_least {n : Nat} {l : List (List Int)} (h : SmallM n l) : SmallM n (minS n l) := fun m hm => by
  unfold minS at hm
  exact h m (least_mem ((List.mergeSort_perm _ _).mem_iff.mp hm))
theorem small_gI {n : Nat} {m : List Int} (hl : m.length = n) (h : ∀ i, i < n → 0 ≤ gI m i ∧ gI m i ≤ 8) : ∀ e ∈ m, 0 ≤ e ∧ e ≤ 8 := fun e he => by
  obtain ⟨i, hi, rfl⟩ := List.mem_iff_getElem.mp he
  have eg : gI m i = m[i] := by
    have := gI_get hi
    rw [List.getElem?_eq_getElem hi] at this
    exact (Option.some.inj this).symm
  rw [← eg]
  exact h i (by omega)
theorem gI_small {n : Nat} {W : List (List Int)} (h : SmallM n W) {m : List Int} (hm : m ∈ W) {i : Nat} (hi : i < n) : 0 ≤ gI m i ∧ gI m i ≤ 8 := (h m hm).2 _ (List.mem_of_getElem? (gI_get (by rw [(h m hm).1]; exact hi)))
theorem small_meet {n : Nat} {ks ms : List (List Int)} (hk : SmallM n ks) (hm : SmallM n ms) : SmallM n (minS n (ks.flatMap fun a => ms.map (lcmL n a))) := by
  refine small_least fun m hm' => ?_
  obtain ⟨a, ha, hm'⟩ := List.mem_flatMap.mp hm'
  obtain ⟨b, hb, rfl⟩ := List.mem_map.mp hm'
  refine ⟨lcmL_len, small_gI lcmL_len fun i hi => ?_⟩
  rw [lcmL_gI hi]
  have h1 := gI_small hk ha hi
  have h2 := gI_small hm hb hi
  split <;> omega
theorem small_part {n top : Nat} {ms : List (List Int)} (h : DrawnOk n top ms) (ht : top ≤ 5) {S : List Int} (hT : TopOf n top (lotS n ms S) (topL (lotS n ms S))) : SmallM n (partS n ms S) := fun m hm => by
  have hC := lot_C h (show top ≤ 8 by omega) hT
  have hm' := part_mem.mp hm
  have hl := raw_len hC hm'
  refine ⟨hl, small_gI hl fun i hi => ?_⟩
  have h1 := raw_nn hC hm' hi
  have h2 := hT.2.1
  omega
theorem lot_small {n : Nat} {W : List (List Int)} (h : SmallM n W) (hl : W.length ≤ 12) : LotOk n W := ⟨hl, h⟩
/-- what the meet of some parts holds -/
def MeetOk (n : Nat) (ms : List (List Int)) (Ss : List (List Int)) (W : List (List Int)) : Prop := SmallM n W ∧ (W.length ≤ 12 → ∀ v, holdsB n W v = Ss.all fun S => holdsB n (partS n ms S) v)
end

section
variable {P : Program} {w : World} {K : PySem.W.Frag} {mg : Str → Option Value} {base : Heap}
theorem neRows {H : Hp} {u v : V} {ls ks : List (List Int)} {Q : VK} (ha : Dp K H u (rsD ls)) (hb : Dp K H v (rsD ks)) (q : Q (.bl (!decide (ls = ks))) H) : rNeD K u v H Q := by
  refine ⟨_, _, ha, hb, sh_rsD ls, sh_rsD ks, ?_⟩
  show Q (.bl (!PyData.eqvAll (ls.map rD) (ks.map rD))) H
  rw [eqv_rowsL]
  exact q
theorem nodup_at {α : Type} {l : List α} (h : l.Nodup) {i j : Nat} {hi : i < l.length} {hj : j < l.length} (e : l[i] = l[j]) : i = j := by
  have hp := List.pairwise_iff_getElem.mp h
  rcases Nat.lt_trichotomy i j with z | z | z
  · exact absurd e (hp i j hi hj z)
  · exact z
  · exact absurd e.symm (hp j i hj hi z)
def othersL (n : Nat) (ms : List (List Int)) (ix i : Nat) : List (List Int) := ((List.range i).filter fun j => decide (j ≠ ix)).map fun j => (assocL n ms).getD j []
theorem others_succ {n : Nat} {ms : List (List Int)} {ix i : Nat} : othersL n ms ix (i + 1) = if i = ix then othersL n ms ix i else othersL n ms ix i ++ [(assocL n ms).getD i []] := by
  unfold othersL
  rw [List.range_succ, List.filter_append, List.map_append]
  by_cases e : i = ix
  · rw [if_pos e, List.filter_cons, if_neg (by simp [e]), List.filter_nil, List.map_nil, List.append_nil]
  · rw [if_neg e, List.filter_cons, if_pos (by simp [e]), List.filter_nil]; rfl
theorem tailZ_ok (T : Txt K mg) {t : TabsAt} (B : TBs T base t) {fl : Addr} {cdv : Value} {A : Around} {outer : List Env} {s : Shared} {H0 : Hp} {E : XK} (hr : Room 22 (A.deeper (PyProof.Rows.envOfC "law" (defScope s_law) s.heap.objs.size fl cdv))) :
    ∃ tt, PSs (cxOf CX0 P w K mg base N_law "law" (defScope s_law) fl cdv A outer s H0 E).nox ((defBody s_law).drop 12) tt ∧
      ∀ (Q : VK) (H : Hp) (n top ix : Nat) (ms : List (List Int)) (am pf : Addr) (xs : List V) (x0 x1 x3 x5 x7 x8 x9 x10 x11 x13 x14 x15 x16 x17 : Option V), 1 ≤ n → n ≤ 4 → top ≤ 5 → DrawnOk n top ms → ms.length ≤ 5 → (∀ S ∈ assocL n ms, TopOf n top (lotS n ms S) (topL (lotS n ms S))) → (∀ S ∈ assocL n ms, (partS n ms S).length ≤ 12) → 2 ≤ (assocL n ms).length → (assocL n ms).length ≤ 1000 → ix < (assocL n ms).length →
        TS t H → Dp K H (.ref am) (rsD ms) → H pf = some (.lst xs) → DpAll K H xs ((assocL n ms).map (ppD n ms)) → (∀ H', Q (.bl true) H') →
        tt { nx := fun _ H' => Q .non H', rt := Q } [x0, x1, some (.int n), x3, some (.ref am), x5, some (.ref pf), x7, x8, x9, x10, x11, some (.int ix), x13, x14, x15, x16, x17, some .non, none] H := by
  refine ⟨_, (pss_cons (ps_for PassesOwn.never rfl (pi_range1 rfl T.n_range (pa_cons (pe_callB (r := rLenS K) call_len_seq rfl T.n_len bo_len (pa_cons (pv 6) pa_nil)) pa_nil)) (pg_name (i := 19) sc_law.nd rfl (Or.inl rfl)) (pss_one (ps_if (PW.pt (pw_and (pt_cmpR op_ne (pv 19) (pv 12) (nomark _)) (pw_and1 (PW.pt (pw_or (pt_cmpR op_isN (pv 18) pe_non (nomark _)) (pw_or1 (pt_cmpR op_lt (pe_callB (r := rLenS K) call_len_seq rfl T.n_len bo_len (pa_cons (pv 18) pa_nil)) pe_int (nomark _)))))))) (pss_one (ps_set (i := 18) sc_law.nd rfl (Or.inl rfl) (pe_ifExp (pt_cmpR op_isN (pv 18) pe_non (nomark _)) (pe_ix (r := rIxT K) ix_tup (pe_ix (r := rIxL K) ix_list (pv 6) (pv 19) (fun _ _ => rfl)) pe_int (fun _ _ => rfl)) (pe_call (ok_mono_meet T B) (hr.mono (by decide)) rfl T.mono_meet.g T.mono_meet.F.kp (b_mono_meet T) .nil pass0 (pa_cons (pv 2) (pa_cons (pv 18) (pa_cons (pe_ix (r := rIxT K) ix_tup (pe_ix (r := rIxL K) ix_list (pv 6) (pv 19) (fun _ _ => rfl)) pe_int (fun _ _ => rfl)) pa_nil))))))) pss_nil)))
  (pss_one (ps_ret (pe_or (pe_cmpR op_gt (pe_callB (r := rLenS K) call_len_seq rfl T.n_len bo_len (pa_cons (pv 18) pa_nil)) pe_int (nomark _)) (pe_one (pe_cmpR (op_neD hr.units) (pv 18) (pe_call (ok_law_least T) (hr.mono (by decide)) rfl T.law_least.g T.law_least.F.kp (b_law_least T) .nil pass0 (pa_cons (pv 4) pa_nil)) (nomark _))))))), ?_⟩
  intro Q H n top ix ms am pf xs x0 x1 x3 x5 x7 x8 x9 x10 x11 x13 x14 x15 x16 x17 hn1 hn ht hD hml hTop hlen h2 hal hix ts hm e1 d1 k
  have hbig : 100000 < sizeLine := by decide
  have hxl : xs.length = (assocL n ms).length := by have := Toy.DpAll.len d1; rwa [List.length_map] at this
  have part_at : ∀ {H' : Hp} {i : Nat}, i < xs.length → Ex t H H' → ∃ px pq ap S, xs[i]? = some (.ref px) ∧ (assocL n ms)[i]? = some S ∧ S ∈ assocL n ms ∧ SqT K H' px [.ref ap, .ref pq] ∧ Dp K H' (.ref pq) (rsD (partS n ms S)) := fun {H'} {i} hi x => by
    have hi' : i < (assocL n ms).length := by omega
    have dx : Dp K H xs[i] (ppD n ms (assocL n ms)[i]) := dpAll_at d1 (List.getElem?_eq_getElem hi) (by rw [List.getElem?_map, List.getElem?_eq_getElem hi']; rfl)
    have tp := tp_ext x.keep
    cases hxi : xs[i] with
    | ref px =>
      rw [hxi] at dx
      cases dx with
      | @tup b us _ hb hbs =>
        cases hbs with
        | cons h1 h3 =>
          cases h3 with
          | cons h4 h5 =>
            cases h5
            obtain ⟨pq, _, rfl, _, _⟩ := rows_tup h4
            cases h1 with
            | @tup ap _ _ _ _ =>
              exact ⟨px, pq, ap, _, by rw [List.getElem?_eq_getElem hi, hxi], List.getElem?_eq_getElem hi', List.getElem_mem hi', tp.sqt hb, Dp.tp tp _ _ (tOnly_rsD _) h4⟩
    | _ => rw [hxi] at dx; cases dx
  walk_at "rd"
  refine ⟨by omega, by omega, ?_⟩
  rw [Int.toNat_natCast]
  refine for_range (lo := 0) (n := xs.length) (fun i σ H' => ∃ (v y19 : Option V) (wv : V), v = some wv ∧ σ = [x0, x1, some (.int n), x3, some (.ref am), x5, some (.ref pf), x7, x8, x9, x10, x11, some (.int ix), x13, x14, x15, x16, x17, v, y19] ∧ Ex t H H' ∧
      ((wv = .non ∧ othersL n ms ix i = []) ∨ ∃ W, Dp K H' wv (rsD W) ∧ MeetOk n ms (othersL n ms ix i) W))
    ⟨_, _, _, rfl, rfl, Ex.of ts (Same.refl _), .inl ⟨rfl, rfl⟩⟩ ?_ ?_
  · rintro i σ H1 hi ⟨_, y19, wv, rfl, rfl, x1, hW⟩
    obtain ⟨px, pq, ap, S, hpx, hS, hSm, tpx, dpq⟩ := part_at hi x1
    have hpf := x1.keep _ _ e1 fun ps z => nomatch z
    have ha : atI xs (0 + (i : Int)) = some (.ref px) := at_of (show (0 : Int) + (i : Int) = ((i : Nat) : Int) by omega) hpx
    have hg : (assocL n ms).getD i [] = S := by rw [List.getD_eq_getElem?_getD, hS]; rfl
    have hsm := small_part hD ht (hTop S hSm)
    walk_at "rd"
    refine iteVn (fun hne => ?_) (fun he => ?_)
    · have hne' : i ≠ ix := by omega
      have eo : othersL n ms ix (i + 1) = othersL n ms ix i ++ [S] := by rw [others_succ, if_neg hne', hg]
      rcases hW with ⟨rfl, hnil⟩ | ⟨W, dW, hok⟩
      · walk_at "rd"
        refine ⟨_, _, _, _, rfl, rfl, .inl (.inl hpf), ha, ?_⟩
        walk_at "rd"
        refine ⟨_, _, _, rfl, rfl, x1, .inr ⟨_, dpq, hsm, fun _ v => ?_⟩⟩
        rw [eo, hnil, List.nil_append, List.all_cons, List.all_nil, Bool.and_true]
      · obtain ⟨aw, ws, rfl, haw, hws⟩ := rows_tup dW
        have hwl : ws.length = W.length := by have := Toy.DpAll.len hws; rwa [List.length_map] at this
        walk_at "rd"
        refine ⟨_, _, rfl, .inr haw, ?_⟩
        walk_at "rd"
        refine iteD (fun hlt => ?_) (fun hge => ?_)
        · have hW12 : W.length ≤ 12 := by omega
          walk_at "rd"
          refine ⟨_, _, _, _, rfl, rfl, .inl (.inl hpf), ha, ?_⟩
          walk_at "rd"
          refine ⟨n, .ref aw, .ref pq, W, partS n ms S, rfl, hn1, by omega, dW, lot_small hok.1 hW12, dpq, lot_small hsm (hlen S hSm), x1.ts, fun p H2 x2 d2 => ?_⟩
          walk_at "rd"
          refine ⟨_, _, _, rfl, rfl, x1.trans x2, .inr ⟨_, d2, small_meet hok.1 hsm, fun _ v => ?_⟩⟩
          rw [eo, meet_holds, hok.2 hW12, List.all_append, List.all_cons, List.all_nil, Bool.and_true]
        · refine ⟨_, _, _, rfl, rfl, x1, .inr ⟨_, dW, hok.1, fun hle => ?_⟩⟩
          omega
    · have he' : i = ix := by omega
      refine ⟨_, _, _, rfl, rfl, x1, ?_⟩
      rw [others_succ, if_pos he']
      exact hW
  · rintro σ H1 ⟨_, y19, wv, rfl, rfl, x1, hW⟩
    have hne : othersL n ms ix xs.length ≠ [] := fun e => by
      have hj : ∃ j, j < xs.length ∧ j ≠ ix := ⟨if ix = 0 then 1 else 0, by split <;> omega, by split <;> omega⟩
      obtain ⟨j, hj, hjx⟩ := hj
      have : (assocL n ms).getD j [] ∈ othersL n ms ix xs.length := List.mem_map.mpr ⟨j, List.mem_filter.mpr ⟨List.mem_range.mpr hj, decide_eq_true hjx⟩, rfl⟩
      rw [e] at this
      cases this
    rcases hW with ⟨_, e⟩ | ⟨W, dW, hok⟩
    · exact absurd e hne
    obtain ⟨aw, ws, rfl, haw, hws⟩ := rows_tup dW
    have hwl : ws.length = W.length := by have := Toy.DpAll.len hws; rwa [List.length_map] at this
    have hMs := drawn_ms hD (show top ≤ 8 by omega)
    walk_at "rd"
    refine ⟨_, _, rfl, .inr haw, ?_⟩
    walk_at "rd"
    refine iteD (fun hlt => k _) (fun hge => ?_)
    have hW12 : W.length ≤ 12 := by omega
    have dm1 := Dp.tp (tp_ext x1.keep) _ _ (tOnly_rsD _) hm
    obtain ⟨am', bs, eam, ham, hbs⟩ := rows_tup dm1
    cases eam
    walk_at "rd"
    refine ⟨am, bs, ms, n, rfl, .inr ham, hbs, fun g hg => (hD g hg).1, hn1, by omega, by omega, fun p H2 s2 d2 => ?_⟩
    refine neRows (Dp.same s2 _ _ dW) d2 ?_
    rw [decide_eq_false]
    · exact k _
    · intro e
      have hix' : (assocL n ms)[ix]? = some (assocL n ms)[ix] := List.getElem?_eq_getElem hix
      obtain ⟨v, hv1, hv2⟩ := parts_need hD (show top ≤ 8 by omega) hTop (List.getElem_mem hix)
      refine hv2 ?_
      rw [← min_holds, ← e, hok.2 hW12, List.all_eq_true]
      intro R hR
      obtain ⟨j, hj, rfl⟩ := List.mem_map.mp hR
      obtain ⟨hj1, hj2⟩ := List.mem_filter.mp hj
      have hj1 := List.mem_range.mp hj1
      have hj2 : j ≠ ix := of_decide_eq_true hj2
      have ej : (assocL n ms).getD j [] = (assocL n ms)[j]'(by omega) := by rw [List.getD_eq_getElem?_getD, List.getElem?_eq_getElem]; rfl
      rw [ej]
      exact hv1 _ (List.getElem_mem _) fun z => hj2 (nodup_at (setL_nodup _) z)
end

/-! ### the law of k64: the tail from `if len(found) < 2` -/
section
variable {P : Program} {w : World} {K : PySem.W.Frag} {mg : Str → Option Value} {base : Heap}
theorem pp_at {H : Hp} {n : Nat} {ms L : List (List Int)} {xs : List V} {i : Nat} {x : V} (d : DpAll K H xs (L.map (ppD n ms))) (hx : xs[i]? = some x) : ∃ px pq ap S, x = .ref px ∧ L[i]? = some S ∧ S ∈ L ∧ SqT K H px [.ref ap, .ref pq] ∧ SqT K H ap (S.map V.int) ∧ Dp K H (.ref pq) (rsD (partS n ms S)) := by
  have hl : xs.length = L.length := by have := Toy.DpAll.len d; rwa [List.length_map] at this
  have hi : i < xs.length := (List.getElem?_eq_some_iff.mp hx).1
  have hi' : i < L.length := by omega
  have dx := dpAll_at d hx (by rw [List.getElem?_map, List.getElem?_eq_getElem hi']; rfl)
  cases x with
  | ref px =>
    cases dx with
    | @tup b us _ hb hbs =>
      cases hbs with
      | cons h1 h3 =>
        cases h3 with
        | cons h4 h5 =>
          cases h5
          obtain ⟨pq, _, rfl, _, _⟩ := rows_tup h4
          cases h1 with
          | @tup ap ys _ ha hys =>
            have ey := dpAll_ints_eq hys
            subst ey
            exact ⟨px, pq, ap, _, rfl, List.getElem?_eq_getElem hi', List.getElem_mem hi', hb, ha, h4⟩
  | _ => cases dx
structure LSt (t : TabsAt) (K : PySem.W.Frag) (r sa : Addr) (ns : List Int) (n top : Nat) (ms : List (List Int)) (bs xs : List V) (am pb pf : Addr) (H : Hp) : Prop where
  row : RowAt K H r sa ns
  ts : TS t H
  hm : Dp K H (.ref am) (rsD ms)
  hb : H pb = some (.lst bs)
  hbd : DpAll K H bs ((boxL top n).map rD)
  hf : H pf = some (.lst xs)
  hfd : DpAll K H xs ((assocL n ms).map (ppD n ms))
  nb : pb ≠ r
  nf : pf ≠ r
theorem LSt.step {t : TabsAt} {r sa : Addr} {ns : List Int} {n top : Nat} {ms : List (List Int)} {bs xs : List V} {am pb pf : Addr} {H H' : Hp} (S : LSt t K r sa ns n top ms bs xs am pb pf H) (k : LK t K r sa ns H H') : LSt t K r sa ns n top ms bs xs am pb pf H' := by
  have tp := LK.tp S.row k
  exact ⟨k.row, k.ts, Dp.tp tp _ _ (tOnly_rsD _) S.hm, k.keep _ _ S.nb S.hb (fun _ z => nomatch z), DpAll.tp tp _ _ (tOnly_rows _) S.hbd, k.keep _ _ S.nf S.hf (fun _ z => nomatch z), DpAll.tp tp _ _ (tOnly_pp _ _ _) S.hfd, S.nb, S.nf⟩
theorem LSt.same {t : TabsAt} {r sa : Addr} {ns : List Int} {n top : Nat} {ms : List (List Int)} {bs xs : List V} {am pb pf : Addr} {H H' : Hp} (S : LSt t K r sa ns n top ms bs xs am pb pf H) (s : Same H H') : LSt t K r sa ns n top ms bs xs am pb pf H' := S.step (LK.same S.row S.ts s)
theorem LSt.ex {t : TabsAt} {r sa : Addr} {ns : List Int} {n top : Nat} {ms : List (List Int)} {bs xs : List V} {am pb pf : Addr} {H H' : Hp} (S : LSt t K r sa ns n top ms bs xs am pb pf H) (x : Ex t H H') : LSt t K r sa ns n top ms bs xs am pb pf H' := S.step (LK.ex S.row x)
theorem LSt.draw {t : TabsAt} {r sa : Addr} {ns : List Int} {n top : Nat} {ms : List (List Int)} {bs xs : List V} {am pb pf : Addr} {H H' : Hp} (S : LSt t K r sa ns n top ms bs xs am pb pf H) (h : RowAt K H' r sa ns) (b : ButRow r H H') : LSt t K r sa ns n top ms bs xs am pb pf H' := S.step (LK.rk S.row S.ts (RK.draw h b))
theorem LSt.xl {t : TabsAt} {r sa : Addr} {ns : List Int} {n top : Nat} {ms : List (List Int)} {bs xs : List V} {am pb pf : Addr} {H : Hp} (S : LSt t K r sa ns n top ms bs xs am pb pf H) : xs.length = (assocL n ms).length := by have := Toy.DpAll.len S.hfd; rwa [List.length_map] at this
theorem assoc_len {n top : Nat} {ms : List (List Int)} (hn1 : 1 ≤ n) (hpw : (top + 1) ^ (n - 1) ≤ 64) (ht : top ≤ 5) (hD : DrawnOk n top ms) : (assocL n ms).length ≤ 64 := by
  have h1 := setL_len ((cornersL n ms).map (suppI n))
  rw [List.length_map] at h1
  have h2 := parts_few hD (show top ≤ 8 by omega) hn1
  rw [parts_corners] at h2
  show (setL _).length ≤ 64
  omega
theorem tailY_ok (T : Txt K mg) {t : TabsAt} (B : TBs T base t) {fl : Addr} {cdv : Value} {A : Around} {outer : List Env} {s : Shared} {H0 : Hp} {E : XK} (hr : Room 22 (A.deeper (PyProof.Rows.envOfC "law" (defScope s_law) s.heap.objs.size fl cdv))) :
    ∃ tt, PSs (cxOf CX0 P w K mg base N_law "law" (defScope s_law) fl cdv A outer s H0 E).nox ((defBody s_law).drop 9) tt ∧
      ∀ (Q : VK) (H : Hp) (r sa : Addr) (ns : List Int) (n top : Nat) (ms : List (List Int)) (bs xs : List V) (am pb pf : Addr) (x3 x7 x8 x9 x10 x11 x12 x13 x14 x15 x16 x17 : Option V), 1 ≤ n → n ≤ 4 → top ≤ 5 → (top + 1) ^ (n - 1) ≤ 64 → DrawnOk n top ms → ms.length ≤ 5 → (∀ S ∈ assocL n ms, TopOf n top (lotS n ms S) (topL (lotS n ms S))) →
        LSt t K r sa ns n top ms bs xs am pb pf H → (∀ H', Q (.bl true) H') →
        tt { nx := fun _ H' => Q .non H', rt := Q } [some (.ref sa), some (.ref r), some (.int n), x3, some (.ref am), some (.ref pb), some (.ref pf), x7, x8, x9, x10, x11, x12, x13, x14, x15, x16, x17, none, none] H := by
  obtain ⟨tZ, hZ, hqZ⟩ := tailZ_ok (P := P) (w := w) T B (cdv := cdv) (outer := outer) (H0 := H0) (E := E) hr
  refine ⟨_, pss_cons (ps_if (PW.pt (pw_or (pt_cmpR op_lt (pe_callB (r := rLenS K) call_len_seq rfl T.n_len bo_len (pa_cons (pv 6) pa_nil)) pe_int (nomark _)) (pw_or1 (pt_cmpR op_gt (pe_callB (cr_max rfl) rfl T.n_max bo_max (pa_cons (pe_lc (own := [("places", 7), ("part", 8)]) rfl sc_law.nd (pi_list (pv 6)) (blkOk_by (own := [("places", 7), ("part", 8)]) (N := N_law) (sc := defScope s_law) (by decide +kernel)) (fun _ _ _ _ _ => (pg_tupK (K := K) (n := 2) rfl rfl (pgs_cons (pg_name (i := 7) sc_law.nd rfl (Or.inl rfl)) (pgs_cons (pg_name (i := 8) sc_law.nd rfl (Or.inl rfl)) pgs_nil)))) (fun _ _ _ _ _ => pts_nil) (fun _ _ _ _ _ => (pe_callB (r := rLenS K) call_len_seq rfl T.n_len bo_len (pa_cons (pv 8) pa_nil)))) pa_nil)) pe_int (nomark _))))) (pss_one (ps_ret pe_bl)) pss_nil) (pss_cons (ps_set (i := 12) sc_law.nd rfl (Or.inl rfl) (pe_call (ok_law_taken T) (hr.mono (by decide)) rfl T.law_taken.g T.law_taken.F.kp (b_law_taken T) .nil pass0 (pa_cons (pv 1) (pa_cons (pe_callB (r := rLenS K) call_len_seq rfl T.n_len bo_len (pa_cons (pv 6) pa_nil)) pa_nil)))) (pss_cons (ps_set (i := 18) sc_law.nd rfl (Or.inl rfl) pe_non) hZ)), ?_⟩
  intro Q H r sa ns n top ms bs xs am pb pf x3 x7 x8 x9 x10 x11 x12 x13 x14 x15 x16 x17 hn1 hn ht hpw hD hml hTop hS k
  have hbig : 100000 < sizeLine := by decide
  have hxl := hS.xl
  have hal := assoc_len hn1 hpw ht hD
  walk_at "rd"
  refine ⟨_, _, rfl, .inl (.inl (.inl hS.hf)), ?_⟩
  walk_at "rd"
  refine iteD (fun hlt => ?_) (fun hge => ?_)
  · walk_at "rd"
    exact k _
  · walk_at "rd"
    refine ⟨⟨_, .inl (.inl hS.hf)⟩, fun D hDn => ?_⟩
    refine lc_mkInts (walk_list (K := K) (a := pf) (xs := xs)) (fun i => ((partS n ms ((assocL n ms).getD i [])).length : Int)) (fun H' s' => .inl (.inl (s' _ _ hS.hf))) hDn (by omega) (fun i x Ha Hb Qv hi s1 y hq => ?_) (fun H2 s2 e2 => ?_)
    · obtain ⟨rfl, ey⟩ := y
      obtain ⟨px, pq, ap, S, rfl, hSi, hSm, tpx, tap, dpq⟩ := pp_at (hS.same s1).hfd ey
      obtain ⟨_, ps, e0, hpq, hps⟩ := rows_tup dpq
      cases e0
      have hpl : ps.length = (partS n ms S).length := by have := Toy.DpAll.len hps; rwa [List.length_map] at this
      refine ⟨px, _, rfl, tpx, rfl, ?_⟩
      walk_at "rd"
      refine ⟨_, _, rfl, .inr hpq, ?_⟩
      have := hq _ (Same.refl _)
      rw [List.getD_eq_getElem?_getD, hSi] at this
      rw [hpl]
      exact this
    · have hS2 := hS.same s2
      walk_at "rd"
      refine ⟨D, _, rfl, .inl (.inl e2), by simp; omega, fun m hmm hmx => ?_⟩
      walk_at "rd"
      refine iteD (fun hgt => ?_) (fun hle => ?_)
      · walk_at "rd"
        exact k _
      · have hlen : ∀ S ∈ assocL n ms, (partS n ms S).length ≤ 12 := fun S hSm => by
          obtain ⟨i, hi, e⟩ := List.mem_iff_getElem.mp hSm
          have := hmx ((partS n ms S).length : Int) (List.mem_map.mpr ⟨i, List.mem_range.mpr (by omega), by rw [List.getD_eq_getElem?_getD, List.getElem?_eq_getElem hi, e]; rfl⟩)
          omega
        walk_at "rd"
        refine ⟨_, _, rfl, .inl (.inl (.inl hS2.hf)), ?_⟩
        walk_at "rd"
        refine ⟨r, sa, ns, _, rfl, hS2.row, by omega, by omega, fun v H3 v0 v1 row3 b3 => ?_⟩
        obtain ⟨ix, rfl⟩ := Int.eq_ofNat_of_zero_le v0
        have hS3 := hS2.draw row3 b3
        walk_at "rd"
        exact hqZ Q H3 n top ix ms am pf xs _ _ _ _ _ _ _ _ _ _ _ _ _ _ hn1 hn ht hD hml hTop hlen (by omega) (by omega) (by omega) hS3.ts hS3.hm hS3.hf hS3.hfd k
end

/-! ### the law of k64: products, six times -/
section
variable {P : Program} {w : World} {K : PySem.W.Frag} {mg : Str → Option Value} {base : Heap}
def loopP : List Stmt := forB ((defBody s_law).getD 8 (.Pass ⟨0, 0, 0, 0⟩))
theorem turns_ok (T : Txt K mg) {t : TabsAt} (B : TBs T base t) {fl : Addr} {cdv : Value} {A : Around} {outer : List Env} {s : Shared} {H0 : Hp} {E : XK} (hr : Room 22 (A.deeper (PyProof.Rows.envOfC "law" (defScope s_law) s.heap.objs.size fl cdv))) :
    ∃ tt, PSs (cxOf CX0 P w K mg base N_law "law" (defScope s_law) fl cdv A outer s H0 E).nox (loopP.drop 4) tt ∧
      ∀ (D : Ends) (H : Hp) (r sa : Addr) (ns : List Int) (n top : Nat) (ms : List (List Int)) (bs xs : List V) (am pb pf ap pq : Addr) (S : List Int) (M : List (List Int)) (x3 x9 x10 x11 x12 x13 x14 x15 x16 x17 : Option V), 1 ≤ n → n ≤ 4 → top ≤ 5 → PlacesOk n S → (∀ m ∈ M, m.length = n) → M.length ≤ 1000 →
        (∀ a b : List Int, holdsB n M ((List.range n).map fun i => gI a i + gI b i) = true → ¬ holdsB n M a = true → (∀ i, i < n → 0 ≤ gI a i) → ∃ p ∈ S, ¬ gI b p.toNat ≤ 0) →
        LSt t K r sa ns n top ms bs xs am pb pf H → SqT K H ap (S.map V.int) → Dp K H (.ref pq) (rsD M) →
        (∀ y14 y15 y16 y17 H', LSt t K r sa ns n top ms bs xs am pb pf H' → D.nx [some (.ref sa), some (.ref r), some (.int n), x3, some (.ref am), some (.ref pb), some (.ref pf), some (.ref ap), some (.ref pq), x9, x10, x11, x12, x13, y14, y15, y16, y17, none, none] H') →
        tt D [some (.ref sa), some (.ref r), some (.int n), x3, some (.ref am), some (.ref pb), some (.ref pf), some (.ref ap), some (.ref pq), x9, x10, x11, x12, x13, x14, x15, x16, x17, none, none] H := by
  refine ⟨_, (pss_one (ps_for PassesOwn.never rfl (pi_range1 rfl T.n_range (pa_cons pe_int pa_nil)) (pg_name (i := 14) sc_law.nd rfl (Or.inl rfl)) (pss_cons (ps_asg (pe_tup (pa_cons (pe_call (ok_law_pick T) (hr.mono (by decide)) rfl T.law_pick.g T.law_pick.F.kp (b_law_pick T) .nil pass0 (pa_cons (pv 1) (pa_cons (pv 5) pa_nil))) (pa_cons (pe_call (ok_law_pick T) (hr.mono (by decide)) rfl T.law_pick.g T.law_pick.F.kp (b_law_pick T) .nil pass0 (pa_cons (pv 1) (pa_cons (pv 5) pa_nil))) pa_nil))) (pg_tup rfl (pgs_cons (pg_name (i := 15) sc_law.nd rfl (Or.inr rfl)) (pgs_cons (pg_name (i := 16) sc_law.nd rfl (Or.inr rfl)) pgs_nil))))
  (pss_cons (ps_set (i := 17) sc_law.nd rfl (Or.inl rfl) (pe_callTy (r := rTupOf K) call_tuple_of rfl T.n_tuple bo_tuple (pa_cons (pe_lc (own := [("at", 12)]) rfl sc_law.nd (pi_range1 rfl T.n_range (pa_cons (pv 2) pa_nil)) (blkOk_by (own := [("at", 12)]) (N := N_law) (sc := defScope s_law) (by decide +kernel)) (fun _ _ _ _ _ => (pg_name (i := 12) sc_law.nd rfl (Or.inl rfl))) (fun _ _ _ _ _ => pts_nil) (fun _ _ _ _ _ => (pe_op op_add (pe_ix (r := rIxT K) ix_tup (pv 15) (pv 12) (fun _ _ => rfl)) (pe_ix (r := rIxT K) ix_tup (pv 16) (pv 12) (fun _ _ => rfl))))) pa_nil)))
  (pss_one (ps_if (PW.pt (pw_and (pt_val (pe_call (ok_law_holds T) (hr.mono (by decide)) rfl T.law_holds.g T.law_holds.F.kp (b_law_holds T) .nil pass0 (pa_cons (pv 8) (pa_cons (pv 17) pa_nil)))) (pw_and1 (pt_not (pt_val (pe_call (ok_law_holds T) (hr.mono (by decide)) rfl T.law_holds.g T.law_holds.F.kp (b_law_holds T) .nil pass0 (pa_cons (pv 8) (pa_cons (pv 15) pa_nil)))))))) (pss_one (ps_if (pt_cmpR (r := rEqD K) (op_eqD hr.units) (pe_lc (own := [("place", 13)]) rfl sc_law.nd (pi_tup (pv 7)) (blkOk_by (own := [("place", 13)]) (N := N_law) (sc := defScope s_law) (by decide +kernel)) (fun _ _ _ _ _ => (pg_name (i := 13) sc_law.nd rfl (Or.inl rfl))) (fun _ _ _ _ _ => pts_one (pt_cmpR op_gt (pe_ix (r := rIxT K) ix_tup (pv 16) (pv 13) (fun _ _ => rfl)) pe_int (nomark _))) (fun _ _ _ _ _ => (pv 13))) (pe_lst pa_nil) (nomark _)) (pss_one (ps_ret pe_bl)) pss_nil)) pss_nil)))))), ?_⟩
  intro D H r sa ns n top ms bs xs am pb pf ap pq S M x3 x9 x10 x11 x12 x13 x14 x15 x16 x17 hn1 hn ht hSo hMl hMn hpow hS hap hpq kk
  have hbig : 100000 < sizeLine := by decide
  have hbl : (boxL top n).length ≤ 1296 := by
    rw [box_len]
    have h1 : (top + 1) ^ n ≤ 6 ^ n := Nat.pow_le_pow_left (by omega) n
    have h2 : (6 : Nat) ^ n ≤ 6 ^ 4 := Nat.pow_le_pow_right (by decide) (by omega)
    omega
  have hb0 : 1 ≤ (boxL top n).length := by
    rw [box_len]
    exact Nat.pos_of_ne_zero (by simp)
  have hbsl : bs.length = (boxL top n).length := by have := Toy.DpAll.len hS.hbd; rwa [List.length_map] at this
  have hSl := places_le hSo
  walk_at "rd"
  refine ⟨by decide, by decide, ?_⟩
  refine for_range (lo := 0) (n := 6) (fun i σ H' => ∃ y14 y15 y16 y17, σ = [some (.ref sa), some (.ref r), some (.int n), x3, some (.ref am), some (.ref pb), some (.ref pf), some (.ref ap), some (.ref pq), x9, x10, x11, x12, x13, y14, y15, y16, y17, none, none] ∧ LSt t K r sa ns n top ms bs xs am pb pf H' ∧ SqT K H' ap (S.map V.int) ∧ Dp K H' (.ref pq) (rsD M)) ⟨_, _, _, _, rfl, hS, hap, hpq⟩ (fun i σ H1 hi q => ?_) (fun σ H1 q => ?_)
  · obtain ⟨y14, y15, y16, y17, rfl, hS1, hap1, hpq1⟩ := q
    walk_at "rd"
    refine ⟨r, sa, pb, ns, bs, rfl, hS1.row, .inl (.inl hS1.hb), hS1.nb, by omega, by omega, fun v0 G1 hv0 row1 but1 => ?_⟩
    have hT1 := hS1.draw row1 but1
    have tp1 := LK.tp hS1.row (LK.rk hS1.row hS1.ts (RK.draw row1 but1))
    walk_at "rd"
    refine ⟨r, sa, pb, ns, bs, rfl, hT1.row, .inl (.inl hT1.hb), hS1.nb, by omega, by omega, fun v1 G2 hv1 row2 but2 => ?_⟩
    have hT2 := hT1.draw row2 but2
    have tp2 := LK.tp hT1.row (LK.rk hT1.row hT1.ts (RK.draw row2 but2))
    walk_at "rd"
    refine ⟨two_line, fun p hp => ?_⟩
    have hT3 := hT2.same (same_upd (o := .tup [v0, v1]) hp)
    have hap3 := Toy.Same.tup (same_upd (o := .tup [v0, v1]) hp) (tp2.sqt (tp1.sqt hap1))
    have hpq3 := Dp.same (same_upd (o := .tup [v0, v1]) hp) _ _ (Dp.tp tp2 _ _ (tOnly_rsD _) (Dp.tp tp1 _ _ (tOnly_rsD _) hpq1))
    refine ⟨p, _, rfl, .inl (.inl upd_same), rfl, ?_⟩
    generalize upd G2 p (.tup [v0, v1]) = H3 at *
    obtain ⟨i0, hi0, e0⟩ := List.mem_iff_getElem.mp hv0
    obtain ⟨i1, hi1, e1⟩ := List.mem_iff_getElem.mp hv1
    obtain ⟨pa, a, ha, rfl, hpa⟩ := row_at hT3.hbd (List.getElem?_eq_getElem hi0 |>.trans (congrArg some e0))
    obtain ⟨pb', b, hb, rfl, hpb⟩ := row_at hT3.hbd (List.getElem?_eq_getElem hi1 |>.trans (congrArg some e1))
    obtain ⟨hal, ham⟩ := box_mem.mp (List.mem_of_getElem? ha)
    obtain ⟨hbl', hbm⟩ := box_mem.mp (List.mem_of_getElem? hb)
    walk_at "rd"
    refine ⟨(show (-2 ^ 62 : Int) ≤ (n : Int) by omega), (show (n : Int) < 2 ^ 62 by omega), fun D1 hD1 => ?_⟩
    rw [Int.toNat_natCast]
    refine lc_mkInts (walk_range (lo := 0) (n := n)) (fun i => gI a i + gI b i) (fun H' s' => trivial) hD1 (by omega) (fun k x Hc Hd Qv hk s2 y hq2 => ?_) (fun H4 s4 e4 => ?_)
    · obtain ⟨rfl, rfl⟩ := y
      walk_at "rd"
      refine ⟨_, _, _, _, rfl, rfl, Toy.Same.tup s2 hpa, at_of (show (0 : Int) + (k : Int) = ((k : Nat) : Int) by omega) (at_gI (by omega)), ?_⟩
      walk_at "rd"
      refine ⟨_, _, _, _, rfl, rfl, Toy.Same.tup s2 hpb, at_of (show (0 : Int) + (k : Int) = ((k : Nat) : Int) by omega) (at_gI (by omega)), ?_⟩
      walk_at "rd"
      exact hq2 _ (Same.refl _)
    · walk_at "rd"
      refine ⟨_, _, rfl, .inl ⟨.inl (.inl e4), fun l hl => ?_⟩⟩
      have s5 := Same.trans s4 (same_upd (o := .tup (((List.range n).map fun i => gI a i + gI b i).map V.int)) hl)
      have e5 : SqT K (upd H4 l (.tup (((List.range n).map fun i => gI a i + gI b i).map V.int))) l (((List.range n).map fun i => gI a i + gI b i).map V.int) := .inl (.inl upd_same)
      generalize upd H4 l (.tup (((List.range n).map fun i => gI a i + gI b i).map V.int)) = H5 at *
      have hT5 := hT3.same s5
      have hap5 := Toy.Same.tup s5 hap3
      have hpq5 := Dp.same s5 _ _ hpq3
      walk_at "rd"
      refine ⟨.ref pq, l, M, _, n, rfl, hpq5, e5, hMl, by simp, by omega, by omega, fun H6 s6 => ?_⟩
      walk_at "rd"
      refine iteB (fun h1 => ?_) (fun h1 => ?_)
      · walk_at "rd"
        refine ⟨.ref pq, pa, M, a, n, rfl, Dp.same s6 _ _ hpq5, Toy.Same.tup s6 (Toy.Same.tup s5 hpa), hMl, hal, by omega, by omega, fun H7 s7 => ?_⟩
        have hT7 := (hT5.same s6).same s7
        have s67 := Same.trans s6 s7
        have hap7 := Toy.Same.tup s67 hap5
        have hpq7 := Dp.same s67 _ _ hpq5
        have hpb7 := Toy.Same.tup s67 (Toy.Same.tup s5 hpb)
        cases h2 : holdsB n M a with
        | true =>
          refine ⟨_, rfl, ?_⟩
          refine iteF ?_
          exact ⟨_, _, _, _, rfl, hT7, hap7, hpq7⟩
        | false =>
          obtain ⟨p0, hp0, hgt⟩ := hpow a b h1 (by rw [h2]; exact Bool.false_ne_true) fun i hi => (ham i hi).1
          walk_at "rd"
          refine ⟨⟨_, hap7⟩, fun D2 hD2 => ?_⟩
          refine lc_it (walk_tup (K := K) (a := ap) (xs := S.map V.int)) (fun j H' => ∃ zs : List Int, Same H7 H' ∧ H' D2 = some (.lst (zs.map V.int)) ∧ zs.length ≤ j ∧ zs.isEmpty = !(S.take j).any fun p => decide (gI b p.toNat > 0)) ⟨[], same_upd hD2, upd_same, Nat.le_refl _, rfl⟩ (fun j H' _ q => ?_) (fun j x Hc Hd hj q y => ?_) (fun H8 q => ?_)
          · obtain ⟨zs, q1, _⟩ := q
            exact Toy.Same.tup q1 hap7
          · obtain ⟨zs, q1, q2, q3, q4⟩ := q
            obtain ⟨rfl, ey⟩ := y
            obtain ⟨hjS, rfl⟩ := gI_of ey
            have hgj := gI_get hjS
            have hpl := hSo.2 _ (List.mem_of_getElem? hgj)
            have et : S.take (j + 1) = S.take j ++ [gI S j] := by rw [List.take_add_one, hgj]; rfl
            refine ⟨rfl, ?_⟩
            walk_at "rd"
            refine ⟨_, _, _, _, rfl, rfl, Toy.Same.tup q1 hpb7, at_of (show gI S j = (((gI S j).toNat : Nat) : Int) by omega) (at_gI (by omega)), ?_⟩
            walk_at "rd"
            refine iteD (fun hb => ?_) (fun hb => ?_)
            · walk_at "rd"
              refine ⟨_, q2, by rw [List.length_map]; omega, zs ++ [gI S j], fun b' v e => ?_, by rw [upd_same]; simp, by simp; omega, ?_⟩
              · rw [upd_ne (ne_of_none e hD2)]
                exact q1 _ _ e
              · rw [et, List.any_append, List.any_cons, decide_eq_true hb]
                simp
            · refine ⟨zs, q1, q2, by omega, ?_⟩
              rw [et, List.any_append, List.any_cons, decide_eq_false hb, q4]
              simp
          · obtain ⟨zs, q1, q2, q3, q4⟩ := q
            rw [List.length_map, List.take_length] at q4
            have hany : (S.any fun p => decide (gI b p.toNat > 0)) = true := List.any_eq_true.mpr ⟨p0, hp0, decide_eq_true (by omega)⟩
            rw [hany] at q4
            walk_at "rd"
            refine ⟨by decide, fun q hq => ?_⟩
            refine eqNil (.inl (.inl ((upd_ne (ne_of_none q2 hq)).trans q2))) upd_same (dpAll_ints zs) (sh_li zs) ?_
            have e : (zs.map V.int).isEmpty = false := by
              rw [show (zs.map V.int).isEmpty = zs.isEmpty by cases zs <;> rfl, q4]
              rfl
            rw [e]
            have s8 := Same.trans q1 (same_upd (o := .lst []) hq)
            refine ⟨_, rfl, ?_⟩
            refine iteF ?_
            exact ⟨_, _, _, _, rfl, hT7.same s8, Toy.Same.tup s8 hap7, Dp.same s8 _ _ hpq7⟩
      · refine ⟨_, _, _, _, rfl, hT5.same s6, Toy.Same.tup s6 hap5, Dp.same s6 _ _ hpq5⟩
  · obtain ⟨y14, y15, y16, y17, rfl, hS1, _, _⟩ := q
    exact kk _ _ _ _ _ hS1
end

/-! ### the law of k64: each part -/
section
variable {P : Program} {w : World} {K : PySem.W.Frag} {mg : Str → Option Value} {base : Heap}
theorem part_len {n top : Nat} {ms : List (List Int)} (hD : DrawnOk n top ms) (ht : top ≤ 5) (hn1 : 1 ≤ n) {S : List Int} (hT : TopOf n top (lotS n ms S) (topL (lotS n ms S))) : (partS n ms S).length ≤ (top + 1) ^ (n - 1) := by
  show (partM n _ _).length ≤ _
  unfold partM rawM
  rw [List.length_mergeSort, List.length_map]
  exact corners_few (turn_drawn (lot_B hD (by omega)) hT) (by omega) hn1 (Nat.le_refl _)
theorem part_drawn {n top : Nat} {ms : List (List Int)} (h : DrawnOk n top ms) (ht : top ≤ 5) {S : List Int} (hT : TopOf n top (lotS n ms S) (topL (lotS n ms S))) : DrawnOk n top (partS n ms S) := fun m hm => by
  have hC := lot_C h (show top ≤ 8 by omega) hT
  have hm' := part_mem.mp hm
  have hl := raw_len hC hm'
  refine ⟨hl, fun e he => ?_⟩
  obtain ⟨i, hi, rfl⟩ := List.mem_iff_getElem.mp he
  have eg : gI m i = m[i] := by
    have := gI_get hi
    rw [List.getElem?_eq_getElem hi] at this
    exact (Option.some.inj this).symm
  rw [← eg]
  have h1 := raw_nn hC hm' (show i < n by omega)
  have h2 := hT.2.1
  omega
/-- what is known of a part's monomials -/
structure PartOk (n top : Nat) (S : List Int) (M : List (List Int)) : Prop where
  dr : DrawnOk n top M
  len : M.length ≤ 63
  so : PlacesOk n S
  least : minS n M = M
  rad : minS n (M.map (radL n)) = (unitsOf n S).mergeSort leR
  ass : assocL n M = [S]
  pow : ∀ a b : List Int, holdsB n M ((List.range n).map fun i => gI a i + gI b i) = true → ¬ holdsB n M a = true → (∀ i, i < n → 0 ≤ gI a i) → ∃ p ∈ S, ¬ gI b p.toNat ≤ 0
theorem part_ok {n top : Nat} {ms : List (List Int)} (hD : DrawnOk n top ms) (ht : top ≤ 5) (hn1 : 1 ≤ n) (hpw : (top + 1) ^ (n - 1) ≤ 63) {S : List Int} (hSm : S ∈ assocL n ms) (hT : TopOf n top (lotS n ms S) (topL (lotS n ms S))) : PartOk n top S (partS n ms S) := by
  have hMs := drawn_ms hD (show top ≤ 8 by omega)
  have hL := lot_ne hMs hSm
  have hC := lot_C hD (show top ≤ 8 by omega) hT
  have hlen := part_len hD ht hn1 hT
  have hSo := assoc_places hMs hSm
  exact ⟨part_drawn hD ht hT, by omega, hSo, part_least hC, part_rad hC hL hSo, part_assoc hC hL hSo, fun a b h1 h2 h3 => part_power hC h1 h2 h3⟩
theorem assoc_ok (T : Txt K mg) {t : TabsAt} (B : TBs T base t) {fl : Addr} {cdv : Value} {A : Around} {outer : List Env} {s : Shared} {H0 : Hp} {E : XK} (hr : Room 22 (A.deeper (PyProof.Rows.envOfC "law" (defScope s_law) s.heap.objs.size fl cdv))) :
    ∃ tt, PSs (cxOf CX0 P w K mg base N_law "law" (defScope s_law) fl cdv A outer s H0 E).nox (loopP.drop 3) tt ∧
      ∀ (D : Ends) (H : Hp) (r sa : Addr) (ns : List Int) (n top : Nat) (ms : List (List Int)) (bs xs : List V) (am pb pf ap pq : Addr) (S : List Int) (M : List (List Int)) (x3 x9 x10 x11 x12 x13 x14 x15 x16 x17 : Option V), 1 ≤ n → n ≤ 4 → top ≤ 5 → (top + 1) ^ (n - 1) ≤ 63 → PartOk n top S M →
        LSt t K r sa ns n top ms bs xs am pb pf H → SqT K H ap (S.map V.int) → Dp K H (.ref pq) (rsD M) →
        (∀ y11 y14 y15 y16 y17 H', LSt t K r sa ns n top ms bs xs am pb pf H' → D.nx [some (.ref sa), some (.ref r), some (.int n), x3, some (.ref am), some (.ref pb), some (.ref pf), some (.ref ap), some (.ref pq), x9, x10, y11, x12, x13, y14, y15, y16, y17, none, none] H') →
        tt D [some (.ref sa), some (.ref r), some (.int n), x3, some (.ref am), some (.ref pb), some (.ref pf), some (.ref ap), some (.ref pq), x9, x10, x11, x12, x13, x14, x15, x16, x17, none, none] H := by
  obtain ⟨t4, h4, hq4⟩ := turns_ok (P := P) (w := w) T B (cdv := cdv) (outer := outer) (H0 := H0) (E := E) hr
  refine ⟨_, pss_cons (ps_if (PW.pt (pw_and (pt_cmpR op_lt (pe_callB (r := rLenS K) call_len_seq rfl T.n_len bo_len (pa_cons (pv 8) pa_nil)) pe_int (nomark _)) (pw_and1 (pt_cmpR (op_neD hr.units) (pe_call (ok_associated T B) (hr.mono (by decide)) rfl T.associated.g T.associated.F.kp (b_associated T) .nil pass0 (pa_cons (pv 2) (pa_cons (pv 8) pa_nil))) (pe_tup (pa_cons (pv 7) pa_nil)) (nomark _))))) (pss_one (ps_ret pe_bl)) pss_nil) h4, ?_⟩
  intro D H r sa ns n top ms bs xs am pb pf ap pq S M x3 x9 x10 x11 x12 x13 x14 x15 x16 x17 hn1 hn ht hpw hM hS hap hpq kk
  have hbig : 100000 < sizeLine := by decide
  have hMl : ∀ m ∈ M, m.length = n := fun m hm => (hM.dr m hm).1
  have hlen := hM.len
  obtain ⟨_, ps, e0, hpqT, hps⟩ := rows_tup hpq
  cases e0
  have hpsl : ps.length = M.length := by have := Toy.DpAll.len hps; rwa [List.length_map] at this
  walk_at "rd"
  refine ⟨_, _, rfl, .inr hpqT, ?_⟩
  walk_at "rd"
  refine iteD (fun hlt => ?_) (fun hge => ?_)
  · have hlot : LotOk n M := drawn_lot hM.dr (show top ≤ 8 by omega) (by omega)
    have hDL : DrawnOk n top (leastF n M) := fun m hm => hM.dr m (least_mem hm)
    have hcl : (cornersL n M).length < 64 := by
      have h2 := parts_few hM.dr (show top ≤ 8 by omega) hn1
      rw [parts_corners] at h2
      omega
    walk_at "rd"
    refine ⟨n, .ref pq, M, rfl, hn1, by omega, hpq, hlot, fun i hi => ?_, hcl, assoc_empty (drawn_ms hM.dr (show top ≤ 8 by omega)), hS.ts, fun p H2 x2 d2 => ?_⟩
    · have h1 := corners_few hDL (by omega) hn1 hi
      omega
    rw [hM.ass] at d2
    walk_at "rd"
    refine ⟨(show 1 ≤ sizeLine by decide), fun p3 hp3 => ?_⟩
    have tp2 := tp_ext x2.keep
    have s3 := same_upd (o := .tup [.ref ap]) hp3
    have hap3 := Toy.Same.tup s3 (tp2.sqt hap)
    refine neRows (ls := [S]) (ks := [S]) (Dp.same s3 _ _ d2) (.tup (.inl (.inl upd_same)) (.cons (dp_ints hap3) .nil)) ?_
    rw [decide_eq_true rfl]
    refine ⟨_, rfl, ?_⟩
    refine iteF ?_
    exact hq4 D _ r sa ns n top ms bs xs am pb pf ap pq S M x3 x9 x10 x11 x12 x13 x14 x15 x16 x17 hn1 hn ht hM.so hMl (by omega) hM.pow ((hS.ex x2).same s3) hap3 (Dp.same s3 _ _ (Dp.tp tp2 _ _ (tOnly_rsD _) hpq)) fun y14 y15 y16 y17 H' h => kk _ _ _ _ _ _ h
  · exact hq4 D _ r sa ns n top ms bs xs am pb pf ap pq S M x3 x9 x10 x11 x12 x13 x14 x15 x16 x17 hn1 hn ht hM.so hMl (by omega) hM.pow hS hap hpq fun y14 y15 y16 y17 H' h => kk _ _ _ _ _ _ h
theorem iter_ok (T : Txt K mg) {t : TabsAt} (B : TBs T base t) {fl : Addr} {cdv : Value} {A : Around} {outer : List Env} {s : Shared} {H0 : Hp} {E : XK} (hr : Room 22 (A.deeper (PyProof.Rows.envOfC "law" (defScope s_law) s.heap.objs.size fl cdv))) :
    ∃ tt, PSs (cxOf CX0 P w K mg base N_law "law" (defScope s_law) fl cdv A outer s H0 E).nox loopP tt ∧
      ∀ (D : Ends) (H : Hp) (r sa : Addr) (ns : List Int) (n top : Nat) (ms : List (List Int)) (bs xs : List V) (am pb pf ap pq : Addr) (S : List Int) (x3 x9 x10 x11 x12 x13 x14 x15 x16 x17 : Option V), 1 ≤ n → n ≤ 4 → top ≤ 5 → (top + 1) ^ (n - 1) ≤ 63 → DrawnOk n top ms → S ∈ assocL n ms → TopOf n top (lotS n ms S) (topL (lotS n ms S)) →
        LSt t K r sa ns n top ms bs xs am pb pf H → SqT K H ap (S.map V.int) → Dp K H (.ref pq) (rsD (partS n ms S)) →
        (∀ y11 y14 y15 y16 y17 H', LSt t K r sa ns n top ms bs xs am pb pf H' → D.nx [some (.ref sa), some (.ref r), some (.int n), x3, some (.ref am), some (.ref pb), some (.ref pf), some (.ref ap), some (.ref pq), x9, x10, y11, x12, x13, y14, y15, y16, y17, none, none] H') →
        tt D [some (.ref sa), some (.ref r), some (.int n), x3, some (.ref am), some (.ref pb), some (.ref pf), some (.ref ap), some (.ref pq), x9, x10, x11, x12, x13, x14, x15, x16, x17, none, none] H := by
  obtain ⟨t3, h3, hq3⟩ := assoc_ok (P := P) (w := w) T B (cdv := cdv) (outer := outer) (H0 := H0) (E := E) hr
  refine ⟨_, pss_cons (ps_if (pt_not (pt_val (pe_call (ok_law_alike T) (hr.mono (by decide)) rfl T.law_alike.g T.law_alike.F.kp (b_law_alike T) .nil pass0 (pa_cons (pv 8) (pa_cons (pe_call (ok_law_least T) (hr.mono (by decide)) rfl T.law_least.g T.law_least.F.kp (b_law_least T) .nil pass0 (pa_cons (pv 8) pa_nil)) pa_nil))))) (pss_one (ps_ret pe_bl)) pss_nil) (pss_cons (ps_set (i := 11) sc_law.nd rfl (Or.inl rfl) (pe_callTy (r := rTupOf K) call_tuple_of rfl T.n_tuple bo_tuple (pa_cons (pe_callB (r := rSortedD K) (cr_sortedD hr.units) rfl T.n_sorted bo_sorted (pa_cons (pe_lc (own := [("place", 13)]) rfl sc_law.nd (pi_tup (pv 7)) (blkOk_by (own := [("place", 13)]) (N := N_law) (sc := defScope s_law) (by decide +kernel)) (fun _ _ _ _ _ => (pg_name (i := 13) sc_law.nd rfl (Or.inr rfl))) (fun _ _ _ _ _ => pts_nil) (fun _ _ _ _ _ => (pe_callTy (r := rTupOf K) call_tuple_of rfl T.n_tuple bo_tuple (pa_cons (pe_lc (own := [("at", 12)]) rfl sc_law.nd (pi_range1 rfl T.n_range (pa_cons (pv 2) pa_nil)) (blkOk_in (own := [("at", 12)]) (N := N_law) (sc := _) (by decide +kernel)) (fun _ _ _ _ _ => (pg_name (i := 12) sc_law.nd rfl (Or.inl rfl))) (fun _ _ _ _ _ => pts_nil) (fun _ _ _ _ _ => (pe_callTy call_int1 rfl T.n_int bo_int (pa_cons (pe_cmpR op_eq (pv 12) (pv 13) (nomark _)) pa_nil)))) pa_nil)))) pa_nil)) pa_nil))) (pss_cons (ps_if (pt_not (pt_val (pe_call (ok_law_alike T) (hr.mono (by decide)) rfl T.law_alike.g T.law_alike.F.kp (b_law_alike T) .nil pass0 (pa_cons (pe_ifExp (pt_cmpR op_lt (pe_callB (r := rLenS K) call_len_seq rfl T.n_len bo_len (pa_cons (pv 8) pa_nil)) pe_int (nomark _)) (pe_call (ok_mono_radical T B) (hr.mono (by decide)) rfl T.mono_radical.g T.mono_radical.F.kp (b_mono_radical T) .nil pass0 (pa_cons (pv 2) (pa_cons (pv 8) pa_nil))) (pv 11)) (pa_cons (pv 11) pa_nil))))) (pss_one (ps_ret pe_bl)) pss_nil) h3)), ?_⟩
  intro D H r sa ns n top ms bs xs am pb pf ap pq S x3 x9 x10 x11 x12 x13 x14 x15 x16 x17 hn1 hn ht hpw hD hSm hT hS hap hpq kk
  have hbig : 100000 < sizeLine := by decide
  have hM := part_ok hD ht hn1 hpw hSm hT
  generalize partS n ms S = M at *
  obtain ⟨_, ps, e0, hpqT, hps⟩ := rows_tup hpq
  cases e0
  have hpsl : ps.length = M.length := by have := Toy.DpAll.len hps; rwa [List.length_map] at this
  have hMl : ∀ m ∈ M, m.length = n := fun m hm => (hM.dr m hm).1
  have hSo := hM.so
  have hSl := places_le hSo
  have hlen := hM.len
  walk_at "rd"
  refine ⟨pq, ps, M, n, rfl, .inr hpqT, hps, hMl, hn1, by omega, by omega, fun p1 H1 s1 d1 => ?_⟩
  rw [hM.least] at d1
  obtain ⟨_, qs, e0, hp1T, hqs⟩ := rows_tup d1
  cases e0
  have hS1 := hS.same s1
  walk_at "rd"
  refine ⟨al_rows (Toy.Same.tup s1 hpqT) hp1T (DpAll.same s1 _ _ hps) hqs (by omega) (fun l hl => by rw [hMl l hl]; omega), fun H2 s2 => ?_⟩
  have hS2 := hS1.same s2
  have s02 := Same.trans s1 s2
  have hap2 := Toy.Same.tup s02 hap
  walk_at "rd"
  refine ⟨⟨_, hap2⟩, fun D1 hD1 => ?_⟩
  refine lc_mkRows (K := K) (walk_tup (K := K) (a := ap) (xs := S.map V.int)) (fun i => unitV n (gI S i).toNat) (fun H' s' => Toy.Same.tup s' hap2) hD1 (by rw [List.length_map]; omega) (fun i x Ha Hb Qv hi s3 y hq => ?_) (fun H3 zs s3 e3 d3 => ?_)
  · obtain ⟨rfl, ey⟩ := y
    obtain ⟨hiS, rfl⟩ := gI_of ey
    have hpl := hSo.2 _ (List.mem_of_getElem? (gI_get hiS))
    refine ⟨rfl, ?_⟩
    walk_at "rd"
    refine ⟨(show (-2 ^ 62 : Int) ≤ (n : Int) by omega), (show (n : Int) < 2 ^ 62 by omega), fun D2 hD2 => ?_⟩
    rw [Int.toNat_natCast]
    refine lc_mkInts (walk_range (lo := 0) (n := n)) (fun k => if k = (gI S i).toNat then 1 else 0) (fun H' s' => trivial) hD2 (by omega) (fun k x Hc Hd Qv hk s2 y hq2 => ?_) (fun H4 s4 e4 => ?_)
    · obtain ⟨rfl, rfl⟩ := y
      walk_at "rd"
      refine .inr ⟨_, rfl, ?_⟩
      have q := hq2 Hd (Same.refl _)
      have e : decide ((fun i : Nat => V.int (0 + (i : Int))) k = V.int (gI S i)) = decide (k = (gI S i).toNat) := by
        show decide (V.int (0 + (k : Int)) = V.int (gI S i)) = _
        rw [vdec]
        by_cases hk' : k = (gI S i).toNat
        · rw [decide_eq_true hk', decide_eq_true]; omega
        · rw [decide_eq_false hk', decide_eq_false]; omega
      rw [e]
      by_cases hk' : k = (gI S i).toNat
      · rw [if_pos hk'] at q; rw [decide_eq_true hk']; exact q
      · rw [if_neg hk'] at q; rw [decide_eq_false hk']; exact q
    · walk_at "rd"
      refine ⟨_, _, rfl, .inl ⟨.inl (.inl e4), fun l hl => ?_⟩⟩
      refine hq l _ (Same.trans s4 (same_upd hl)) ?_
      exact .inl (.inl upd_same)
  · have eU : ((List.range (S.map V.int).length).map fun i => unitV n (gI S i).toNat) = unitsOf n S := by
      rw [List.length_map]
      exact range_map S fun p => unitV n p.toNat
    rw [eU] at d3
    walk_at "rd"
    delta tNil
    show rSortedD K [V.ref D1] H3 _
    refine sorted_rows (.inl (.inl e3)) d3 (fun c hc e => ?_) fun p2 zs' hp dz => ?_
    · obtain ⟨c', hc', rfl⟩ := List.mem_map.mp hc
      have h2 : (unitV n c'.toNat).length = n := by unfold unitV; simp
      rw [e] at h2
      simp at h2
      omega
    walk_at "rd"
    refine ⟨p2, zs', rfl, .inl ⟨.inl (.inl upd_same), fun l hl => ?_⟩⟩
    have s4 := Same.trans s3 (Same.trans (same_upd (o := .lst zs') hp) (same_upd (o := .tup zs') hl))
    have t4 : SqT K (upd (upd H3 p2 (.lst zs')) l (.tup zs')) l zs' := .inl (.inl upd_same)
    have d4 := DpAll.same (same_upd (o := .tup zs') hl) _ _ dz
    generalize upd (upd H3 p2 (.lst zs')) l (.tup zs') = H4 at *
    have hS4 := hS2.same s4
    have s04 := Same.trans s02 s4
    have hap4 := Toy.Same.tup s04 hap
    have hpq4 := Dp.same s04 _ _ hpq
    obtain ⟨_, ps4, e0, hpqT4, hps4⟩ := rows_tup hpq4
    cases e0
    have hpsl4 : ps4.length = M.length := by have := Toy.DpAll.len hps4; rwa [List.length_map] at this
    have hul : ((unitsOf n S).mergeSort leR).length ≤ 4 := by
      rw [List.length_mergeSort]
      unfold unitsOf
      rw [List.length_map]
      omega
    have hue : ∀ u ∈ (unitsOf n S).mergeSort leR, u.length ≤ 100000 := fun u hu => by
      obtain ⟨c', hc', rfl⟩ := List.mem_map.mp ((List.mergeSort_perm _ _).mem_iff.mp hu)
      have h2 : (unitV n c'.toNat).length = n := by unfold unitV; simp
      omega
    clear e3 d3 dz
    walk_at "rd"
    refine ⟨_, _, rfl, .inr hpqT4, ?_⟩
    walk_at "rd"
    refine iteD (fun hlt => ?_) (fun hge => ?_)
    · have hlot : LotOk n M := drawn_lot hM.dr (show top ≤ 8 by omega) (by omega)
      walk_at "rd"
      refine ⟨n, .ref pq, M, rfl, hn1, by omega, hpq4, hlot, hS4.ts, fun p H5 x5 d5 => ?_⟩
      rw [hM.rad] at d5
      obtain ⟨_, us, e0, hpT, hus⟩ := rows_tup d5
      cases e0
      have tp5 := tp_ext x5.keep
      walk_at "rd"
      refine ⟨al_rows hpT (tp5.sqt t4) hus (DpAll.tp tp5 _ _ (tOnly_rows _) d4) (by omega) hue, fun H6 s6 => ?_⟩
      refine ⟨_, rfl, ?_⟩
      refine iteF ?_
      exact hq3 D H6 r sa ns n top ms bs xs am pb pf ap pq S M x3 x9 x10 _ x12 x13 x14 x15 x16 x17 hn1 hn ht hpw hM ((hS4.ex x5).same s6) (Toy.Same.tup s6 (tp5.sqt hap4)) (Dp.same s6 _ _ (Dp.tp tp5 _ _ (tOnly_rsD _) hpq4)) kk
    · walk_at "rd"
      refine ⟨al_rows t4 t4 d4 d4 (by omega) hue, fun H6 s6 => ?_⟩
      refine ⟨_, rfl, ?_⟩
      refine iteF ?_
      exact hq3 D H6 r sa ns n top ms bs xs am pb pf ap pq S M x3 x9 x10 _ x12 x13 x14 x15 x16 x17 hn1 hn ht hpw hM (hS4.same s6) (Toy.Same.tup s6 hap4) (Dp.same s6 _ _ hpq4) kk
end

/-! ### the law of k64: over the parts, over the box -/
theorem tOnly_rsDs : ∀ l : List (List (List Int)), tOnlyAll (l.map rsD) = true
  | [] => rfl
  | x :: l => by
    show (tOnly (rsD x) && tOnlyAll (l.map rsD)) = true
    rw [tOnly_rsDs l, tOnly_rsD]; rfl
theorem can_rsDs : ∀ l : List (List (List Int)), PyData.canLayAll0 (l.map rsD) = true
  | [] => rfl
  | x :: l => by
    show (PyData.canLayAll0 (x.map rD) && PyData.canLayAll0 (l.map rsD)) = true
    rw [can_rsDs l, can_rows x]; rfl
theorem depth_rsDs : ∀ l : List (List (List Int)), PyData.depthAll (l.map rsD) ≤ 2
  | [] => by simp [PyData.depthAll]
  | x :: l => by
    have h1 := depth_rsDs l
    have h2 := depth_rows x
    show PyData.depthAll (rsD x :: l.map rsD) ≤ 2
    rw [PyData.depthAll]
    have h3 : (rsD x).depth = PyData.depthAll (x.map rD) + 1 := by simp [PyData.depth]
    omega
theorem sh_rsDs (l : List (List (List Int))) : SeqAt.shaped (.list (l.map rsD)) = true := by
  unfold SeqAt.shaped
  have h := depth_rsDs l
  rw [show PyData.canLay0 (.list (l.map rsD)) = true from can_rsDs l, Bool.true_and, decide_eq_true_eq]
  simp only [PyData.depth]
  omega
section
variable {P : Program} {w : World} {K : PySem.W.Frag} {mg : Str → Option Value} {base : Heap}
theorem tailX_ok (T : Txt K mg) {t : TabsAt} (B : TBs T base t) {fl : Addr} {cdv : Value} {A : Around} {outer : List Env} {s : Shared} {H0 : Hp} {E : XK} (hr : Room 22 (A.deeper (PyProof.Rows.envOfC "law" (defScope s_law) s.heap.objs.size fl cdv))) :
    ∃ tt, PSs (cxOf CX0 P w K mg base N_law "law" (defScope s_law) fl cdv A outer s H0 E).nox ((defBody s_law).drop 8) tt ∧
      ∀ (Q : VK) (H : Hp) (r sa : Addr) (ns : List Int) (n top : Nat) (ms : List (List Int)) (bs xs : List V) (am pb pf : Addr) (x3 x7 x8 x9 x10 x11 x12 x13 x14 x15 x16 x17 : Option V), 1 ≤ n → n ≤ 4 → top ≤ 5 → (top + 1) ^ (n - 1) ≤ 63 → DrawnOk n top ms → ms.length ≤ 5 → (∀ S ∈ assocL n ms, TopOf n top (lotS n ms S) (topL (lotS n ms S))) →
        LSt t K r sa ns n top ms bs xs am pb pf H → (∀ H', Q (.bl true) H') →
        tt { nx := fun _ H' => Q .non H', rt := Q } [some (.ref sa), some (.ref r), some (.int n), x3, some (.ref am), some (.ref pb), some (.ref pf), x7, x8, x9, x10, x11, x12, x13, x14, x15, x16, x17, none, none] H := by
  obtain ⟨tY, hY, hqY⟩ := tailY_ok (P := P) (w := w) T B (cdv := cdv) (outer := outer) (H0 := H0) (E := E) hr
  obtain ⟨tI, hI, hqI⟩ := iter_ok (P := P) (w := w) T B (cdv := cdv) (outer := outer) (H0 := H0) (E := E) hr
  refine ⟨_, pss_cons (ps_for PassesOwn.never rfl (pi_list (pv 6)) (pg_tup rfl (pgs_cons (pg_name (i := 7) sc_law.nd rfl (Or.inl rfl)) (pgs_cons (pg_name (i := 8) sc_law.nd rfl (Or.inl rfl)) pgs_nil))) hI) hY, ?_⟩
  intro Q H r sa ns n top ms bs xs am pb pf x3 x7 x8 x9 x10 x11 x12 x13 x14 x15 x16 x17 hn1 hn ht hpw hD hml hTop hS k
  walk_at "rd"
  refine ⟨⟨_, .inl (.inl hS.hf)⟩, ?_⟩
  refine for_list (K := K) (a := pf) (xs := xs) (fun j σ H' => ∃ y7 y8 y11 y14 y15 y16 y17, σ = [some (.ref sa), some (.ref r), some (.int n), x3, some (.ref am), some (.ref pb), some (.ref pf), y7, y8, x9, x10, y11, x12, x13, y14, y15, y16, y17, none, none] ∧ LSt t K r sa ns n top ms bs xs am pb pf H')
    ⟨_, _, _, _, _, _, _, rfl, hS⟩ (fun j σ H' _ q => ?_) (fun j x σ H2 hj q => ?_) (fun σ H2 q => ?_)
  · obtain ⟨_, _, _, _, _, _, _, _, q1⟩ := q
    exact .inl (.inl q1.hf)
  · obtain ⟨y7, y8, y11, y14, y15, y16, y17, rfl, hS2⟩ := q
    obtain ⟨px, pq, ap, S, rfl, hSi, hSm, tpx, tap, dpq⟩ := pp_at hS2.hfd hj
    walk_at "rd"
    refine ⟨px, _, rfl, tpx, rfl, ?_⟩
    walk_at "rd"
    exact hqI _ H2 r sa ns n top ms bs xs am pb pf ap pq S x3 x9 x10 y11 x12 x13 y14 y15 y16 y17 hn1 hn ht hpw hD hSm (hTop S hSm) hS2 tap dpq fun z11 z14 z15 z16 z17 H' h => ⟨_, _, _, _, _, _, _, rfl, h⟩
  · obtain ⟨y7, y8, y11, y14, y15, y16, y17, rfl, hS2⟩ := q
    exact hqY Q H2 r sa ns n top ms bs xs am pb pf _ _ _ _ _ _ _ _ _ _ _ _ hn1 hn ht (by omega) hD hml hTop hS2 k
theorem tailW_ok (T : Txt K mg) {t : TabsAt} (B : TBs T base t) {fl : Addr} {cdv : Value} {A : Around} {outer : List Env} {s : Shared} {H0 : Hp} {E : XK} (hr : Room 22 (A.deeper (PyProof.Rows.envOfC "law" (defScope s_law) s.heap.objs.size fl cdv))) :
    ∃ tt, PSs (cxOf CX0 P w K mg base N_law "law" (defScope s_law) fl cdv A outer s H0 E).nox ((defBody s_law).drop 7) tt ∧
      ∀ (Q : VK) (H : Hp) (r sa : Addr) (ns : List Int) (n top : Nat) (ms : List (List Int)) (bs xs : List V) (am pb pf : Addr) (x3 x7 x8 x9 x10 x11 x12 x13 x14 x15 x16 x17 : Option V), 1 ≤ n → n ≤ 4 → top ≤ 5 → (top + 1) ^ (n - 1) ≤ 63 → DrawnOk n top ms → ms.length ≤ 5 → (∀ S ∈ assocL n ms, TopOf n top (lotS n ms S) (topL (lotS n ms S))) →
        LSt t K r sa ns n top ms bs xs am pb pf H → (∀ H', Q (.bl true) H') →
        tt { nx := fun _ H' => Q .non H', rt := Q } [some (.ref sa), some (.ref r), some (.int n), x3, some (.ref am), some (.ref pb), some (.ref pf), x7, x8, x9, x10, x11, x12, x13, x14, x15, x16, x17, none, none] H := by
  obtain ⟨tX, hX, hqX⟩ := tailX_ok (P := P) (w := w) T B (cdv := cdv) (outer := outer) (H0 := H0) (E := E) hr
  refine ⟨_, pss_cons (ps_for PassesOwn.never rfl (pi_list (pv 5)) (pg_name (i := 9) sc_law.nd rfl (Or.inr rfl)) (pss_cons (ps_set (i := 10) sc_law.nd rfl (Or.inl rfl) (pe_cmpR (r := rEqD K) (op_eqD hr.units) (pe_lc (own := [("places", 7), ("part", 8)]) rfl sc_law.nd (pi_list (pv 6)) (blkOk_by (own := [("places", 7), ("part", 8)]) (N := N_law) (sc := defScope s_law) (by decide +kernel)) (fun _ _ _ _ _ => (pg_tupK (K := K) (n := 2) rfl rfl (pgs_cons (pg_name (i := 7) sc_law.nd rfl (Or.inl rfl)) (pgs_cons (pg_name (i := 8) sc_law.nd rfl (Or.inl rfl)) pgs_nil)))) (fun _ _ _ _ _ => pts_one (pt_not (pt_val (pe_call (ok_law_holds T) (hr.mono (by decide)) rfl T.law_holds.g T.law_holds.F.kp (b_law_holds T) .nil pass0 (pa_cons (pv 8) (pa_cons (pv 9) pa_nil)))))) (fun _ _ _ _ _ => (pv 8))) (pe_lst pa_nil) (nomark _)))
  (pss_one (ps_if (pt_cmpR op_ne (pv 10) (pe_call (ok_law_holds T) (hr.mono (by decide)) rfl T.law_holds.g T.law_holds.F.kp (b_law_holds T) .nil pass0 (pa_cons (pv 4) (pa_cons (pv 9) pa_nil))) (nomark _)) (pss_one (ps_ret pe_bl)) pss_nil)))) hX, ?_⟩
  intro Q H r sa ns n top ms bs xs am pb pf x3 x7 x8 x9 x10 x11 x12 x13 x14 x15 x16 x17 hn1 hn ht hpw hD hml hTop hS k
  have hbig : 100000 < sizeLine := by decide
  have hMs := drawn_ms hD (show top ≤ 8 by omega)
  have hal := assoc_len hn1 (show _ ≤ 64 by omega) ht hD
  have hxl := hS.xl
  walk_at "rd"
  refine ⟨⟨_, .inl (.inl hS.hb)⟩, ?_⟩
  refine for_list (K := K) (a := pb) (xs := bs) (fun j σ H' => ∃ y9 y10, σ = [some (.ref sa), some (.ref r), some (.int n), x3, some (.ref am), some (.ref pb), some (.ref pf), x7, x8, y9, y10, x11, x12, x13, x14, x15, x16, x17, none, none] ∧ LSt t K r sa ns n top ms bs xs am pb pf H')
    ⟨_, _, rfl, hS⟩ (fun j σ H' _ q => ?_) (fun j x σ H2 hj q => ?_) (fun σ H2 q => ?_)
  · obtain ⟨_, _, _, q1⟩ := q
    exact .inl (.inl q1.hb)
  · obtain ⟨y9, y10, rfl, hS2⟩ := q
    obtain ⟨pm, m, hm, rfl, hpm⟩ := row_at hS2.hbd hj
    obtain ⟨hml', hmb⟩ := box_mem.mp (List.mem_of_getElem? hm)
    walk_at "rd"
    refine ⟨⟨_, .inl (.inl hS2.hf)⟩, fun D1 hD1 => ?_⟩
    refine lc_it (walk_list (K := K) (a := pf) (xs := xs)) (fun i H' => ∃ (zs : List V) (ls : List (List (List Int))), Same H2 H' ∧ H' D1 = some (.lst zs) ∧ zs.length ≤ i ∧ DpAll K H' zs (ls.map rsD) ∧ zs.isEmpty = ((assocL n ms).take i).all fun S => holdsB n (partS n ms S) m) ⟨[], [], same_upd hD1, upd_same, Nat.le_refl _, .nil, rfl⟩ (fun i H' _ q => ?_) (fun i x Ha Hb hi q y => ?_) (fun H3 q => ?_)
    · obtain ⟨zs, ls, q1, _⟩ := q
      exact .inl (.inl (q1 _ _ hS2.hf))
    · obtain ⟨zs, ls, q1, q2, q3, q4, q5⟩ := q
      obtain ⟨rfl, ey⟩ := y
      obtain ⟨px, pq, ap, S, rfl, hSi, hSm, tpx, tap, dpq⟩ := pp_at (hS2.same q1).hfd ey
      have hP := part_ok hD ht hn1 hpw hSm (hTop S hSm)
      have et : (assocL n ms).take (i + 1) = (assocL n ms).take i ++ [S] := by rw [List.take_add_one, hSi]; rfl
      refine ⟨px, _, rfl, tpx, rfl, ?_⟩
      walk_at "rd"
      refine ⟨.ref pq, pm, partS n ms S, m, n, rfl, dpq, Toy.Same.tup q1 hpm, fun g hg => (hP.dr g hg).1, hml', by omega, by have := hP.len; omega, fun H4 s4 => ?_⟩
      have z4 := s4 _ _ q2
      cases hb : holdsB n (partS n ms S) m with
      | true =>
        refine ⟨_, rfl, ?_⟩
        refine iteF ?_
        refine ⟨zs, ls, Same.trans q1 s4, z4, by omega, DpAll.same s4 _ _ q4, ?_⟩
        rw [et, List.all_append, List.all_cons, hb, q5]
        simp
      | false =>
        refine ⟨_, rfl, ?_⟩
        refine iteT ?_
        walk_at "rd"
        refine ⟨zs, z4, by omega, zs ++ [.ref pq], ls ++ [partS n ms S], fun b' v e => ?_, upd_same, by simp; omega, ?_, ?_⟩
        · rw [upd_ne (ne_of_none e hD1)]
          exact s4 _ _ (q1 _ _ e)
        · rw [List.map_append]
          exact DpAll.tp (tp_lst z4) _ _ (by rw [← List.map_append]; exact tOnly_rsDs _) (dpAll_snoc (DpAll.same s4 _ _ q4) (Dp.same s4 _ _ dpq))
        · rw [et, List.all_append, List.all_cons, hb]
          simp
    · obtain ⟨zs, ls, q1, q2, q3, q4, q5⟩ := q
      rw [hxl, List.take_length] at q5
      have eA : ((assocL n ms).all fun S => holdsB n (partS n ms S) m) = holdsB n ms m := parts_all hD (show top ≤ 8 by omega) (tp := fun S => topL (lotS n ms S)) hTop fun i hi => by have := hmb i hi; omega
      rw [eA] at q5
      walk_at "rd"
      refine ⟨by decide, fun q hq => ?_⟩
      refine eqNil (.inl (.inl ((upd_ne (ne_of_none q2 hq)).trans q2))) upd_same (DpAll.same (same_upd hq) _ _ q4) (sh_rsDs ls) ?_
      rw [q5]
      have s4 := Same.trans q1 (same_upd (o := .lst []) hq)
      have hS4 := hS2.same s4
      generalize upd H3 q (.lst []) = H4 at *
      walk_at "rd"
      refine ⟨.ref am, pm, ms, m, n, rfl, hS4.hm, Toy.Same.tup s4 hpm, fun g hg => (hD g hg).1, hml', by omega, by omega, fun H5 s5 => ?_⟩
      walk_at "rd"
      rw [decide_eq_true rfl]
      refine iteF ?_
      exact ⟨_, _, rfl, hS4.same s5⟩
  · obtain ⟨y9, y10, rfl, hS2⟩ := q
    exact hqX Q H2 r sa ns n top ms bs xs am pb pf _ _ _ _ _ _ _ _ _ _ _ _ hn1 hn ht hpw hD hml hTop hS2 k
end

/-! ### the law of k64 -/
section
variable {P : Program} {w : World} {K : PySem.W.Frag} {mg : Str → Option Value} {base : Heap}
def sp_law (t : TabsAt) (K : PySem.W.Frag) : Sp := fun vs H Q _ => ∃ (sa : Addr) (ns : List Int), vs = [.ref sa] ∧ SqL K H sa (ns.map V.int) ∧ TS t H ∧ ∀ H', Q (.bl true) H'
theorem ok_law (T : Txt K mg) {t : TabsAt} (B : TBs T base t) : FnOk P w K mg base CX0 23 T.law.f T.law.fd P_law (sp_law t K) := by
  refine T.law.F.ok sc_law (fun vs H Q E h => ?_) (fun cdv A outer s H vs Q E hr h => ?_)
  · obtain ⟨sa, ns, rfl, _⟩ := h; rfl
  · obtain ⟨sa, ns, rfl, hS, hT, k⟩ := h
    have hbig : 100000 < sizeLine := by decide
    obtain ⟨tF, hF, hqF⟩ := tailW_ok (P := P) (w := w) T B (cdv := cdv) (outer := outer) (H0 := H) (E := E) hr
    refine ⟨_, pss_cons (ps_set (i := 1) sc_law.nd rfl (Or.inl rfl) (pe_lst (pa_cons (pv 0) (pa_cons pe_int (pa_cons pe_int (pa_cons pe_int pa_nil)))))) (pss_cons (ps_set (i := 2) sc_law.nd rfl (Or.inr rfl) (pe_op op_add pe_int (pe_call (ok_law_taken T) (hr.mono (by decide)) rfl T.law_taken.g T.law_taken.F.kp (b_law_taken T) .nil pass0 (pa_cons (pv 1) (pa_cons pe_int pa_nil))))) (pss_cons (ps_set (i := 3) sc_law.nd rfl (Or.inl rfl) (pe_ix (r := rIxL K) ix_list (pe_lst (pa_cons pe_int (pa_cons pe_int (pa_cons pe_int (pa_cons pe_int pa_nil))))) (pe_op op_sub (pv 2) pe_int) (fun _ _ => rfl))) (pss_cons (ps_par rfl sc_law.nd (i := 4) (j := 5) rfl rfl (by decide) rfl rfl (pa_cons (pe_call (ok_law_monos_drawn T) (hr.mono (by decide)) rfl T.law_monos_drawn.g T.law_monos_drawn.F.kp (b_law_monos_drawn T) .nil pass0 (pa_cons (pv 1) (pa_cons (pv 2) (pa_cons pe_int (pa_cons (pv 3) pa_nil))))) (pa_cons (pe_call (ok_law_box T) (hr.mono (by decide)) rfl T.law_box.g T.law_box.F.kp (b_law_box T) .nil pass0 (pa_cons (pv 2) (pa_cons (pv 3) pa_nil))) pa_nil)) rfl) (pss_cons (ps_set (i := 6) sc_law.nd rfl (Or.inl rfl) (pe_call (ok_primary_parts T B) (hr.mono (by decide)) rfl T.primary_parts.g T.primary_parts.F.kp (b_primary_parts T) .nil pass0 (pa_cons (pv 2) (pa_cons (pv 4) pa_nil)))) (pss_cons (ps_if (pt_not (pt_val (pe_callB (r := rIsi K) call_isi rfl T.n_isinstance bo_isinstance (pa_cons (pv 6) (pa_cons (pe_bltn (v := .ty "list") rfl T.n_list bo_list rfl) pa_nil))))) (pss_one (ps_ret pe_bl)) pss_nil) (pss_cons (ps_if (pt_not (pt_val (pe_call (ok_law_alike T) (hr.mono (by decide)) rfl T.law_alike.g T.law_alike.F.kp (b_law_alike T) .nil pass0 (pa_cons (pe_callTy (r := rTupOf K) call_tuple_of rfl T.n_tuple bo_tuple (pa_cons (pe_lc (own := [("places", 7), ("part", 8)]) rfl sc_law.nd (pi_list (pv 6)) (blkOk_by (own := [("places", 7), ("part", 8)]) (N := N_law) (sc := defScope s_law) (by decide +kernel)) (fun _ _ _ _ _ => (pg_tupK (K := K) (n := 2) rfl rfl (pgs_cons (pg_name (i := 7) sc_law.nd rfl (Or.inl rfl)) (pgs_cons (pg_name (i := 8) sc_law.nd rfl (Or.inl rfl)) pgs_nil)))) (fun _ _ _ _ _ => pts_nil) (fun _ _ _ _ _ => (pv 7))) pa_nil)) (pa_cons (pe_call (ok_associated T B) (hr.mono (by decide)) rfl T.associated.g T.associated.F.kp (b_associated T) .nil pass0 (pa_cons (pv 2) (pa_cons (pv 4) pa_nil))) pa_nil))))) (pss_one (ps_ret pe_bl)) pss_nil) hF)))))), ?_⟩
    walk_at "rd"
    refine ⟨(show 4 ≤ sizeLine by decide), fun r hrn => ?_⟩
    have s0 := same_upd (o := .lst [.ref sa, .int 0, .int 4164, .int 0]) hrn
    have row0 : RowAt K (upd H r (.lst [.ref sa, .int 0, .int 4164, .int 0])) r sa ns := by
      refine .of (ns := ns) rfl ?_ (by decide) (by decide) (by decide) (by decide)
      rcases hS with hS | hS
      · refine .inl ⟨hS, ?_⟩
        rcases hS with h | ⟨u, h⟩ <;> exact ne_of_none h hrn
      · exact .inr hS
    have ts0 := hT.same s0
    generalize upd H r (.lst [.ref sa, .int 0, .int 4164, .int 0]) = Hs at *
    walk_at "rd"
    refine ⟨r, sa, ns, 4, rfl, row0, by decide, by decide, fun v H1 v0 v1 row1 b1 => ?_⟩
    have K1 : LK t K r sa ns Hs H1 := LK.rk row0 ts0 (.draw row1 b1)
    obtain ⟨c, rfl⟩ := Int.eq_ofNat_of_zero_le v0
    walk_at "rd"
    dsimp only
    rw [show (1 : Int) + (c : Int) = ((c + 1 : Nat) : Int) by omega]
    obtain ⟨n, hn⟩ : ∃ n, n = c + 1 := ⟨_, rfl⟩
    rw [← hn]
    have hn1 : 1 ≤ n := by omega
    have hn4 : n ≤ 4 := by omega
    refine ⟨(show 4 ≤ sizeLine by decide), fun pt npt => ?_⟩
    have s1 := same_upd (o := .lst [.int 5, .int 3, .int 2, .int 2]) npt
    have K2 := K1.trans (LK.same K1.row K1.ts s1)
    have e2 : (upd H1 pt (.lst [.int 5, .int 3, .int 2, .int 2])) pt = some (.lst [.int 5, .int 3, .int 2, .int 2]) := upd_same
    generalize upd H1 pt (.lst [.int 5, .int 3, .int 2, .int 2]) = H2 at *
    obtain ⟨top, hat, hpw, ht5⟩ : ∃ top : Nat, atI [V.int 5, .int 3, .int 2, .int 2] ((n : Int) - 1) = some (.int (top : Int)) ∧ (top + 1) ^ (n - 1) ≤ 63 ∧ top ≤ 5 := by
      have : n = 1 ∨ n = 2 ∨ n = 3 ∨ n = 4 := by omega
      rcases this with rfl | rfl | rfl | rfl
      · exact ⟨5, rfl, by decide, by decide⟩
      · exact ⟨3, rfl, by decide, by decide⟩
      · exact ⟨2, rfl, by decide, by decide⟩
      · exact ⟨2, rfl, by decide, by decide⟩
    walk_at "rd"
    refine ⟨_, _, _, _, rfl, rfl, .inl (.inl e2), hat, ?_⟩
    walk_at "rd"
    refine ⟨r, sa, ns, n, 5, top, trivial, rfl, K2.row, by omega, by decide, ht5, fun am H3 ms k3 dm3 hml hD => ?_⟩
    have K3 := K2.trans (LK.rk K2.row K2.ts k3)
    have hMs := drawn_ms hD (show top ≤ 8 by omega)
    have hlot := drawn_lot hD (show top ≤ 8 by omega) (show ms.length ≤ 12 by omega)
    have hDL : DrawnOk n top (leastF n ms) := fun m hm => hD m (least_mem hm)
    have hbd : ∀ i, i ≤ (leastF n ms).length → (corners n (leastF n ms) i).length ≤ 1000000 := fun i hi => by
      have h1 := corners_few hDL (by omega) hn1 hi
      omega
    have hcl : (cornersL n ms).length < 64 := by
      have h2 := parts_few hD (show top ≤ 8 by omega) hn1
      rw [parts_corners] at h2
      omega
    walk_at "rd"
    refine ⟨n, top, trivial, rfl, by omega, ht5, fun pb H4 bs s4 npb e4 d4 => ?_⟩
    have K4 := K3.trans (LK.same K3.row K3.ts s4)
    have npr : pb ≠ r := fun z => by
      obtain ⟨ys, hy⟩ := row_lst K3.row
      rw [z, hy] at npb
      cases npb
    have dm4 := Dp.same s4 _ _ dm3
    walk_at "rd"
    refine ⟨n, top, .ref am, ms, rfl, hn1, hn4, ht5, by omega, dm4, hD, hml, K4.ts, fun pf H5 xs hTop x5 npf e5 d5 => ?_⟩
    have K5 := K4.trans (LK.ex K4.row x5)
    have tp5 := tp_ext x5.keep
    have nfr : pf ≠ r := fun z => by
      obtain ⟨ys, hy⟩ := row_lst K4.row
      exact npf.ne hy (fun _ z => nomatch z) z.symm
    have L5 : LSt t K r sa ns n top ms bs xs am pb pf H5 := ⟨K5.row, K5.ts, Dp.tp tp5 _ _ (tOnly_rsD _) dm4, x5.keep _ _ e4 (fun _ z => nomatch z), DpAll.tp tp5 _ _ (tOnly_rows _) d4, e5, d5, npr, nfr⟩
    have hxl := L5.xl
    have hal := assoc_len hn1 (show _ ≤ 64 by omega) ht5 hD
    walk_at "rd"
    refine ⟨_, _, _, _, _, rfl, .ty _, .base (.lst e5), (show PySem.W.kitOne K (.type "list") (.type "list") = some true from kit_ty (by decide +kernel)), ?_⟩
    walk_at "rd"
    refine ⟨⟨_, .inl (.inl e5)⟩, fun D hDn => ?_⟩
    refine lc_mkRows (K := K) (walk_list (K := K) (a := pf) (xs := xs)) (fun i => (assocL n ms).getD i []) (fun H' s' => .inl (.inl (s' _ _ e5))) hDn (by omega) (fun i x Ha Hb Qv hi s1 y hq => ?_) (fun H6 zs s6 e6 d6 => ?_)
    · obtain ⟨rfl, ey⟩ := y
      obtain ⟨px, pq, ap, S, rfl, hSi, hSm, tpx, tap, dpq⟩ := pp_at (L5.same s1).hfd ey
      refine ⟨px, _, rfl, tpx, rfl, ?_⟩
      walk_at "rd"
      refine hq ap _ (Same.refl _) ?_
      rw [List.getD_eq_getElem?_getD, hSi]
      exact tap
    · have eA : ((List.range xs.length).map fun i => (assocL n ms).getD i []) = assocL n ms := by
        rw [hxl, range_rows (assocL n ms) (fun l => l), List.map_id']
      rw [eA] at d6
      walk_at "rd"
      refine ⟨_, _, rfl, .inl ⟨.inl (.inl e6), fun l hl => ?_⟩⟩
      have s7 := Same.trans s6 (same_upd (o := .tup zs) hl)
      have t7 : SqT K (upd H6 l (.tup zs)) l zs := .inl (.inl upd_same)
      have d7 := DpAll.same (same_upd (o := .tup zs) hl) _ _ d6
      generalize upd H6 l (.tup zs) = H7 at *
      have L7 := L5.same s7
      walk_at "rd"
      refine ⟨n, .ref am, ms, rfl, hn1, by omega, L7.hm, hlot, hbd, hcl, assoc_empty hMs, L7.ts, fun p H8 x8 d8 => ?_⟩
      have tp8 := tp_ext x8.keep
      obtain ⟨_, axs, e0, hat1, hat2⟩ := rows_tup d8
      cases e0
      have lp : ∀ l ∈ assocL n ms, l.length ≤ 100000 := fun l hl => by
        have := places_le (assoc_places hMs hl)
        omega
      walk_at "rd"
      refine ⟨al_rows (tp8.sqt t7) hat1 (DpAll.tp tp8 _ _ (tOnly_rows _) d7) hat2 (by omega) lp, fun H9 s9 => ?_⟩
      refine ⟨_, rfl, ?_⟩
      refine iteF ?_
      exact hqF Q H9 r sa ns n top ms bs xs am pb pf _ _ _ _ _ _ _ _ _ _ _ _ hn1 hn4 ht5 hpw hD hml hTop ((L7.ex x8).same s9) k
end

/-! ### the end -/
section
open PySem.Spec PyProof.Rows LamX
/-- as the layer's end with tables; handed on besides: the whole top -/
theorem walk_top {l : PySem.W.OpenLaw} {n k : Nat} {q : Program} {loose : List Str} {XP : (Str → Option Value) → Heap → Prop} {YP : World → Heap → Prop} {d : DefRec} {K : Params → PySem.W.Frag} {CX : World → CXT} {x : Str}
    (hn : l.most = some n) (hn2 : n ≤ sizeLine) (hdf : d.params.defaults = []) (hr : Room k callerA) (hY : ∀ (w : World) (h : Heap), YP w h → (K w.params).In h)
    (F : ∀ (w : World) (s₀ : Shared) (mg mb : Str → Option Value) (fa : Addr) (h : Heap), PySem.W.Ground q loose [] XP w s₀ mg mb h → (K w.params).In h → h.Ns mainGlobals mg → mg d.name = some (.ref fa) → LawAtS l w (K w.params) (CX w) k n x mg fa h)
    (hCX : ∀ (w : World) (H : Hp) (s : Shared) (e : Value) (s' : Shared), CX w [] H s (fun _ _ _ => False) e s' → False) :
    PySem.W.WalkO q loose XP YP l.row.toRowW d [] (fun f vs => PySem.call f vs) := by
  refine Att.attach_callB hn hdf fun w s₀ s₁ mg mb fa o pm cd doc a vs ns G Y ho hd hcd hmg hobj hints hlen hbits hg => ?_
  have KX := hY w _ Y
  obtain ⟨fd, cs, sp, hT, nT, C, hb, hsp, hF⟩ := F w s₀ mg mb fa _ G KX G.T.g hmg
  exact law_callTs KX G.T.g G.T.b G.T.builtins G.T.nolimit hg hT nT C G.T.bmain hobj hints (Nat.le_trans hlen hn2) hr hF hb (fun H hH hS => hsp H a ns hlen hbits hH hS) fun H e s' => hCX w H s₁ e s'
/-- the code object and its table of a def, by the written part -/
theorem tab_in {K : PySem.W.Frag} {x : Str} {f c P : Addr} {oc e : Value} {od dd : Option Addr} {fd : FuncData} {vs : Array Value} {s1 s2 : Array (Option Value)} (a : PySem.W.nsIn K mainGlobals x = some (some (.ref f))) (l : K.lookup f = some ⟨oc, od, .func fd, s1⟩) (hc : fd.code = .ref c)
    (lc : K.lookup c = some ⟨e, dd, .fields vs, s2⟩) (hv : vs[11]? = some (.ref P)) : PySem.W.tabIn K x = some (c, P) := by
  unfold PySem.W.tabIn
  rw [a]
  simp only [l, hc, lc, hv]
/-- a whole number of the top that the head does not write out -/
theorem loose_int {q : Program} {lv : List (Str × PySem.W.WData)} {mg : Str → Option Value} {h : Heap} {x : Str} {i : Int} (X : PySem.W.XL q lv mg h) (hm : (x, PySem.W.WData.int i) ∈ lv) : ∃ t, mg x = some (.int i t) := by
  obtain ⟨v, a, r⟩ := X.2.val _ hm
  cases r
  exact ⟨_, a⟩
end

section
open PyProof.Rows
theorem code_of {K : PySem.W.Frag} {mg : Str → Option Value} {h : Heap} {x : Str} {st : Stmt} {c P : Addr} (D : DefAt K mg x st) (X : K.In h) (G : h.Ns mainGlobals mg) (ht : PySem.W.tabIn K x = some (c, P)) : D.fd.code = .ref c := by
  obtain ⟨oc, od, kV, doc, pm, an, cdv, ct, osl, e, lk, hcd⟩ := D.F.ex
  exact PySem.W.law_code X G ht D.g (X _ _ lk) rfl
theorem mem_n {α : Type} {p : α → Prop} : ∀ x ∈ ([] : List α), p x := fun _ h => by cases h
theorem mem_c {α : Type} {p : α → Prop} {a : α} {l : List α} (ha : p a) (hl : ∀ x ∈ l, p x) : ∀ x ∈ a :: l, p x := fun x hx => by
  rcases List.mem_cons.mp hx with rfl | h
  · exact ha
  · exact hl x h
theorem gx_of {base : Heap} {mg : Str → Option Value} {c P : Addr} (h : LamX.TabB base mg c P) : GxR.TabB base mg c P := ⟨h.code, h.bm, h.gP⟩
/-- addresses told by names -/
def nmA (l : List (Str × Addr)) (x : Str) : Addr := (l.lookup x).getD 0
theorem law_at {l : PySem.W.OpenLaw} {w : World} {K : PySem.W.Frag} {mg mb : Str → Option Value} {q : Program} {loose : List Str} {mean : ExcName → Option Value} {fa : Addr} {c : Str → Addr} {t : TabsAt} {h : Heap} { d1 d2 d3 d4 : DefRec} (TT : PyProof.Rows.Top q loose mean mg mb h) (X : K.In h) (G : h.Ns mainGlobals mg) (hfa : mg "law" = some (.ref fa))
    (r1 : (PyProof.Rows.recsOf q).find? (fun e => e.name == ("is_row_of_integers" : Str)) = some d1) (r2 : (PyProof.Rows.recsOf q).find? (fun e => e.name == ("reaches" : Str)) = some d2) (r3 : (PyProof.Rows.recsOf q).find? (fun e => e.name == ("divides" : Str)) = some d3) (r4 : (PyProof.Rows.recsOf q).find? (fun e => e.name == ("least_ones" : Str)) = some d4)
    (t1 : PySem.W.tabIn K "is_row_of_integers" = some (c "is_row_of_integers", t.a "is_row_of_integers")) (t2 : PySem.W.tabIn K "reaches" = some (c "reaches", t.a "reaches")) (t3 : PySem.W.tabIn K "divides" = some (c "divides", t.a "divides")) (t4 : PySem.W.tabIn K "least_ones" = some (c "least_ones", t.a "least_ones"))
    (n1 : K.lookup (t.a "is_row_of_integers") = none) (n2 : K.lookup (t.a "reaches") = none) (n3 : K.lookup (t.a "divides") = none) (n4 : K.lookup (t.a "least_ones") = none) (T : Txt K mg) : LamX.LawAtS l w K CX0 23 63 "script" mg fa h := by
  obtain ⟨C1, p1⟩ := PySem.W.tab_of TT X r1 t1; obtain ⟨C2, p2⟩ := PySem.W.tab_of TT X r2 t2; obtain ⟨C3, p3⟩ := PySem.W.tab_of TT X r3 t3; obtain ⟨C4, p4⟩ := PySem.W.tab_of TT X r4 t4
  have e := hfa.symm.trans T.law.g
  cases e
  refine ⟨T.law.fd, [(c "is_row_of_integers", t.a "is_row_of_integers"), (c "reaches", t.a "reaches"), (c "divides", t.a "divides"), (c "least_ones", t.a "least_ones")], sp_law t K, (mem_c p1 (mem_c p2 (mem_c p3 (mem_c p4 mem_n) ) ) ), (mem_c n1 (mem_c n2 (mem_c n3 (mem_c n4 mem_n) ) ) ), (mem_c C1 (mem_c C2 (mem_c C3 (mem_c C4 mem_n) ) ) ), fun s u => ?_, fun H a ns hl hbits hT hS => ?_, fun base hb hn hT => ok_law T (t := t) { c := c, h_is_row_of_integers := code_of T.is_row_of_integers X G t1, b_is_row_of_integers := gx_of (hT (c "is_row_of_integers", t.a "is_row_of_integers") (by simp)), h_reaches := code_of T.reaches X G t2, b_reaches := gx_of (hT (c "reaches", t.a "reaches") (by simp)), h_divides := code_of T.divides X G t3, b_divides := gx_of (hT (c "divides", t.a "divides") (by simp)), h_least_ones := code_of T.least_ones X G t4, b_least_ones := gx_of (hT (c "least_ones", t.a "least_ones") (by simp)) }⟩
  · obtain ⟨oc, od, kV, doc, pm, an, cdv, ct, osl, e, lk, hcd⟩ := T.law.F.ex
    rw [e]
    exact .of_eq rfl
  · refine ⟨a, ns, rfl, hS, ⟨fun x hx => ?_, fun x hx => ?_⟩, fun _ => rfl⟩
    · revert x
      exact (mem_c ⟨_, hT (c "is_row_of_integers", t.a "is_row_of_integers") (by simp), True.intro⟩ (mem_c ⟨_, hT (c "reaches", t.a "reaches") (by simp), True.intro⟩ (mem_c ⟨_, hT (c "divides", t.a "divides") (by simp), True.intro⟩ (mem_c ⟨_, hT (c "least_ones", t.a "least_ones") (by simp), True.intro⟩ mem_n) ) ) )
    · revert x
      exact  mem_n
theorem tup_written {K : PySem.W.Frag} {a : Addr} {xs : List Int} {dd : Option Addr} {its : Array Value} {n : Nat} {sl : Array (Option Value)} (l : K.lookup a = some ⟨.type "tuple", dd, .seq its n, sl⟩) (hz : its.size ≤ sizeLine) (hv : Vals (xs.map V.int) its.toList) : ∀ H, SqT K H a (xs.map V.int) := fun _ => .inr ⟨_, its, n, l, rfl, rfl, hz, hv⟩
/-- as the end asks it: names, addresses -/
theorem fin {l : PySem.W.OpenLaw} {w : World} {K : PySem.W.Frag} {mg mb : Str → Option Value} {q : Program} {loose : List Str} {mean : ExcName → Option Value} {fa c1 p1 c2 p2 c3 p3 c4 p4: Addr} {h : Heap} { d1 d2 d3 d4 : DefRec} { t_MOST_MONOS t_MOST_MONO_VARIABLES t_MOST_MONO_EXPONENT t_FAR : Tok}
    (TT : PyProof.Rows.Top q loose mean mg mb h) (X : K.In h) (G : h.Ns mainGlobals mg) (hfa : mg "law" = some (.ref fa))
    (r1 : (PyProof.Rows.recsOf q).find? (fun e => e.name == ("is_row_of_integers" : Str)) = some d1) (r2 : (PyProof.Rows.recsOf q).find? (fun e => e.name == ("reaches" : Str)) = some d2) (r3 : (PyProof.Rows.recsOf q).find? (fun e => e.name == ("divides" : Str)) = some d3) (r4 : (PyProof.Rows.recsOf q).find? (fun e => e.name == ("least_ones" : Str)) = some d4)
    (t1 : PySem.W.tabIn K "is_row_of_integers" = some (c1, p1)) (t2 : PySem.W.tabIn K "reaches" = some (c2, p2)) (t3 : PySem.W.tabIn K "divides" = some (c3, p3)) (t4 : PySem.W.tabIn K "least_ones" = some (c4, p4))
    (n1 : K.lookup p1 = none) (n2 : K.lookup p2 = none) (n3 : K.lookup p3 = none) (n4 : K.lookup p4 = none)
    (ne : ∀ x ∈ gensL ++ lamsL, ∀ y ∈ gensL ++ lamsL, x ≠ y → nmA [("is_row_of_integers", p1), ("reaches", p2), ("divides", p3), ("least_ones", p4)] x ≠ nmA [("is_row_of_integers", p1), ("reaches", p2), ("divides", p3), ("least_ones", p4)] y)
    (is_integer : DefAt K mg "is_integer" s_is_integer)
    (is_integer_in : DefAt K mg "is_integer_in" s_is_integer_in)
    (is_tuple_of : DefAt K mg "is_tuple_of" s_is_tuple_of)
    (is_tuple_up_to : DefAt K mg "is_tuple_up_to" s_is_tuple_up_to)
    (is_row_of_integers : DefAt K mg "is_row_of_integers" s_is_row_of_integers)
    (is_mono : DefAt K mg "is_mono" s_is_mono)
    (check_integer_in : DefAt K mg "check_integer_in" s_check_integer_in)
    (check_many : DefAt K mg "check_many" s_check_many)
    (check_monos : DefAt K mg "check_monos" s_check_monos)
    (reaches : DefAt K mg "reaches" s_reaches)
    (corners_of : DefAt K mg "corners_of" s_corners_of)
    (lowered_corners : DefAt K mg "lowered_corners" s_lowered_corners)
    (touches : DefAt K mg "touches" s_touches)
    (meet_of_corners : DefAt K mg "meet_of_corners" s_meet_of_corners)
    (divides : DefAt K mg "divides" s_divides)
    (least_ones : DefAt K mg "least_ones" s_least_ones)
    (check_ideal : DefAt K mg "check_ideal" s_check_ideal)
    (ascending_least : DefAt K mg "ascending_least" s_ascending_least)
    (mono_meet : DefAt K mg "mono_meet" s_mono_meet)
    (mono_radical : DefAt K mg "mono_radical" s_mono_radical)
    (support : DefAt K mg "support" s_support)
    (associated : DefAt K mg "associated" s_associated)
    (primary_parts : DefAt K mg "primary_parts" s_primary_parts)
    (law_taken : DefAt K mg "_law_taken" s_law_taken)
    (law_pick : DefAt K mg "_law_pick" s_law_pick)
    (law_monos_drawn : DefAt K mg "_law_monos_drawn" s_law_monos_drawn)
    (law_box : DefAt K mg "_law_box" s_law_box)
    (law_alike : DefAt K mg "_law_alike" s_law_alike)
    (law_divides : DefAt K mg "_law_divides" s_law_divides)
    (law_holds : DefAt K mg "_law_holds" s_law_holds)
    (law_least : DefAt K mg "_law_least" s_law_least)
    (law : DefAt K mg "law" s_law)
    (z_len : PySem.W.nsIn K mainGlobals "len" = some none) (z_isinstance : PySem.W.nsIn K mainGlobals "isinstance" = some none) (z_int : PySem.W.nsIn K mainGlobals "int" = some none) (z_bool : PySem.W.nsIn K mainGlobals "bool" = some none) (z_str : PySem.W.nsIn K mainGlobals "str" = some none) (z_tuple : PySem.W.nsIn K mainGlobals "tuple" = some none) (z_list : PySem.W.nsIn K mainGlobals "list" = some none) (z_range : PySem.W.nsIn K mainGlobals "range" = some none) (z_zip : PySem.W.nsIn K mainGlobals "zip" = some none) (z_sum : PySem.W.nsIn K mainGlobals "sum" = some none) (z_max : PySem.W.nsIn K mainGlobals "max" = some none) (z_min : PySem.W.nsIn K mainGlobals "min" = some none) (z_all : PySem.W.nsIn K mainGlobals "all" = some none) (z_any : PySem.W.nsIn K mainGlobals "any" = some none) (z_sorted : PySem.W.nsIn K mainGlobals "sorted" = some none) (z_enumerate : PySem.W.nsIn K mainGlobals "enumerate" = some none) (z_set : PySem.W.nsIn K mainGlobals "set" = some none)
    (g_MOST_MONOS : mg "MOST_MONOS" = some (.int 12 t_MOST_MONOS)) (g_MOST_MONO_VARIABLES : mg "MOST_MONO_VARIABLES" = some (.int 8 t_MOST_MONO_VARIABLES)) (g_MOST_MONO_EXPONENT : mg "MOST_MONO_EXPONENT" = some (.int 8 t_MOST_MONO_EXPONENT)) (g_FAR : mg "FAR" = some (.int 1000 t_FAR))  : LamX.LawAtS l w K CX0 23 63 "script" mg fa h :=
  law_at (c := nmA [("is_row_of_integers", c1), ("reaches", c2), ("divides", c3), ("least_ones", c4)]) (t := ⟨nmA [("is_row_of_integers", p1), ("reaches", p2), ("divides", p3), ("least_ones", p4)], ne⟩) TT X G hfa r1 r2 r3 r4 t1 t2 t3 t4 n1 n2 n3 n4
    { is_integer := is_integer, is_integer_in := is_integer_in, is_tuple_of := is_tuple_of, is_tuple_up_to := is_tuple_up_to, is_row_of_integers := is_row_of_integers, is_mono := is_mono, check_integer_in := check_integer_in, check_many := check_many, check_monos := check_monos, reaches := reaches, corners_of := corners_of, lowered_corners := lowered_corners, touches := touches, meet_of_corners := meet_of_corners, divides := divides, least_ones := least_ones, check_ideal := check_ideal, ascending_least := ascending_least, mono_meet := mono_meet, mono_radical := mono_radical, support := support, associated := associated, primary_parts := primary_parts, law_taken := law_taken, law_pick := law_pick, law_monos_drawn := law_monos_drawn, law_box := law_box, law_alike := law_alike, law_divides := law_divides, law_holds := law_holds, law_least := law_least, law := law, n_len := PySem.W.mg_none_of X G z_len, n_isinstance := PySem.W.mg_none_of X G z_isinstance, n_int := PySem.W.mg_none_of X G z_int, n_bool := PySem.W.mg_none_of X G z_bool, n_str := PySem.W.mg_none_of X G z_str, n_tuple := PySem.W.mg_none_of X G z_tuple, n_list := PySem.W.mg_none_of X G z_list, n_range := PySem.W.mg_none_of X G z_range, n_zip := PySem.W.mg_none_of X G z_zip, n_sum := PySem.W.mg_none_of X G z_sum, n_max := PySem.W.mg_none_of X G z_max, n_min := PySem.W.mg_none_of X G z_min, n_all := PySem.W.mg_none_of X G z_all, n_any := PySem.W.mg_none_of X G z_any, n_sorted := PySem.W.mg_none_of X G z_sorted, n_enumerate := PySem.W.mg_none_of X G z_enumerate, n_set := PySem.W.mg_none_of X G z_set, t_MOST_MONOS := t_MOST_MONOS, g_MOST_MONOS := g_MOST_MONOS, t_MOST_MONO_VARIABLES := t_MOST_MONO_VARIABLES, g_MOST_MONO_VARIABLES := g_MOST_MONO_VARIABLES, t_MOST_MONO_EXPONENT := t_MOST_MONO_EXPONENT, g_MOST_MONO_EXPONENT := g_MOST_MONO_EXPONENT, t_FAR := t_FAR, g_FAR := g_FAR }
end

end Toy
open PySem PySem.W PyProof.Rows
set_option maxRecDepth 100000 in
set_option maxHeartbeats 0 in
theorem PySem.Challenge.cw_idealcore_k64_whole_primary_parts_holds : PySem.Challenge.rw_idealcore_k64_whole_primary_parts.Holds := by
  w_on; o_law; k_head; (case hw => w_witness2)
  k_fill
  refine Toy.walk_top (l := PySem.Challenge.rw_idealcore_k64_whole_primary_parts) (n := 63) (k := 23) (x := "script") (CX := fun _ => L2.CX0) rfl (by decide) rfl ⟨rfl, by decide, by decide⟩ (fun w h Y => PySem.W.kIn_of Y) ?F (fun _ _ _ _ _ z => z)
  case F =>
    intro w s0 mg mb fa h GG KX G hmg
    skip
    refine' Toy.fin GG.T KX G hmg ?hr1 ?hr2 ?hr3 ?hr4 (Toy.tab_in ?ta1 ?tb1 ?tc1 ?td1 ?te1) (Toy.tab_in ?ta2 ?tb2 ?tc2 ?td2 ?te2) (Toy.tab_in ?ta3 ?tb3 ?tc3 ?td3 ?te3) (Toy.tab_in ?ta4 ?tb4 ?tc4 ?td4 ?te4) ?n1 ?n2 ?n3 ?n4 ?ne
      (Toy.defI KX G ?a_is_integer ?l_is_integer ?c_is_integer ?k_is_integer)
      (Toy.defI KX G ?a_is_integer_in ?l_is_integer_in ?c_is_integer_in ?k_is_integer_in)
      (Toy.defI KX G ?a_is_tuple_of ?l_is_tuple_of ?c_is_tuple_of ?k_is_tuple_of)
      (Toy.defI KX G ?a_is_tuple_up_to ?l_is_tuple_up_to ?c_is_tuple_up_to ?k_is_tuple_up_to)
      (Toy.defI KX G ?a_is_row_of_integers ?l_is_row_of_integers ?c_is_row_of_integers ?k_is_row_of_integers)
      (Toy.defI KX G ?a_is_mono ?l_is_mono ?c_is_mono ?k_is_mono)
      (Toy.defI KX G ?a_check_integer_in ?l_check_integer_in ?c_check_integer_in ?k_check_integer_in)
      (Toy.defI KX G ?a_check_many ?l_check_many ?c_check_many ?k_check_many)
      (Toy.defI KX G ?a_check_monos ?l_check_monos ?c_check_monos ?k_check_monos)
      (Toy.defI KX G ?a_reaches ?l_reaches ?c_reaches ?k_reaches)
      (Toy.defI KX G ?a_corners_of ?l_corners_of ?c_corners_of ?k_corners_of)
      (Toy.defI KX G ?a_lowered_corners ?l_lowered_corners ?c_lowered_corners ?k_lowered_corners)
      (Toy.defI KX G ?a_touches ?l_touches ?c_touches ?k_touches)
      (Toy.defI KX G ?a_meet_of_corners ?l_meet_of_corners ?c_meet_of_corners ?k_meet_of_corners)
      (Toy.defI KX G ?a_divides ?l_divides ?c_divides ?k_divides)
      (Toy.defI KX G ?a_least_ones ?l_least_ones ?c_least_ones ?k_least_ones)
      (Toy.defI KX G ?a_check_ideal ?l_check_ideal ?c_check_ideal ?k_check_ideal)
      (Toy.defI KX G ?a_ascending_least ?l_ascending_least ?c_ascending_least ?k_ascending_least)
      (Toy.defI KX G ?a_mono_meet ?l_mono_meet ?c_mono_meet ?k_mono_meet)
      (Toy.defI KX G ?a_mono_radical ?l_mono_radical ?c_mono_radical ?k_mono_radical)
      (Toy.defI KX G ?a_support ?l_support ?c_support ?k_support)
      (Toy.defI KX G ?a_associated ?l_associated ?c_associated ?k_associated)
      (Toy.defI KX G ?a_primary_parts ?l_primary_parts ?c_primary_parts ?k_primary_parts)
      (Toy.defI KX G ?a_law_taken ?l_law_taken ?c_law_taken ?k_law_taken)
      (Toy.defI KX G ?a_law_pick ?l_law_pick ?c_law_pick ?k_law_pick)
      (Toy.defI KX G ?a_law_monos_drawn ?l_law_monos_drawn ?c_law_monos_drawn ?k_law_monos_drawn)
      (Toy.defI KX G ?a_law_box ?l_law_box ?c_law_box ?k_law_box)
      (Toy.defI KX G ?a_law_alike ?l_law_alike ?c_law_alike ?k_law_alike)
      (Toy.defI KX G ?a_law_divides ?l_law_divides ?c_law_divides ?k_law_divides)
      (Toy.defI KX G ?a_law_holds ?l_law_holds ?c_law_holds ?k_law_holds)
      (Toy.defI KX G ?a_law_least ?l_law_least ?c_law_least ?k_law_least)
      (Toy.defI KX G ?a_law ?l_law ?c_law ?k_law)
      ?z_len ?z_isinstance ?z_int ?z_bool ?z_str ?z_tuple ?z_list ?z_range ?z_zip ?z_sum ?z_max ?z_min ?z_all ?z_any ?z_sorted ?z_enumerate ?z_set (PySem.W.mg_of KX G ?g_MOST_MONOS) (PySem.W.mg_of KX G ?g_MOST_MONO_VARIABLES) (PySem.W.mg_of KX G ?g_MOST_MONO_EXPONENT) (PySem.W.mg_of KX G ?g_FAR) 
    (case z_len => k_is); (case z_isinstance => k_is); (case z_int => k_is); (case z_bool => k_is); (case z_str => k_is); (case z_tuple => k_is); (case z_list => k_is); (case z_range => k_is); (case z_zip => k_is); (case z_sum => k_is); (case z_max => k_is); (case z_min => k_is); (case z_all => k_is); (case z_any => k_is); (case z_sorted => k_is); (case z_enumerate => k_is); (case z_set => k_is)
    (case a_is_integer => k_is); (case l_is_integer => k_is); (case c_is_integer => k_is); (case k_is_integer => k_is)
    (case a_is_integer_in => k_is); (case l_is_integer_in => k_is); (case c_is_integer_in => k_is); (case k_is_integer_in => k_is)
    (case a_is_tuple_of => k_is); (case l_is_tuple_of => k_is); (case c_is_tuple_of => k_is); (case k_is_tuple_of => k_is)
    (case a_is_tuple_up_to => k_is); (case l_is_tuple_up_to => k_is); (case c_is_tuple_up_to => k_is); (case k_is_tuple_up_to => k_is)
    (case a_is_row_of_integers => k_is); (case l_is_row_of_integers => k_is); (case c_is_row_of_integers => k_is); (case k_is_row_of_integers => k_is)
    (case a_is_mono => k_is); (case l_is_mono => k_is); (case c_is_mono => k_is); (case k_is_mono => k_is)
    (case a_check_integer_in => k_is); (case l_check_integer_in => k_is); (case c_check_integer_in => k_is); (case k_check_integer_in => k_is)
    (case a_check_many => k_is); (case l_check_many => k_is); (case c_check_many => k_is); (case k_check_many => k_is)
    (case a_check_monos => k_is); (case l_check_monos => k_is); (case c_check_monos => k_is); (case k_check_monos => k_is)
    (case a_reaches => k_is); (case l_reaches => k_is); (case c_reaches => k_is); (case k_reaches => k_is)
    (case a_corners_of => k_is); (case l_corners_of => k_is); (case c_corners_of => k_is); (case k_corners_of => k_is)
    (case a_lowered_corners => k_is); (case l_lowered_corners => k_is); (case c_lowered_corners => k_is); (case k_lowered_corners => k_is)
    (case a_touches => k_is); (case l_touches => k_is); (case c_touches => k_is); (case k_touches => k_is)
    (case a_meet_of_corners => k_is); (case l_meet_of_corners => k_is); (case c_meet_of_corners => k_is); (case k_meet_of_corners => k_is)
    (case a_divides => k_is); (case l_divides => k_is); (case c_divides => k_is); (case k_divides => k_is)
    (case a_least_ones => k_is); (case l_least_ones => k_is); (case c_least_ones => k_is); (case k_least_ones => k_is)
    (case a_check_ideal => k_is); (case l_check_ideal => k_is); (case c_check_ideal => k_is); (case k_check_ideal => k_is)
    (case a_ascending_least => k_is); (case l_ascending_least => k_is); (case c_ascending_least => k_is); (case k_ascending_least => k_is)
    (case a_mono_meet => k_is); (case l_mono_meet => k_is); (case c_mono_meet => k_is); (case k_mono_meet => k_is)
    (case a_mono_radical => k_is); (case l_mono_radical => k_is); (case c_mono_radical => k_is); (case k_mono_radical => k_is)
    (case a_support => k_is); (case l_support => k_is); (case c_support => k_is); (case k_support => k_is)
    (case a_associated => k_is); (case l_associated => k_is); (case c_associated => k_is); (case k_associated => k_is)
    (case a_primary_parts => k_is); (case l_primary_parts => k_is); (case c_primary_parts => k_is); (case k_primary_parts => k_is)
    (case a_law_taken => k_is); (case l_law_taken => k_is); (case c_law_taken => k_is); (case k_law_taken => k_is)
    (case a_law_pick => k_is); (case l_law_pick => k_is); (case c_law_pick => k_is); (case k_law_pick => k_is)
    (case a_law_monos_drawn => k_is); (case l_law_monos_drawn => k_is); (case c_law_monos_drawn => k_is); (case k_law_monos_drawn => k_is)
    (case a_law_box => k_is); (case l_law_box => k_is); (case c_law_box => k_is); (case k_law_box => k_is)
    (case a_law_alike => k_is); (case l_law_alike => k_is); (case c_law_alike => k_is); (case k_law_alike => k_is)
    (case a_law_divides => k_is); (case l_law_divides => k_is); (case c_law_divides => k_is); (case k_law_divides => k_is)
    (case a_law_holds => k_is); (case l_law_holds => k_is); (case c_law_holds => k_is); (case k_law_holds => k_is)
    (case a_law_least => k_is); (case l_law_least => k_is); (case c_law_least => k_is); (case k_law_least => k_is)
    (case a_law => k_is); (case l_law => k_is); (case c_law => k_is); (case k_law => k_is)
    (case hr1 => rfl); (case hr2 => rfl); (case hr3 => rfl); (case hr4 => rfl)
    (case ta1 => k_is); (case tb1 => k_is); (case tc1 => rfl); (case td1 => k_is); (case te1 => rfl); (case ta2 => k_is); (case tb2 => k_is); (case tc2 => rfl); (case td2 => k_is); (case te2 => rfl); (case ta3 => k_is); (case tb3 => k_is); (case tc3 => rfl); (case td3 => k_is); (case te3 => rfl); (case ta4 => k_is); (case tb4 => k_is); (case tc4 => rfl); (case td4 => k_is); (case te4 => rfl)
    (case n1 => kernel_rfl); (case n2 => kernel_rfl); (case n3 => kernel_rfl); (case n4 => kernel_rfl)
    (case ne => decide)
    (case g_MOST_MONOS => k_is); (case g_MOST_MONO_VARIABLES => k_is); (case g_MOST_MONO_EXPONENT => k_is); (case g_FAR => k_is)
    
#print axioms PySem.Challenge.cw_idealcore_k64_whole_primary_parts_holds
namespace Toy


end Toy
