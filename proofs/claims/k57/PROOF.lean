import PyProof.Rows.All
import Wide.All
import OpenK.AllK
import Wide.FinOn
import HandS.ForMost
import HandS.ForExc
import HandS.IsInst
import HandS.Wide
import HandS.WideBits
import HandS.Nested
import HandS.Lambda
import HandS.LawCells
import HandS.EndTab
import HandS.EndOwn
import HandS.AnyAll
import HandS.Zip
import HandS.TupMul
import HandS.TupLe
import HandS.TupAny
import HandS.SortKw
import HandS.RevRange
import HandS.Walk
import HandS.Conv
import HandS.Defaults
import HandS.GenList
import KE.KTupSum
import KE.GoesZip
import KE.GoesMore
import KE.DataCmp
import KE.SortData
import KE.SortKeyHeap
import PyProof.GenCompD
import HandS.Style
import HandS.TupSets
import KE.KeyNested
import KE.GoesEnum
import HandS.Gcd
import PySem.Challenge.RW_idealcore_k57_whole_values_of_ideals

set_option Elab.async false
set_option linter.all false
set_option maxRecDepth 100000
set_option maxHeartbeats 4000000
namespace Toy
open PySem L2
/-! ### the text by places -/
def topS (i : Nat) : Stmt := PySem.Challenge.pw_idealcore_k57_whole_values_of_ideals.main.body.getD i (.Pass ⟨0, 0, 0, 0⟩)
/-! ### what a def of the top is -/
structure DefAt (K : PySem.W.Frag) (mg : Str → Option Value) (x : Str) (st : Stmt) where
  f : Addr
  fd : FuncData
  F : Fun K x x st f fd
  g : mg x = some (.ref f)
noncomputable def defI {K : PySem.W.Frag} {h : Heap} {mg : Str → Option Value} (X : K.In h) (G : h.Ns mainGlobals mg) {x : Str} {st : Stmt} {f : Addr} {oc : Value} {od an : Option Addr} {osl : Array (Option Value)} {kV doc pm cdv ct : Value}
    (a : PySem.W.nsIn K mainGlobals x = some (some (.ref f))) (l : K.lookup f = some ⟨oc, od, .func (PySem.W.fnOf x x (defArgs st) (defBody st) (defScope st) .none kV doc pm an cdv ct), osl⟩)
    (c : PySem.W.codeIn K cdv x = true) (k : PySem.W.keepIn K (.ref f) = true) : DefAt K mg x st :=
  ⟨f, _, fun_mk (st := st) l c k, PySem.W.mg_of X G a⟩
/-! ### rules of my own -/
section
variable {X : Cx}
/-- // by any divisor but 0, below 2 ^ 9000 in size -/
def CDivZ (_ j : Int) : Prop := j ≠ 0 ∧ j.natAbs.log2 < 9000
theorem op_fdivZ : OpR X (binaryOp .FloorDiv) (rI CDivZ fun i j => .int (i.fdiv j)) := opI fun _ _ _ _ _ _ _ hc q =>
  PyProof.Rows.floordiv_int hc.1 q (.inl (PyProof.noPylong_of_log2 hc.2))
theorem cdivZ {i j : Int} {b : Nat} (h : j ≠ 0) (hb : j.natAbs < 2 ^ b) (h0 : 0 < b) (h9 : b ≤ 9000) : CDivZ i j := ⟨h, Nat.lt_of_lt_of_le (PySem.Flt.log2_lt_of h0 hb) h9⟩
/-- ** with a small exponent -/
def CPowW (i j : Int) : Prop := 0 ≤ j ∧ (Builtin.Int.intBits i : Int) * j ≤ 2 ^ 27
theorem op_powW : OpR X (binaryOp .Pow) (rI CPowW fun i j => .int (i ^ j.toNat)) := opI fun _ _ _ _ _ _ _ hc q =>
  PyProof.Rows.pow_int hc.1 hc.2 q
end
def rLenS (K : PySem.W.Frag) : List V → Hp → VK → Prop := fun xs H Q => ∃ p ys, xs = [.ref p] ∧ (SqL K H p ys ∨ SqT K H p ys) ∧ Q (.int ys.length) H
theorem bo_len : bootBuiltins "len" = some (.builtin "len") := by decide +kernel
theorem bo_isinstance : bootBuiltins "isinstance" = some (.builtin "isinstance") := by decide +kernel
theorem bo_abs : bootBuiltins "abs" = some (.builtin "abs") := by decide +kernel
theorem bo_int : bootBuiltins "int" = some (.type "int") := by decide +kernel
theorem bo_bool : bootBuiltins "bool" = some (.type "bool") := by decide +kernel
theorem bo_str : bootBuiltins "str" = some (.type "str") := by decide +kernel
theorem bo_tuple : bootBuiltins "tuple" = some (.type "tuple") := by decide +kernel
theorem bo_list : bootBuiltins "list" = some (.type "list") := by decide +kernel
/-! ### heaps -/
/-- all but what stands at r is as it was -/
def KeepBut (r : Addr) (H H' : Hp) : Prop := ∀ b o, b ≠ r → H b = some o → H' b = some o
theorem KeepBut.of {r : Addr} {H H' : Hp} (h : Same H H') : KeepBut r H H' := fun b o _ e => h b o e
theorem KeepBut.trans {r : Addr} {H H1 H2 : Hp} (a : KeepBut r H H1) (b : KeepBut r H1 H2) : KeepBut r H H2 := fun c o n e => b c o n (a c o n e)
theorem same_upd {H : Hp} {p : Addr} {o : HO} (h : H p = none) : Same H (upd H p o) := fun b u e => by
  rw [upd_ne (ne_of_none e h)]; exact e
theorem Same.upd' {H H' : Hp} {p : Addr} {o : HO} (s : Same H H') (h : H' p = none) : Same H (upd H' p o) := Same.trans s (same_upd h)
theorem Same.tup {K : PySem.W.Frag} {H H' : Hp} {a : Addr} {xs : List V} (e : Same H H') (h : SqT K H a xs) : SqT K H' a xs := by
  rcases h with (h | ⟨o, h⟩) | h
  · exact .inl (.inl (e _ _ h))
  · exact .inl (.inr ⟨o, e _ _ h⟩)
  · exact .inr h
/-- an own exception class over ValueError, without an __init__ of its own -/
structure ExcAt (K : PySem.W.Frag) (mg : Str → Option Value) (x : Str) where
  C : Addr
  g : mg x = some (.ref C)
  x : PySem.W.excIn K C [.type "ValueError", .type "Exception", .type "BaseException", .type "object"] "ValueError.__new__" = true
  k : PySem.W.keepIn K (.ref C) = true
  be : PySem.W.subIn K (.ref C) (.type "BaseException") = some true
  ty : PySem.W.typeIn K (.ref C) = some (.type "type")
  is : PySem.W.isClsIn K C = true
  se : PySem.W.subIn K (.ref C) (.ref C) = some true
def NBn : Nat := 10 ^ 200
def NBi : Int := 10 ^ 200
theorem nb_eq : NBi = (NBn : Int) := by decide +kernel

theorem bo_sum : bootBuiltins "sum" = some (.builtin "sum") := by decide +kernel
theorem bo_max : bootBuiltins "max" = some (.builtin "max") := by decide +kernel
theorem bo_min : bootBuiltins "min" = some (.builtin "min") := by decide +kernel
theorem bo_all : bootBuiltins "all" = some (.builtin "all") := by decide +kernel
theorem bo_any : bootBuiltins "any" = some (.builtin "any") := by decide +kernel
theorem bo_sorted : bootBuiltins "sorted" = some (.builtin "sorted") := by decide +kernel
theorem bo_set : bootBuiltins "set" = some (.type "set") := by decide +kernel
/-! ### the defs of the text: places, slots, scopes -/
def inClass (s : Stmt) (j : Nat) : Stmt := match s with
  | .ClassDef (body := b) .. => b.getD j (.Pass ⟨0, 0, 0, 0⟩)
  | _ => .Pass ⟨0, 0, 0, 0⟩
abbrev s_is_integer : Stmt := topS 8
abbrev N_is_integer : List Str := ["value"]
abbrev P_is_integer : List Str := ["value"]
theorem sc_is_integer : FnScope N_is_integer P_is_integer (defScope s_is_integer) := ⟨rfl, rfl, rfl, by decide +kernel, rfl, by decide +kernel, by decide +kernel⟩

abbrev s_is_integer_in : Stmt := topS 9
abbrev N_is_integer_in : List Str := ["value", "low", "high"]
abbrev P_is_integer_in : List Str := ["value", "low", "high"]
theorem sc_is_integer_in : FnScope N_is_integer_in P_is_integer_in (defScope s_is_integer_in) := ⟨rfl, rfl, rfl, by decide +kernel, rfl, by decide +kernel, by decide +kernel⟩

abbrev s_is_tuple_of : Stmt := topS 10
abbrev N_is_tuple_of : List Str := ["value", "many"]
abbrev P_is_tuple_of : List Str := ["value", "many"]
theorem sc_is_tuple_of : FnScope N_is_tuple_of P_is_tuple_of (defScope s_is_tuple_of) := ⟨rfl, rfl, rfl, by decide +kernel, rfl, by decide +kernel, by decide +kernel⟩

abbrev s_is_tuple_up_to : Stmt := topS 11
abbrev N_is_tuple_up_to : List Str := ["value", "most"]
abbrev P_is_tuple_up_to : List Str := ["value", "most"]
theorem sc_is_tuple_up_to : FnScope N_is_tuple_up_to P_is_tuple_up_to (defScope s_is_tuple_up_to) := ⟨rfl, rfl, rfl, by decide +kernel, rfl, by decide +kernel, by decide +kernel⟩

abbrev s_is_row_of_integers : Stmt := topS 12
abbrev N_is_row_of_integers : List Str := ["value", "many", "low", "high"]
abbrev P_is_row_of_integers : List Str := ["value", "many", "low", "high"]
theorem sc_is_row_of_integers : FnScope N_is_row_of_integers P_is_row_of_integers (defScope s_is_row_of_integers) := ⟨rfl, rfl, rfl, by decide +kernel, rfl, by decide +kernel, by decide +kernel⟩

abbrev s_check_integer_in : Stmt := topS 13
abbrev N_check_integer_in : List Str := ["value", "low", "high"]
abbrev P_check_integer_in : List Str := ["value", "low", "high"]
theorem sc_check_integer_in : FnScope N_check_integer_in P_check_integer_in (defScope s_check_integer_in) := ⟨rfl, rfl, rfl, by decide +kernel, rfl, by decide +kernel, by decide +kernel⟩

abbrev s_check_values : Stmt := topS 14
abbrev N_check_values : List Str := ["value"]
abbrev P_check_values : List Str := ["value"]
theorem sc_check_values : FnScope N_check_values P_check_values (defScope s_check_values) := ⟨rfl, rfl, rfl, by decide +kernel, rfl, by decide +kernel, by decide +kernel⟩

abbrev s_upper_numbers : Stmt := topS 17
abbrev N_upper_numbers : List Str := ["number", "degree", "found", "left", "top"]
abbrev P_upper_numbers : List Str := ["number", "degree"]
theorem sc_upper_numbers : FnScope N_upper_numbers P_upper_numbers (defScope s_upper_numbers) := ⟨rfl, rfl, rfl, by decide +kernel, rfl, by decide +kernel, by decide +kernel⟩

abbrev s_greatest_top : Stmt := topS 18
abbrev N_greatest_top : List Str := ["number", "bottom", "low", "high", "middle"]
abbrev P_greatest_top : List Str := ["number", "bottom"]
theorem sc_greatest_top : FnScope N_greatest_top P_greatest_top (defScope s_greatest_top) := ⟨rfl, rfl, rfl, by decide +kernel, rfl, by decide +kernel, by decide +kernel⟩

abbrev s_raised_sum : Stmt := topS 19
abbrev N_raised_sum : List Str := ["number", "degree", "index", "top"]
abbrev P_raised_sum : List Str := ["number", "degree"]
theorem sc_raised_sum : FnScope N_raised_sum P_raised_sum (defScope s_raised_sum) := ⟨rfl, rfl, rfl, by decide +kernel, rfl, by decide +kernel, by decide +kernel⟩

abbrev s_first_gap : Stmt := topS 20
abbrev N_first_gap : List Str := ["many", "values", "index", "value", "most"]
abbrev P_first_gap : List Str := ["many", "values"]
theorem sc_first_gap : FnScope N_first_gap P_first_gap (defScope s_first_gap) := ⟨rfl, rfl, rfl, by decide +kernel, rfl, by decide +kernel, by decide +kernel⟩

abbrev s_growth_gap : Stmt := topS 21
abbrev N_growth_gap : List Str := ["many", "values"]
abbrev P_growth_gap : List Str := ["many", "values"]
theorem sc_growth_gap : FnScope N_growth_gap P_growth_gap (defScope s_growth_gap) := ⟨rfl, rfl, rfl, by decide +kernel, rfl, by decide +kernel, by decide +kernel⟩

abbrev s_law_taken : Stmt := topS 23
abbrev N_law_taken : List Str := ["row", "many", "found", "cell"]
abbrev P_law_taken : List Str := ["row", "many"]
theorem sc_law_taken : FnScope N_law_taken P_law_taken (defScope s_law_taken) := ⟨rfl, rfl, rfl, by decide +kernel, rfl, by decide +kernel, by decide +kernel⟩

abbrev s_law_monos : Stmt := topS 24
abbrev N_law_monos : List Str := ["many", "size", "found", "at", "longer", "mono", "e"]
abbrev P_law_monos : List Str := ["many", "size"]
theorem sc_law_monos : FnScope N_law_monos P_law_monos (defScope s_law_monos) := ⟨rfl, rfl, rfl, by decide +kernel, rfl, by decide +kernel, by decide +kernel⟩

abbrev s_law_next : Stmt := topS 25
abbrev N_law_next : List Str := ["many", "layer", "size", "found", "mono", "parts", "k", "at", "part"]
abbrev P_law_next : List Str := ["many", "layer", "size"]
theorem sc_law_next : FnScope N_law_next P_law_next (defScope s_law_next) := ⟨rfl, rfl, rfl, by decide +kernel, rfl, by decide +kernel, by decide +kernel⟩

abbrev s_law_most : Stmt := topS 26
abbrev N_law_most : List Str := ["many", "values", "some", "size", "later", "layer", "chosen", "mono", "told"]
abbrev P_law_most : List Str := ["many", "values"]
theorem sc_law_most : FnScope N_law_most P_law_most (defScope s_law_most) := ⟨rfl, rfl, rfl, by decide +kernel, rfl, by decide +kernel, by decide +kernel⟩

abbrev s_law_alike : Stmt := topS 27
abbrev N_law_alike : List Str := ["found", "due", "k"]
abbrev P_law_alike : List Str := ["found", "due"]
theorem sc_law_alike : FnScope N_law_alike P_law_alike (defScope s_law_alike) := ⟨rfl, rfl, rfl, by decide +kernel, rfl, by decide +kernel, by decide +kernel⟩

abbrev s_law : Stmt := topS 28
abbrev N_law : List Str := ["script", "row", "many", "values", "size", "most", "more", "at", "told"]
abbrev P_law : List Str := ["script"]
theorem sc_law : FnScope N_law P_law (defScope s_law) := ⟨rfl, rfl, rfl, by decide +kernel, rfl, by decide +kernel, by decide +kernel⟩

structure Txt (K : PySem.W.Frag) (mg : Str → Option Value) where
  is_integer : DefAt K mg "is_integer" s_is_integer
  is_integer_in : DefAt K mg "is_integer_in" s_is_integer_in
  is_tuple_of : DefAt K mg "is_tuple_of" s_is_tuple_of
  is_tuple_up_to : DefAt K mg "is_tuple_up_to" s_is_tuple_up_to
  is_row_of_integers : DefAt K mg "is_row_of_integers" s_is_row_of_integers
  check_integer_in : DefAt K mg "check_integer_in" s_check_integer_in
  check_values : DefAt K mg "check_values" s_check_values
  upper_numbers : DefAt K mg "upper_numbers" s_upper_numbers
  greatest_top : DefAt K mg "greatest_top" s_greatest_top
  raised_sum : DefAt K mg "raised_sum" s_raised_sum
  first_gap : DefAt K mg "first_gap" s_first_gap
  growth_gap : DefAt K mg "growth_gap" s_growth_gap
  law_taken : DefAt K mg "_law_taken" s_law_taken
  law_monos : DefAt K mg "_law_monos" s_law_monos
  law_next : DefAt K mg "_law_next" s_law_next
  law_most : DefAt K mg "_law_most" s_law_most
  law_alike : DefAt K mg "_law_alike" s_law_alike
  law : DefAt K mg "law" s_law
  t_MOST_VALUES : Tok
  g_MOST_VALUES : mg "MOST_VALUES" = some (.int 13 t_MOST_VALUES)
  t_MOST_VALUE : Tok
  g_MOST_VALUE : mg "MOST_VALUE" = some (.int 1000000 t_MOST_VALUE)
  t_MOST_MANY : Tok
  g_MOST_MANY : mg "MOST_MANY" = some (.int 6 t_MOST_MANY)
  n_len : mg "len" = none
  n_isinstance : mg "isinstance" = none
  n_int : mg "int" = none
  n_bool : mg "bool" = none
  n_str : mg "str" = none
  n_tuple : mg "tuple" = none
  n_list : mg "list" = none
  n_range : mg "range" = none
  n_sum : mg "sum" = none
  n_max : mg "max" = none
  n_all : mg "all" = none
  n_sorted : mg "sorted" = none
  n_enumerate : mg "enumerate" = none
  n_set : mg "set" = none
  g_comb : mg "comb" = some (.builtin "math.comb")
section
variable {P : Program} {w : World} {K : PySem.W.Frag} {mg : Str → Option Value} {base : Heap}
theorem b_is_integer (T : Txt K mg) : Binds K T.is_integer.fd P_is_integer [] := T.is_integer.F.binds fun _ _ _ _ _ _ us hl => match us, hl with | [_], _ => rfl
theorem b_is_integer_in (T : Txt K mg) : Binds K T.is_integer_in.fd P_is_integer_in [] := T.is_integer_in.F.binds fun _ _ _ _ _ _ us hl => match us, hl with | [_, _, _], _ => rfl
theorem b_is_tuple_of (T : Txt K mg) : Binds K T.is_tuple_of.fd P_is_tuple_of [] := T.is_tuple_of.F.binds fun _ _ _ _ _ _ us hl => match us, hl with | [_, _], _ => rfl
theorem b_is_tuple_up_to (T : Txt K mg) : Binds K T.is_tuple_up_to.fd P_is_tuple_up_to [] := T.is_tuple_up_to.F.binds fun _ _ _ _ _ _ us hl => match us, hl with | [_, _], _ => rfl
theorem b_is_row_of_integers (T : Txt K mg) : Binds K T.is_row_of_integers.fd P_is_row_of_integers [] := T.is_row_of_integers.F.binds fun _ _ _ _ _ _ us hl => match us, hl with | [_, _, _, _], _ => rfl
theorem b_check_integer_in (T : Txt K mg) : Binds K T.check_integer_in.fd P_check_integer_in [] := T.check_integer_in.F.binds fun _ _ _ _ _ _ us hl => match us, hl with | [_, _, _], _ => rfl
theorem b_check_values (T : Txt K mg) : Binds K T.check_values.fd P_check_values [] := T.check_values.F.binds fun _ _ _ _ _ _ us hl => match us, hl with | [_], _ => rfl
theorem b_upper_numbers (T : Txt K mg) : Binds K T.upper_numbers.fd P_upper_numbers [] := T.upper_numbers.F.binds fun _ _ _ _ _ _ us hl => match us, hl with | [_, _], _ => rfl
theorem b_greatest_top (T : Txt K mg) : Binds K T.greatest_top.fd P_greatest_top [] := T.greatest_top.F.binds fun _ _ _ _ _ _ us hl => match us, hl with | [_, _], _ => rfl
theorem b_raised_sum (T : Txt K mg) : Binds K T.raised_sum.fd P_raised_sum [] := T.raised_sum.F.binds fun _ _ _ _ _ _ us hl => match us, hl with | [_, _], _ => rfl
theorem b_first_gap (T : Txt K mg) : Binds K T.first_gap.fd P_first_gap [] := T.first_gap.F.binds fun _ _ _ _ _ _ us hl => match us, hl with | [_, _], _ => rfl
theorem b_growth_gap (T : Txt K mg) : Binds K T.growth_gap.fd P_growth_gap [] := T.growth_gap.F.binds fun _ _ _ _ _ _ us hl => match us, hl with | [_, _], _ => rfl
theorem b_law_taken (T : Txt K mg) : Binds K T.law_taken.fd P_law_taken [] := T.law_taken.F.binds fun _ _ _ _ _ _ us hl => match us, hl with | [_, _], _ => rfl
theorem b_law_monos (T : Txt K mg) : Binds K T.law_monos.fd P_law_monos [] := T.law_monos.F.binds fun _ _ _ _ _ _ us hl => match us, hl with | [_, _], _ => rfl
theorem b_law_next (T : Txt K mg) : Binds K T.law_next.fd P_law_next [] := T.law_next.F.binds fun _ _ _ _ _ _ us hl => match us, hl with | [_, _, _], _ => rfl
theorem b_law_most (T : Txt K mg) : Binds K T.law_most.fd P_law_most [] := T.law_most.F.binds fun _ _ _ _ _ _ us hl => match us, hl with | [_, _], _ => rfl
theorem b_law_alike (T : Txt K mg) : Binds K T.law_alike.fd P_law_alike [] := T.law_alike.F.binds fun _ _ _ _ _ _ us hl => match us, hl with | [_, _], _ => rfl
theorem b_law (T : Txt K mg) : Binds K T.law.fd P_law [] := T.law.F.binds fun _ _ _ _ _ _ us hl => match us, hl with | [_], _ => rfl
end

/-! ### plain readings: what leaves all that stands as it is, whoever called -/
abbrev Kp (h h' : Heap) : Prop := ∀ b o, h.get? b = some o → h'.get? b = some o
/-- what is known of the heap, and stays known as it grows -/
structure Stay (K : PySem.W.Frag) (mg : Str → Option Value) (Φ : Heap → Prop) : Prop where
  up : ∀ h h', Φ h → Kp h h' → Φ h'
  kin : ∀ h, Φ h → K.In h
  glob : ∀ h, Φ h → h.Ns mainGlobals mg
  blt : ∀ h, Φ h → ∃ mb, h.Ns builtinsNs mb ∧ ∀ x : Str, x ≠ "__name__" → mb x = bootBuiltins x
  lim : ∀ h, Φ h → h.NoLimit
theorem keeps0 (s : Shared) (k : Nat) : Keeps s { s with toks := k } := ⟨s.heap, k, rfl, fun _ _ e => e⟩
theorem keepsT {s s1 s2 : Shared} (a : Keeps s s1) (b : Keeps s1 s2) : Keeps s s2 := by
  obtain ⟨h1, k1, rfl, e1⟩ := a
  obtain ⟨h2, k2, rfl, e2⟩ := b
  exact ⟨h2, k2, rfl, fun x o e => e2 x o (e1 x o e)⟩
theorem keepsH {s s1 : Shared} (a : Keeps s s1) : Kp s.heap s1.heap := by
  obtain ⟨h1, k1, rfl, e1⟩ := a
  exact e1
/-- the places of a reading: the depth and the room below it -/
def PuE (P : Program) (w : World) (Φ : Heap → Prop) (cenv : Env) (m : Str → Option Value) (D U : Nat) (e : Expr) (R : Value → Prop) : Prop :=
  ∀ (A : Around) (E : Value → Shared → Prop) (s : Shared), A.handled = none → A.depth ≤ D → A.units ≤ U → Φ s.heap → s.heap.Ns cenv.locals m →
    wpAny (model P w) A (eval e cenv) (fun y s' => R y ∧ Keeps s s') E s
def PuF (P : Program) (w : World) (Φ : Heap → Prop) (D U : Nat) (f : Addr) (us : List Value) (R : Value → Prop) : Prop :=
  ∀ (A : Around) (s : Shared), A.handled = none → A.depth ≤ D → A.units ≤ U → Φ s.heap →
    codeAny (model P w) A (.call (.ref f) ⟨us, []⟩) (fun r s' => match r with | .ok (.ret y) => R y ∧ Keeps s s' | _ => False) s
/-- the same, however the arguments came -/
def PuG (P : Program) (w : World) (Φ : Heap → Prop) (D U : Nat) (f : Addr) (fd : FuncData) (ps : List Str) (us : List Value) (R : Value → Prop) : Prop :=
  ∀ (A : Around) (s : Shared) (args : Args), BindsTo s fd args (ps.zip us) → A.handled = none → A.depth ≤ D → A.units ≤ U → Φ s.heap →
    codeAny (model P w) A (.call (.ref f) args) (fun r s' => match r with | .ok (.ret y) => R y ∧ Keeps s s' | _ => False) s
structure PuEnv (cenv : Env) : Prop where
  kind : cenv.scope.kind = .function
  glob : cenv.globals = mainGlobals
  blt : cenv.builtins = builtinsNs
section
variable {P : Program} {w : World} {K : PySem.W.Frag} {mg : Str → Option Value} {Φ : Heap → Prop} {cenv : Env} {m : Str → Option Value} {D U : Nat}
theorem PuG.pos {f : Addr} {fd : FuncData} {ps : List Str} {us : List Value} {R : Value → Prop} (h : PuG P w Φ D U f fd ps us R) (S : Stay K mg Φ) (hb : Binds K fd ps []) (hl : us.length = ps.length) : PuF P w Φ D U f us R := fun A s a b c d => by
  have q := hb s us (S.kin _ d) (by rw [List.append_nil]; exact hl)
  rw [List.append_nil] at q
  exact h A s _ q a b c d
/-- a promise from a plain reading -/
theorem fnOk_pu {base : Heap} {CX : CXT} {k : Nat} {f : Addr} {fd : FuncData} {ps : List Str} {sp : Sp} (len : ∀ vs H Q E, sp vs H Q E → vs.length = ps.length)
    (h : ∀ (A : Around) (outer : List Env) (s : Shared) (H : Hp) (us : List Value) (vs : List V) (Q : VK) (E : XK), Room k A → Env0 P w K mg base A outer s H → Vals vs us → sp vs H Q E →
      ∃ (Φ : Heap → Prop) (R : Value → Prop), Φ s.heap ∧ PuG P w Φ A.depth A.units f fd ps us R ∧ ∀ y, R y → ∃ v, RelV v y ∧ Q v H) : FnOk P w K mg base CX k f fd ps sp := by
  refine ⟨len, fun A outer s H args us vs Q E hr he hb hv hs => ?_⟩
  obtain ⟨Φ, R, hφ, hg, hq⟩ := h A outer s H us vs Q E hr he hv hs
  refine codeAny_mono (hg A s args hb hr.hd (Nat.le_refl _) (Nat.le_refl _) hφ) fun r s' q => ?_
  cases r with
  | error e => exact False.elim q
  | ok fl =>
    cases fl with
    | ret u =>
      obtain ⟨q1, h2, tk2, e2, k2⟩ := q
      subst e2
      obtain ⟨v, rv, qv⟩ := hq u q1
      exact ⟨v, H, rfl, he.bare, Un.kept k2, he.hok.kept k2, rv, qv⟩
    | next => exact False.elim q
    | brk => exact False.elim q
    | cont => exact False.elim q
theorem PuE.imp {e : Expr} {R R' : Value → Prop} (h : PuE P w Φ cenv m D U e R) (g : ∀ y, R y → R' y) : PuE P w Φ cenv m D U e R' := fun A E s a b c d f =>
  wpAny_mono (h A E s a b c d f) (fun y s' q => ⟨g y q.1, q.2⟩) fun _ _ x => x
theorem pu_name {x : Str} {u : Value} {pos : Pos} (ev : PuEnv cenv) (hx : cenv.scope.names.lookup x = some .local) (hm : m x = some u) (hd : (x == ("__debug__" : Str)) = false := by decide) : PuE P w Φ cenv m D U (.Name x pos) (· = u) :=
  fun A E s _ _ _ _ hn => wpAny_Name (wpAny_loadName_local ev.kind (show cenv.scope.names.lookup x = some .local from hx) hn hm ⟨rfl, keeps0 s s.toks⟩) hd
theorem pu_glob {x : Str} {u : Value} {pos : Pos} (S : Stay K mg Φ) (ev : PuEnv cenv) (hx : cenv.kindOf x = some .globalImplicit) (hm : mg x = some u) (hd : (x == ("__debug__" : Str)) = false := by decide) : PuE P w Φ cenv m D U (.Name x pos) (· = u) :=
  fun A E s _ _ _ hf _ => Calls.Name_function_global ev.kind hx (Calls.loadGlobal_global (by rw [ev.glob]; exact S.glob _ hf) hm ⟨rfl, keeps0 s s.toks⟩) hd
theorem pu_int {i : Int} {j : Nat} {pos : Pos} : PuE P w Φ cenv m D U (.Constant (.int i) j pos) (fun y => ∃ t, y = .int i t) :=
  fun A E s _ _ _ _ _ => wpAny_Constant_int ⟨⟨_, rfl⟩, keeps0 s _⟩
/-- a and b, bools -/
theorem pu_and {a b : Expr} {pos : Pos} {x y : Bool} (S : Stay K mg Φ) (ha : PuE P w Φ cenv m D U a (· = .bool x)) (hb : x = true → PuE P w Φ cenv m D U b (· = .bool y)) : PuE P w Φ cenv m D U (.BoolOp .And [a, b] pos) (· = .bool (x && y)) := by
  intro A E s h1 h2 h3 hf hn
  refine PyProof.Rows.BoolOp_and (wpAny_mono (ha A E s h1 h2 h3 hf hn) (fun v s1 q => ?_) fun _ _ z => z)
  obtain ⟨rfl, k⟩ := q
  refine wpAny_truthy_bool ?_
  cases x with
  | false => exact ⟨rfl, k⟩
  | true => exact PyProof.Rows.BoolOp_one (wpAny_mono (hb rfl A E s1 h1 h2 h3 (S.up _ _ hf (keepsH k)) (hn.at' fun o e => keepsH k _ o e)) (fun v s2 q => ⟨q.1, keepsT k q.2⟩) fun _ _ z => z)
theorem pu_not {a : Expr} {pos : Pos} {x : Bool} (ha : PuE P w Φ cenv m D U a (· = .bool x)) : PuE P w Φ cenv m D U (.UnaryOp .Not a pos) (· = .bool (!x)) := by
  intro A E s h1 h2 h3 hf hn
  refine PyProof.Rows.UnaryOp_ (wpAny_mono (ha A E s h1 h2 h3 hf hn) (fun v s1 q => ?_) fun _ _ z => z)
  obtain ⟨rfl, k⟩ := q
  exact PyProof.Rows.not_of (wpAny_truthy_bool ⟨rfl, k⟩)
/-- a <= b <= c, ints -/
theorem pu_chain {a b c : Expr} {pos : Pos} {i j k : Int} (S : Stay K mg Φ) (ha : PuE P w Φ cenv m D U a (fun y => ∃ t, y = .int i t)) (hb : PuE P w Φ cenv m D U b (fun y => ∃ t, y = .int j t)) (hc : PuE P w Φ cenv m D U c (fun y => ∃ t, y = .int k t))
    (hm : lastMarks [.LtE, .LtE] [b, c] = false := by with_unfolding_all rfl) : PuE P w Φ cenv m D U (.Compare a [.LtE, .LtE] [b, c] pos) (· = .bool (decide (i ≤ j) && decide (j ≤ k))) := by
  intro A E s h1 h2 h3 hf hn
  refine PyProof.Rows.Compare_chain (wpAny_mono (ha A E s h1 h2 h3 hf hn) (fun v s1 q => ?_) fun _ _ z => z) hm
  obtain ⟨⟨t, rfl⟩, k1⟩ := q
  have hn1 : s1.heap.Ns cenv.locals m := hn.at' fun o e => keepsH k1 _ o e
  refine PyProof.Rows.chain_link (wpAny_mono (hb A E s1 h1 h2 h3 (S.up _ _ hf (keepsH k1)) hn1) (fun v s2 q => ?_) fun _ _ z => z)
  obtain ⟨⟨t2, rfl⟩, k2⟩ := q
  have hn2 : s2.heap.Ns cenv.locals m := hn1.at' fun o e => keepsH k2 _ o e
  refine PyProof.Rows.le_int (wpAny_truthy_bool ?_)
  by_cases z : i ≤ j
  · rw [decide_eq_true z]
    refine PyProof.Rows.ite_tt (PyProof.Rows.chain_last (wpAny_mono (hc A E s2 h1 h2 h3 (S.up _ _ hf (keepsH (keepsT k1 k2))) hn2) (fun v s3 q => ?_) fun _ _ z => z))
    obtain ⟨⟨t3, rfl⟩, k3⟩ := q
    exact PyProof.Rows.le_int ⟨by rw [Bool.true_and], keepsT k1 (keepsT k2 k3)⟩
  · rw [decide_eq_false z]
    exact PyProof.Rows.ite_ff ⟨by rw [Bool.false_and], keepsT k1 k2⟩
theorem pu_lt {a b : Expr} {pos : Pos} {i j : Int} (S : Stay K mg Φ) (ha : PuE P w Φ cenv m D U a (fun y => ∃ t, y = .int i t)) (hb : PuE P w Φ cenv m D U b (fun y => ∃ t, y = .int j t)) (hm : behindInMarks .Lt b = false) : PuE P w Φ cenv m D U (.Compare a [.Lt] [b] pos) (· = .bool (decide (i < j))) := by
  intro A E s h1 h2 h3 hf hn
  refine wpAny_Compare1 (wpAny_mono (ha A E s h1 h2 h3 hf hn) (fun v s1 q => ?_) fun _ _ z => z) hm
  obtain ⟨⟨t, rfl⟩, k1⟩ := q
  refine wpAny_mono (hb A E s1 h1 h2 h3 (S.up _ _ hf (keepsH k1)) (hn.at' fun o e => keepsH k1 _ o e)) (fun v s2 q => ?_) fun _ _ z => z
  obtain ⟨⟨t2, rfl⟩, k2⟩ := q
  exact PyProof.Rows.lt_int ⟨rfl, keepsT k1 k2⟩
/-- a value's kind, as isinstance asks -/
def Isi (K : PySem.W.Frag) (Φ : Heap → Prop) (u : Value) (T : String) (b : Bool) : Prop :=
  ∃ (t : Value) (H : Heap → Prop), PySem.W.KitX K u t H ∧ (∀ h, Φ h → H h) ∧ PySem.W.kitOne K t (.type T) = some b ∧ u ≠ .builtin "__main__.__loader__#opaque"
theorem pu_isi {e : Expr} {T : String} {T' : Str} {p q pos : Pos} {u : Value} {b : Bool} (S : Stay K mg Φ) (ev : PuEnv cenv) (hg : cenv.kindOf "isinstance" = some .globalImplicit) (hm : mg "isinstance" = none) (hT : cenv.kindOf T' = some .globalImplicit) (hmT : mg T' = none) (hv : bootBuiltins T' = some (.type T))
    (ha : PuE P w Φ cenv m D U e (· = u)) (hi : Isi K Φ u T b) (hn' : T' ≠ "__name__" := by decide) (hd : (T' == ("__debug__" : Str)) = false := by decide)
    (he : starEach [e, .Name T' q] cenv = (false, eval e cenv) :: starEach [.Name T' q] cenv := by rfl) (hpl : (backTo pos (starEach [.Name T' q] cenv)).any (·.1) = false := by rfl) :
    PuE P w Φ cenv m D U (.Call (.Name "isinstance" p) [e, .Name T' q] [] pos) (· = .bool b) := by
  intro A E s h1 h2 h3 hf hn
  obtain ⟨mb, b1, b2⟩ := S.blt _ hf
  refine wpAny_Call_Name_kw (Calls.Name_function_global ev.kind hg (Calls.loadGlobal_builtin (by rw [ev.glob]; exact S.glob _ hf) hm (by rw [ev.blt]; exact b1) ((b2 _ (by decide)).trans bo_isinstance) ?_))
  refine PyProof.Rows.callWith_builtin1 ?_ he hpl
  rw [he]
  show wpAny _ _ (spliced ((false, eval e cenv) :: backTo pos (starEach [.Name T' q] cenv))) _ _ s
  refine Calls.spliced_cons (wpAny_mono (ha A E s h1 h2 h3 hf hn) (fun v s1 r => ?_) fun _ _ z => z)
  obtain ⟨rfl, k1⟩ := r
  have hf1 := S.up _ _ hf (keepsH k1)
  obtain ⟨mb1, c1, c2⟩ := S.blt _ hf1
  refine Calls.spliced_cons (Calls.Name_function_global ev.kind hT (Calls.loadGlobal_builtin (by rw [ev.glob]; exact S.glob _ hf1) hmT (by rw [ev.blt]; exact c1) ((c2 _ hn').trans hv) ?_) hd)
  refine Calls.spliced_nil ?_
  obtain ⟨t, HH, Z, hp, ko, hx⟩ := hi
  exact PySem.W.kia_one Z (S.kin _ hf1) (hp _ hf1) ko hx fun tk => ⟨rfl, keepsT k1 (keeps0 s1 tk)⟩
def PuA (P : Program) (w : World) (Φ : Heap → Prop) (cenv : Env) (m : Str → Option Value) (D U : Nat) (es : List Expr) (R : List Value → Prop) : Prop :=
  ∀ (pos : Pos) (A : Around) (E : Value → Shared → Prop) (s : Shared), A.handled = none → A.depth ≤ D → A.units ≤ U → Φ s.heap → s.heap.Ns cenv.locals m →
    wpAny (model P w) A (spliced (backTo pos (starEach es cenv))) (fun us s' => R us ∧ Keeps s s') E s
theorem pua_nil : PuA P w Φ cenv m D U [] (· = []) := fun _ A E s _ _ _ _ _ => Calls.spliced_nil ⟨rfl, keeps0 s s.toks⟩
theorem pua_cons {e : Expr} {es : List Expr} {R : Value → Prop} {Rs : List Value → Prop} (S : Stay K mg Φ) (ha : PuE P w Φ cenv m D U e R) (hr : PuA P w Φ cenv m D U es Rs) (hs : starEach (e :: es) cenv = (false, eval e cenv) :: starEach es cenv := by rfl) :
    PuA P w Φ cenv m D U (e :: es) (fun us => ∃ u vs, us = u :: vs ∧ R u ∧ Rs vs) := by
  intro pos A E s h1 h2 h3 hf hn
  rw [hs]
  show wpAny _ _ (spliced ((false, eval e cenv) :: backTo pos (starEach es cenv))) _ _ s
  refine Calls.spliced_cons (wpAny_mono (ha A E s h1 h2 h3 hf hn) (fun v s1 r => ?_) fun _ _ z => z)
  refine wpAny_mono (hr pos A E s1 h1 h2 h3 (S.up _ _ hf (keepsH r.2)) (hn.at' fun o e => keepsH r.2 _ o e)) (fun vs s2 q => ?_) fun _ _ z => z
  exact ⟨⟨v, vs, rfl, r.1, q.1⟩, keepsT r.2 q.2⟩
theorem pu_call {x : Str} {f : Addr} {e : Expr} {es : List Expr} {p pos : Pos} {R : Value → Prop} {Rs : List Value → Prop} (S : Stay K mg Φ) (ev : PuEnv cenv) (hg : cenv.kindOf x = some .globalImplicit) (hm : mg x = some (.ref f)) (hk : PySem.W.keepIn K (.ref f) = true)
    (ha : PuA P w Φ cenv m D U (e :: es) Rs) (hf : ∀ us, Rs us → PuF P w Φ D U f us R) (hd : (x == ("__debug__" : Str)) = false := by decide) (he : starEach (e :: es) cenv = (false, eval e cenv) :: starEach es cenv := by rfl)
    (hpl : (backTo pos (starEach es cenv)).any (·.1) = false := by rfl) : PuE P w Φ cenv m D U (.Call (.Name x p) (e :: es) [] pos) R := by
  intro A E s h1 h2 h3 hφ hn
  refine wpAny_Call_Name_kw (Calls.Name_function_global ev.kind hg (Calls.loadGlobal_global (by rw [ev.glob]; exact S.glob _ hφ) hm ?_) hd)
  refine PySem.W.callWith_K (h₀ := s.heap) (S.kin _ hφ) hk (wpAny_mono (ha pos A E s h1 h2 h3 hφ hn) (fun us s1 r => ?_) fun _ _ z => z) he hpl
  have hφ1 := S.up _ _ hφ (keepsH r.2)
  refine ⟨S.kin _ hφ1, wpAny_call (codeAny_mono (hf us r.1 A s1 h1 h2 h3 hφ1) fun rr s2 q => ?_)⟩
  cases rr with
  | error e => exact False.elim q
  | ok fl =>
    cases fl with
    | ret u => exact ⟨q.1, keepsT r.2 q.2⟩
    | next => exact False.elim q
    | brk => exact False.elim q
    | cont => exact False.elim q
/-- a def whose body is one return -/
theorem pf_of {x qual : Str} {st : Stmt} {f : Addr} {fd : FuncData} {N ps : List Str} {e : Expr} {rp : Pos} {us : List Value} {R : Value → Prop} (F : Fun K x qual st f fd) (S : FnScope N ps (defScope st)) (Sx : Stay K mg Φ)
    (hl : us.length = ps.length) (hbody : defBody st = [.Return (some e) rp]) (hD : D < recursionLimit)
    (he : ∀ cenv : Env, PuEnv cenv → cenv.scope = defScope st → PuE P w Φ cenv (bindL cenv.kindOf (ps.zip us) fun _ => none) (D + 1) (U + 3) e R) : PuG P w Φ D U f fd ps us R := by
  intro A s args hbb h1 h2 h3 hφ
  obtain ⟨oc, od, kV, doc, pm, an, cdv, ct, osl, rfl, lk, hcd⟩ := F.ex
  have KX : K.In s.heap := Sx.kin _ hφ
  have lim : s.heap.NoLimit := Sx.lim _ hφ
  have hkind : ∀ y ∈ ps.zip us, (defScope st).names.lookup y.1 = some .local ∨ ((defScope st).names.lookup y.1 = some .cell ∧ ((cellsFrom (s.heap.objs.size + 1) (defScope st).names []).lookup y.1).isSome = true) := fun ⟨n, v⟩ hy => by
    rcases S.par n (List.of_mem_zip hy).1 with q | q
    · exact .inl q
    · exact .inr ⟨q, PySem.W.cellsFrom_some _ _ _ (.inl q)⟩
  refine codeAny_call_function (Nat.lt_of_le_of_lt h2 hD) (KX _ _ lk) rfl S.co S.gen rfl (PySem.W.codeRec_of KX hcd) (hbb _ _ _ _ ?_)
  refine wpAny_newFunctionEnv_cells S.kind hkind fun env hen s1 ic => ?_
  subst hen
  refine ⟨lim.keeps ic.toInCall.keep, codeAny_func ?_⟩
  obtain ⟨h1', tk, rfl, hkp⟩ := ic.done
  show wpAny _ _ (execs (defBody st) _) _ _ _
  rw [hbody]
  refine wpAny_execs_cons (wpAny_Return_some (wpAny_mono (he _ ⟨S.kind, rfl, rfl⟩ rfl _ _ _ h1 (by show A.depth + 1 ≤ D + 1; omega) (by show A.units + 3 ≤ U + 3; omega) (Sx.up _ _ hφ hkp) ic.toInCall.ns) (fun y s2 q => ?_) fun _ _ z => z))
  exact ⟨q.1, keepsT ⟨h1', tk, rfl, hkp⟩ q.2⟩
end

/-! ### all(..), any(..) of a generator expression over a tuple: the element a plain reading -/
/-- the element's reading, item by item -/
def EltT (X : Cx) (T : Addr) (sc : Scope) (x : Str) (el : Expr) (xs : List V) (pb : Nat → Bool) (H1 : Hp) : Prop :=
  ∀ (Φ : Heap → Prop) (pins : List (Addr × Obj)) (σ : L2.St) (t1 : Shared) (cenv : Env) (m : Str → Option Value) (i : Nat) (v : V) (u : Value), Stay X.K X.mg Φ → Inv X pins σ H1 t1 →
    (∀ h, Φ h → ∀ b o, b ≠ T → t1.heap.get? b = some o → h.get? b = some o) → PuEnv cenv → cenv.scope = sc → cenv.cells = cloFrom X.env.cells sc.names [] → xs[i]? = some v → RelV v u → m x = some u →
    PuE X.prog X.w Φ cenv m (X.A.depth + 1) (X.A.units + 8) el (· = .bool (pb i))
/-- the generator g, ready for a walk of n bools -/
def Rdy (X : Cx) (pins : List (Addr × Obj)) (σ : L2.St) (H1 : Hp) (T : Addr) (n : Nat) (pb : Nat → Bool) (g : Addr) (t5 : Shared) : Prop :=
  ∃ (fp wr : List Addr) (G : Array GenState → Array GenState → Prop) (F : Nat → Value → Prop) (St : Nat → Shared → Prop),
    WalksS X.prog X.w X.A.in1 g fp wr G n F St ∧ St 0 t5 ∧ TruthOf X.prog X.w X.A.in1 F pb ∧ ∀ t', Moved wr G t5 t' → ∃ H2, GxR.Tabbed T H1 H2 ∧ Inv X pins σ H2 t'
section
variable {X : Cx} {pins : List (Addr × Obj)} {σ : L2.St} {H : Hp} {s : Shared}
/-- the ground of an element: all that stood but the table -/
theorem stay_but {K : PySem.W.Frag} {mg : Str → Option Value} {base : Heap} {T : Addr} {h1 : Heap} (M : Mod K mg base) (hb : ∀ b o, base.get? b = some o → h1.get? b = some o ∧ b ≠ T) :
    Stay K mg fun h => ∀ b o, b ≠ T → h1.get? b = some o → h.get? b = some o := by
  have up : ∀ h : Heap, (∀ b o, b ≠ T → h1.get? b = some o → h.get? b = some o) → ∀ b o, base.get? b = some o → h.get? b = some o := fun h q b o e => q b o (hb b o e).2 (hb b o e).1
  refine ⟨fun h h' q k b o n e => k b o (q b o n e), fun h q => M.kin.keeps (up h q), fun h q => M.glob.keeps (up h q), fun h q => ?_, fun h q => M.nolimit.keeps (up h q)⟩
  obtain ⟨mb, e1, e2⟩ := M.blt
  exact ⟨mb, e1.keeps (up h q), e2⟩
theorem gen_tup {c T : Addr} {elt iter : Expr} {x : Str} {px gpos : Pos} {scope : Scope} {te : TE} {k : Nat} {Q' : Value → Shared → Prop} {R : Nat → (Nat → Bool) → Hp → Prop}
    (hr : Room k X.A) (TB : GxR.TabB X.base X.mg c T) (hcode : X.env.code = .ref c) (S : GxR.GenS X.env scope x) (hi : PE X iter te) (hs : ∀ v, genFold iter X.env v = pure v) (I : Inv X pins σ H s)
    (h : te σ H fun v H1 => ∃ (a : Addr) (xs : List V) (pb : Nat → Bool), v = .ref a ∧ SqT X.K H1 a xs ∧ GxR.TabG H1 T ∧ EltT X T scope x elt xs pb H1 ∧ R xs.length pb H1)
    (hQ' : ∀ n pb H1 g t5, R n pb H1 → Rdy X pins σ H1 T n pb g t5 → Q' (.ref g) t5) :
    wpAny (model X.prog X.w) X.A (eval (.GeneratorExp elt [⟨.Name x px, iter, [], 0⟩] scope gpos) X.env) Q' X.xe s := by
  refine wpAny_GeneratorExp_walksQD hr.hd S.co (closure_ok S.free) S.cell S.dot S.loc S.kind (by have := hr.dp; omega) ?_ hs
  refine thn (hi.run pins s σ H _ I h) fun xv t1 ⟨v, H1, I1, r1, a, xs, pb, ev, hsq, ⟨ps, hT, htri⟩, hel, hQ⟩ => ?_
  subst ev
  cases r1
  obtain ⟨its, rv, htup, hz⟩ := I1.tuple hsq
  have htup' : t1.heap.IsTuple a its.toArray := htup
  have tT : t1.heap.get? T = some { cls := .none, data := .fields ps } := I1.hok T _ hT
  have lT : T < t1.heap.objs.size := Heap.lt_size tT
  have la : a < t1.heap.objs.size := by obtain ⟨o, e, _⟩ := htup; exact Heap.lt_size e
  have naT : a ≠ T := fun e => by
    obtain ⟨o, e1, e2, _⟩ := htup
    rw [e, tT] at e1
    cases e1
    cases e2
  refine wpAny_pyIter_tuple htup' ?_
  obtain ⟨o9, ho9⟩ : ∃ o9 : Obj, o9 = { cls := .type "tuple_iterator", data := .fields #[.ref a, .int 0 0] } := ⟨_, rfl⟩
  rw [← ho9]
  have tT2 : (t1.heap.push o9).get? T = some { cls := .none, data := .fields ps } := Heap.get?_push_of_some _ tT
  have cd : PySem.W.CodeHd (t1.heap.push o9) c T := TB.code.keeps fun b u e => Heap.get?_push_of_some _ (I1.bk b u e)
  have lim2 : (t1.heap.push o9).NoLimit := I1.nolimit.push o9
  have sz2 : (t1.heap.push o9).objs.size = t1.heap.objs.size + 1 := Heap.size_push ..
  have hbT : ∀ b u, X.base.get? b = some u → t1.heap.get? b = some u ∧ b ≠ T := fun b u e => ⟨I1.bk b u e, fun z => by
    have q := (I1.bs b u e).2
    rw [z, hT] at q
    cases q⟩
  have run : ∀ (code : Value) (h3 : Heap) (tk : Nat) (ps' : Array Value), Heap.ExtBut T (t1.heap.push o9) h3 → (t1.heap.push o9).objs.size ≤ h3.objs.size → h3.get? T = some { cls := .none, data := .fields ps' } → (∃ more, ps' = ps ++ more) → TriplesOk ps'.toList →
      wpAny (model X.prog X.w) X.A (builtinsFor X.env.globals X.env.builtins) (fun bi t4 =>
        ∃ Ia fp wr n₀ Pf St₀ pz F, Value.ref t1.heap.objs.size = .ref Ia ∧ (∀ A' : Around, A'.handled = none → Walks X.prog X.w A' Ia fp wr n₀ Pf St₀) ∧ St₀ 0 t4.heap ∧ (∀ b ∈ fp, b < t4.heap.objs.size) ∧ t4.heap.NoLimit ∧ cStatics ∉ wr ∧
          (∀ href : Heap, (∀ b o, t4.heap.get? b = some o → href.get? b = some o) →
            QuietGenD X.prog X.w (genEnv scope (cloFrom X.env.cells scope.names []) t4.heap.objs.size code bi X.env) x [] elt (List.range t4.heap.objs.size) wr Pf pz F href (X.A.depth + 1) (X.A.units + 8)) ∧
          (∀ g0 h₅ tk gs, gs.bare = true → t4.heap.objs.size < g0 → h₅.objs.size = g0 + 1 → (∀ b o, t4.heap.get? b = some o → h₅.get? b = some o) →
            WalksS X.prog X.w X.A.in4 g0 (g0 :: t4.heap.objs.size :: List.range t4.heap.objs.size) (t4.heap.objs.size :: wr) (GenOnlyQ t4.gens.size) (passing pz n₀ 0).length
              (fun j y => ∃ i, (passing pz n₀ 0)[j]? = some i ∧ F i y) (GenAt X.prog X.w X.A.in4 g0 t4.gens.size t4.heap.objs.size (List.range t4.heap.objs.size) wr pz n₀ F) →
            GenAt X.prog X.w X.A.in4 g0 t4.gens.size t4.heap.objs.size (List.range t4.heap.objs.size) wr pz n₀ F 0 { t4 with gens := t4.gens.push gs, toks := tk, heap := h₅ } →
            Q' (.ref g0) { t4 with gens := t4.gens.push gs, toks := tk, heap := h₅ })) X.xe { t1 with heap := h3, toks := tk } := by
    intro code h3 tk ps' hx hsz hT3 hmore ht3
    obtain ⟨bm, ob, e1, e2, e3, e4, e5, e6, e7, e8⟩ := TB.bm
    have hcT : cStatics ≠ T := fun e => by
      obtain ⟨_, ⟨o', es, ep, ho, hd, _⟩, _⟩ := I1.nolimit
      rw [e, tT] at ho
      cases ho
      cases hd
    have hcl : cStatics < t1.heap.objs.size := let ⟨_, hns, _⟩ := I1.nolimit; hns.lt
    have up3 : ∀ b u, b ≠ T → t1.heap.get? b = some u → h3.get? b = some u := fun b u hb e => hx b u hb (Heap.get?_push_of_some _ e)
    have hsz' : t1.heap.objs.size + 1 ≤ h3.objs.size := by rw [← sz2]; exact hsz
    refine wpAny_builtinsFor (m := X.mg) (by rw [I1.ok.glob]; exact ((I1.mod.glob.keeps I1.bk).push o9).extBut hx TB.gP) e1 e2 (up3 _ _ e4 (I1.bk _ _ e5)) e6 e7 e8 ?_
    refine ⟨t1.heap.objs.size, [t1.heap.objs.size, a], [t1.heap.objs.size], its.toArray.size, (fun i v => its.toArray[i]? = some v), (fun i h => h.IsTupleIter t1.heap.objs.size a i ∧ h.IsTuple a its.toArray), (fun _ => true), (fun i y => y = .bool (pb i)), rfl,
      (fun A' hA => Walks.tuple hA _ _ (Nat.ne_of_lt la) _), ⟨⟨o9, ?_, by rw [ho9], by rw [ho9]; rfl⟩, ?_⟩, ?_, lim2.extBut hx hcT, ?_, ?_, ?_⟩
    · exact hx _ _ (Nat.ne_of_gt lT) (Heap.get?_push_size _ (by rw [ho9]; rfl))
    · obtain ⟨o, q1, q2, q3⟩ := htup
      exact ⟨o, up3 a o naT q1, q2, q3⟩
    · intro b hb
      have hb' : b = t1.heap.objs.size ∨ b = a := by simpa using hb
      show b < h3.objs.size
      rcases hb' with z | z
      · rw [z]; exact Nat.lt_of_lt_of_le (Nat.lt_succ_self _) hsz'
      · rw [z]; exact Nat.lt_of_lt_of_le (Nat.lt_succ_of_lt la) hsz'
    · intro z
      have z' : cStatics = t1.heap.objs.size := by simpa using z
      exact Nat.ne_of_lt hcl z'
    · intro href hhref
      have St3 := stay_but (T := T) (h1 := t1.heap) I1.mod hbT
      refine ⟨fun A' E' i v s₂ m₂ _ _ _ hPv hn hm hk => ?_, fun A' E' i v s₂ m₂ hA hD hU hPv hp hn hm hk => ?_⟩
      · simp only [List.forIn_nil]
        exact wpAny_pure ⟨rfl, keeps0 s₂ s₂.toks⟩
      · have hv : its[i]? = some v := by simpa using hPv
        have hi' : i < xs.length := by rw [rv.length]; exact (List.getElem?_eq_some_iff.mp hv).1
        obtain ⟨u, hu, ru⟩ := rv.get (List.getElem?_eq_getElem hi')
        rw [hv] at hu
        cases hu
        refine hel _ pins σ t1 (genEnv scope (cloFrom X.env.cells scope.names []) h3.objs.size code builtinsNs X.env) m₂ i _ v St3 I1 (fun h q => q) ⟨S.kind, I1.ok.glob, rfl⟩ rfl rfl (List.getElem?_eq_getElem hi') ru hm A' E' s₂ hA hD hU ?_ hn
        intro b u hb e
        have e3' := up3 b u hb e
        refine hk b (List.mem_range.mpr (Heap.lt_size e3')) (fun z => ?_) u (hhref b u e3')
        have z' : b = t1.heap.objs.size := by simpa using z
        have hlt := Heap.lt_size e
        rw [z'] at hlt
        exact Nat.lt_irrefl _ hlt
    · intro g h5 tk5 gs hgb hag hsz5 hk5 W5 hat
      simp only [GxR.passing_true, List.length_range] at W5
      have hlen : its.toArray.size = xs.length := by rw [List.size_toArray]; exact rv.length.symm
      rw [hlen] at W5 hat
      refine hQ' xs.length pb H1 g _ hQ ⟨_, _, _, _, _, W5.in4_1, hat, ?_, fun s' hm => ?_⟩
      · intro j y sj Qj Ej hy hQj
        obtain ⟨i, hij, rfl⟩ := hy
        obtain ⟨hj, ej⟩ := List.getElem?_eq_some_iff.mp hij
        rw [List.getElem_range] at ej
        subst ej
        exact wpAny_truthy_bool hQj
      · obtain ⟨more, em⟩ := hmore
        have nwr : ∀ b u, t1.heap.get? b = some u → b ∉ h3.objs.size :: [t1.heap.objs.size] := fun b u e hb => by
          have hl := Heap.lt_size e
          have hb' : b = h3.objs.size ∨ b = t1.heap.objs.size := by simpa using hb
          rcases hb' with z | z
          · rw [z] at hl; exact Nat.lt_irrefl _ (Nat.lt_of_lt_of_le hl (Nat.le_of_succ_le hsz'))
          · rw [z] at hl; exact Nat.lt_irrefl _ hl
        have J := GxR.inv_tab (more := more) (h' := s'.heap) (g' := s'.gens) (d' := s'.drawn) (t' := s'.toks) I1 hT (fun b u hb e => hm.heap b u (nwr b u e) (hk5 b u (up3 b u hb e)))
          (by rw [← em]; exact hm.heap T _ (nwr T _ tT) (hk5 T _ hT3)) (PyProof.Rows.AllBare.movedS (I1.bare.push hgb) hm)
        rw [GxR.sh_eta t1 s' hm.os] at J
        exact ⟨upd H1 T (.tbl (ps ++ more)), ⟨⟨ps ++ more, upd_same, by rw [← em]; exact ht3⟩, fun b hb => upd_ne hb⟩, J⟩
  refine ⟨lim2, ?_⟩
  cases hf : codeAmong gpos ps.toList with
  | none =>
    refine wpAny_genexprCodeX hcode (cd.code tT2 htri) (cd.tab tT2) hf fun c' h' tk hx hge hlt hco' _ htab' _ => ?_
    obtain ⟨_, _, _, _, _, _, _, _, _, _, _, _, _, _, _, _, _, _, _, htr, _⟩ := hco'
    exact run _ h' tk _ hx (Nat.le_trans hge (Nat.le_of_lt hlt)) htab'.2 ⟨_, rfl⟩ htr
  | some cv =>
    refine wpAny_genexprCode_hit hcode (cd.code tT2 htri) hf ?_
    exact run cv (t1.heap.push o9) t1.toks ps (Heap.ExtBut.refl _ _) (Nat.le_refl _) tT2 ⟨#[], by simp⟩ htri
/-- all(elt for x in e), e a tuple: behind it the def's table may have grown -/
def tAllG (X : Cx) (T : Addr) (sc : Scope) (x : Str) (elt : Expr) (te : TE) : TE := fun σ H Q => te σ H fun v H1 => ∃ (a : Addr) (xs : List V) (pb : Nat → Bool), v = .ref a ∧ SqT X.K H1 a xs ∧ GxR.TabG H1 T ∧ EltT X T sc x elt xs pb H1 ∧
  ∀ H2, GxR.Tabbed T H1 H2 → Q (.bl ((List.range xs.length).all pb)) H2
def tAnyG (X : Cx) (T : Addr) (sc : Scope) (x : Str) (elt : Expr) (te : TE) : TE := fun σ H Q => te σ H fun v H1 => ∃ (a : Addr) (xs : List V) (pb : Nat → Bool), v = .ref a ∧ SqT X.K H1 a xs ∧ GxR.TabG H1 T ∧ EltT X T sc x elt xs pb H1 ∧
  ∀ H2, GxR.Tabbed T H1 H2 → Q (.bl ((List.range xs.length).any pb)) H2
theorem pe_allG {c T : Addr} {elt iter : Expr} {x : Str} {px p pos gpos : Pos} {scope : Scope} {te : TE} {k : Nat}
    (hr : Room k X.A) (hg : Gl X "all") (hm : X.mg "all" = none) (hb : bootBuiltins "all" = some (.builtin "all")) (TB : GxR.TabB X.base X.mg c T) (hcode : X.env.code = .ref c) (S : GxR.GenS X.env scope x) (hi : PE X iter te) (hs : ∀ v, genFold iter X.env v = pure v)
    (he : starEach [.GeneratorExp elt [⟨.Name x px, iter, [], 0⟩] scope gpos] X.env = (false, eval (.GeneratorExp elt [⟨.Name x px, iter, [], 0⟩] scope gpos) X.env) :: starEach [] X.env := by rfl) :
    PE X (.Call (.Name "all" p) [.GeneratorExp elt [⟨.Name x px, iter, [], 0⟩] scope gpos] [] pos) (tAllG X T scope x elt te) := by
  refine ⟨fun pins s σ H Q I h => wpAny_Call_Name_kw (ld_blt I hg hm hb (PyProof.Rows.callWith_builtin1 ?_ he (by rfl)))⟩
  rw [he]
  show wpAny _ _ (spliced ((false, eval (.GeneratorExp elt [⟨.Name x px, iter, [], 0⟩] scope gpos) X.env) :: backTo pos (starEach [] X.env))) _ _ s
  refine Calls.spliced_cons (gen_tup (R := fun n pb H1 => ∀ H2, GxR.Tabbed T H1 H2 → Q (.bl ((List.range n).all pb)) H2) hr TB hcode S hi hs I h fun n pb H1 g s5 hR hG => ?_)
  obtain ⟨fp, wr, G, F, St, W, hst, htr, hI⟩ := hG
  refine Calls.spliced_nil (call_all_walkS (W.self 0 _ _ _ hst ⟨g, fp, wr, G, _, F, St, _, rfl, W, hst, htr, fun s' hmv => ?_⟩))
  obtain ⟨H2, hT, J⟩ := hI s' hmv
  exact ⟨.bl _, H2, J, rfl, hR H2 hT⟩
end
/-- the element's reading over zip of two tuples -/
def EltZ (X : Cx) (T : Addr) (sc : Scope) (x y : Str) (el : Expr) (xs ys : List V) (pb : Nat → Bool) (H1 : Hp) : Prop :=
  ∀ (Φ : Heap → Prop) (pins : List (Addr × Obj)) (σ : L2.St) (t1 : Shared) (cenv : Env) (m : Str → Option Value) (i : Nat) (v v2 : V) (u u2 : Value), Stay X.K X.mg Φ → Inv X pins σ H1 t1 →
    (∀ h, Φ h → ∀ b o, b ≠ T → t1.heap.get? b = some o → h.get? b = some o) → PuEnv cenv → cenv.scope = sc → cenv.cells = cloFrom X.env.cells sc.names [] → xs[i]? = some v → RelV v u → m x = some u → ys[i]? = some v2 → RelV v2 u2 → m y = some u2 →
    PuE X.prog X.w Φ cenv m (X.A.depth + 1) (X.A.units + 8) el (· = .bool (pb i))
section
variable {X : Cx} {pins : List (Addr × Obj)} {σ : L2.St} {H : Hp} {s : Shared}
theorem gen_zip {c T : Addr} {elt e e2 : Expr} {x y : Str} {pa pb' pt p zpos gpos : Pos} {kt : Nat} {scope : Scope} {ta : TA} {k : Nat} {Q' : Value → Shared → Prop} {R : Nat → (Nat → Bool) → Hp → Prop}
    (hr : Room k X.A) (TB : GxR.TabB X.base X.mg c T) (hcode : X.env.code = .ref c) (S : GxR.GenS X.env scope x) (hy : scope.names.lookup y = some .local) (hxy : x ≠ y) (hg : Gl X "zip") (hm : X.mg "zip" = none) (ha : PA X [e, e2] ta)
    (hs : ∀ v, genFold (.Call (.Name "zip" p) [e, e2] [] zpos) X.env v = pure v) (I : Inv X pins σ H s)
    (h : ta σ H fun vs H1 => ∃ (a b : Addr) (xs ys : List V) (pb : Nat → Bool), vs = [.ref a, .ref b] ∧ SqT X.K H1 a xs ∧ SqT X.K H1 b ys ∧ GxR.TabG H1 T ∧ EltZ X T scope x y elt xs ys pb H1 ∧ R (min xs.length ys.length) pb H1)
    (hQ' : ∀ n pb H1 g t5, R n pb H1 → Rdy X pins σ H1 T n pb g t5 → Q' (.ref g) t5)
    (hst : starEach [e, e2] X.env = (false, eval e X.env) :: starEach [e2] X.env := by rfl) (hpl : (backTo zpos (starEach [e2] X.env)).any (·.1) = false := by rfl) :
    wpAny (model X.prog X.w) X.A (eval (.GeneratorExp elt [⟨.Tuple [.Name x pa, .Name y pb'] kt pt, .Call (.Name "zip" p) [e, e2] [] zpos, [], 0⟩] scope gpos) X.env) Q' X.xe s := by
  refine wpAny_GeneratorExp_walksQTD hr.hd S.co (closure_ok S.free) S.cell S.dot S.loc hy hxy S.kind (by have := hr.dp; omega) ?_ hs
  refine PyProof.Rows.Call_ (ld_blt I hg hm PyProof.Rows.boot_zip (PyProof.Rows.callWith_type1 (thn (ha.run zpos pins s σ H _ I h) fun us t1 ⟨vs, H1, I1, r1, a, b, xs, ys, pb, ev, hsx, hsy, ⟨ps, hT, htri⟩, hel, hQ⟩ => ?_) hst hpl))
  subst ev
  obtain ⟨u1, u2, rfl, ra, rb⟩ := vals2 r1
  cases ra
  cases rb
  obtain ⟨its, rv, htup, hz⟩ := I1.tuple hsx
  obtain ⟨its2, rv2, htup2, hz2⟩ := I1.tuple hsy
  have tT : t1.heap.get? T = some { cls := .none, data := .fields ps } := I1.hok T _ hT
  have lT : T < t1.heap.objs.size := Heap.lt_size tT
  have la : a < t1.heap.objs.size := by obtain ⟨o, e, _⟩ := htup; exact Heap.lt_size e
  have lb : b < t1.heap.objs.size := by obtain ⟨o, e, _⟩ := htup2; exact Heap.lt_size e
  have naT : a ≠ T := fun e => by
    obtain ⟨o, e1, e2, _⟩ := htup
    rw [e, tT] at e1
    cases e1
    cases e2
  have nbT : b ≠ T := fun e => by
    obtain ⟨o, e1, e2, _⟩ := htup2
    rw [e, tT] at e1
    cases e1
    cases e2
  refine RZ.call_zipT (show t1.heap.IsTuple a its.toArray from htup) (show t1.heap.IsTuple b its2.toArray from htup2) fun h2 hz0 hTI hTO hi1 hi2 hsz2 hk2 => wpAny_pyIter_zip hz0 ?_
  have hlen : its.toArray.size = xs.length := by rw [List.size_toArray]; exact rv.length.symm
  have hlen2 : its2.toArray.size = ys.length := by rw [List.size_toArray]; exact rv2.length.symm
  have tT2 : h2.get? T = some { cls := .none, data := .fields ps } := hk2 _ _ tT
  have cd : PySem.W.CodeHd h2 c T := TB.code.keeps fun b u e => hk2 _ _ (I1.bk b u e)
  have lim2 : h2.NoLimit := I1.nolimit.keeps hk2
  have hbT : ∀ b u, X.base.get? b = some u → t1.heap.get? b = some u ∧ b ≠ T := fun b u e => ⟨I1.bk b u e, fun z => by
    have q := (I1.bs b u e).2
    rw [z, hT] at q
    cases q⟩
  have run : ∀ (code : Value) (h3 : Heap) (tk : Nat) (ps' : Array Value), Heap.ExtBut T h2 h3 → h2.objs.size ≤ h3.objs.size → h3.get? T = some { cls := .none, data := .fields ps' } → (∃ more, ps' = ps ++ more) → TriplesOk ps'.toList →
      wpAny (model X.prog X.w) X.A (builtinsFor X.env.globals X.env.builtins) (fun bi t4 =>
        ∃ Ia fp wr n₀ Pt St₀ Mid pz F, Value.ref (t1.heap.objs.size + 4) = .ref Ia ∧ (∀ A' : Around, A'.handled = none → WalksU X.prog X.w A' Ia fp wr n₀ Pt St₀ Mid) ∧ (∀ i vals, Pt i vals → ∃ va vb, vals = #[va, vb]) ∧ St₀ 0 t4.heap ∧ (∀ b ∈ fp, b < t4.heap.objs.size) ∧ t4.heap.NoLimit ∧ cStatics ∉ wr ∧
          (∀ href : Heap, (∀ b o, t4.heap.get? b = some o → href.get? b = some o) →
            QuietGenTD X.prog X.w (genEnv scope (cloFrom X.env.cells scope.names []) t4.heap.objs.size code bi X.env) x y [] elt (List.range t4.heap.objs.size) wr Pt pz F href (X.A.depth + 1) (X.A.units + 8)) ∧
          (∀ g0 h₅ tk gs, gs.bare = true → t4.heap.objs.size < g0 → h₅.objs.size = g0 + 1 → (∀ b o, t4.heap.get? b = some o → h₅.get? b = some o) →
            WalksS X.prog X.w X.A.in4 g0 (g0 :: t4.heap.objs.size :: List.range t4.heap.objs.size) (t4.heap.objs.size :: wr) (GenOnlyQ t4.gens.size) (passing pz n₀ 0).length
              (fun j y => ∃ i, (passing pz n₀ 0)[j]? = some i ∧ F i y) (GenAt X.prog X.w X.A.in4 g0 t4.gens.size t4.heap.objs.size (List.range t4.heap.objs.size) wr pz n₀ F) →
            GenAt X.prog X.w X.A.in4 g0 t4.gens.size t4.heap.objs.size (List.range t4.heap.objs.size) wr pz n₀ F 0 { t4 with gens := t4.gens.push gs, toks := tk, heap := h₅ } →
            Q' (.ref g0) { t4 with gens := t4.gens.push gs, toks := tk, heap := h₅ })) X.xe { t1 with heap := h3, toks := tk } := by
    intro code h3 tk ps' hx hsz hT3 hmore ht3
    obtain ⟨bm, ob, e1, e2, e3, e4, e5, e6, e7, e8⟩ := TB.bm
    have hcT : cStatics ≠ T := fun e => by
      obtain ⟨_, ⟨o', es, ep, ho, hd, _⟩, _⟩ := I1.nolimit
      rw [e, tT] at ho
      cases ho
      cases hd
    have hcl : cStatics < t1.heap.objs.size := let ⟨_, hns, _⟩ := I1.nolimit; hns.lt
    have up3 : ∀ b u, b ≠ T → t1.heap.get? b = some u → h3.get? b = some u := fun b u hb e => hx b u hb (hk2 _ _ e)
    have hsz' : t1.heap.objs.size + 5 ≤ h3.objs.size := by rw [← hsz2]; exact hsz
    have far : ∀ j : Nat, T ≠ t1.heap.objs.size + j := fun j z => by
      have q : (T : Nat) < t1.heap.objs.size := lT
      rw [z] at q
      exact Nat.lt_irrefl _ (Nat.lt_of_le_of_lt (Nat.le_add_right _ _) q)
    have nea : ∀ j : Nat, a ≠ t1.heap.objs.size + j := fun j z => by
      have q : (a : Nat) < t1.heap.objs.size := la
      rw [z] at q
      exact Nat.lt_irrefl _ (Nat.lt_of_le_of_lt (Nat.le_add_right _ _) q)
    have neb : ∀ j : Nat, b ≠ t1.heap.objs.size + j := fun j z => by
      have q : (b : Nat) < t1.heap.objs.size := lb
      rw [z] at q
      exact Nat.lt_irrefl _ (Nat.lt_of_le_of_lt (Nat.le_add_right _ _) q)
    have nn : ∀ i j : Nat, i ≠ j → (t1.heap.objs.size : Nat) + i ≠ t1.heap.objs.size + j := fun i j q => by omega
    have sep : ZipSep2 (t1.heap.objs.size + 4) (t1.heap.objs.size + 2) (t1.heap.objs.size + 3) t1.heap.objs.size (t1.heap.objs.size + 1) [t1.heap.objs.size, a] [t1.heap.objs.size + 1, b] := by
      have m2 : ∀ {q r t : Addr}, q ≠ r → q ≠ t → q ∉ [r, t] := fun {q r t} z1 z2 z => by
        have z' : q = r ∨ q = t := by simpa using z
        rcases z' with z' | z'
        · exact z1 z'
        · exact z2 z'
      exact ⟨nn 2 4 (by decide), nn 3 4 (by decide), nn 2 3 (by decide), nn 2 0 (by decide), List.mem_cons_self, m2 (nn 4 0 (by decide)) (nea 4).symm, m2 (nn 3 0 (by decide)) (nea 3).symm, nn 2 1 (by decide), List.mem_cons_self, m2 (nn 4 1 (by decide)) (neb 4).symm, m2 (nn 3 1 (by decide)) (neb 3).symm,
        m2 (nn 0 1 (by decide)) (neb 0).symm, m2 (nn 1 0 (by decide)) (nea 1).symm⟩
    refine wpAny_builtinsFor (m := X.mg) (by rw [I1.ok.glob]; exact (I1.mod.glob.keeps fun b u e => hk2 _ _ (I1.bk b u e)).extBut hx TB.gP) e1 e2 (up3 _ _ e4 (I1.bk _ _ e5)) e6 e7 e8 ?_
    refine ⟨t1.heap.objs.size + 4, _, _, _, _, _, _, (fun _ => true), (fun i y => y = .bool (pb i)), rfl,
      (fun A' hA => (WalksT.zipD2 sep (Draws.tuple (A := A'.in1) hA _ _ (nea 0) its.toArray) (Draws.tuple (A := A'.in1) hA _ _ (neb 1) its2.toArray)).toU), ?_, ⟨?_, ?_, ⟨.none, .none, ?_⟩, ⟨?_, ?_⟩, ⟨?_, ?_⟩⟩, ?_, lim2.extBut hx hcT, ?_, ?_, ?_⟩
    · rintro i vals ⟨x1, x2, _, _, rfl⟩
      exact ⟨x1, x2, rfl⟩
    · exact hx _ _ (far 4).symm hz0
    · exact hx _ _ (far 2).symm hTI
    · exact hx _ _ (far 3).symm hTO
    · exact hi1.at fun o q => hx _ _ (far 0).symm q
    · obtain ⟨o, q1, q2, q3⟩ := htup
      exact ⟨o, up3 a o naT q1, q2, q3⟩
    · exact hi2.at fun o q => hx _ _ (far 1).symm q
    · obtain ⟨o, q1, q2, q3⟩ := htup2
      exact ⟨o, up3 b o nbT q1, q2, q3⟩
    · intro q hq
      have hq' : q = t1.heap.objs.size + 4 ∨ q = t1.heap.objs.size + 2 ∨ q = t1.heap.objs.size + 3 ∨ q = t1.heap.objs.size ∨ q = a ∨ q = t1.heap.objs.size + 1 ∨ q = b := by simpa using hq
      have ok : ∀ j : Nat, j < 5 → (t1.heap.objs.size : Nat) + j < h3.objs.size := fun j hj => Nat.lt_of_lt_of_le (Nat.add_lt_add_left hj _) hsz'
      show (q : Nat) < h3.objs.size
      rcases hq' with z | z | z | z | z | z | z
      · rw [z]; exact ok 4 (by decide)
      · rw [z]; exact ok 2 (by decide)
      · rw [z]; exact ok 3 (by decide)
      · rw [z]; exact ok 0 (by decide)
      · rw [z]; exact Nat.lt_trans la (ok 0 (by decide))
      · rw [z]; exact ok 1 (by decide)
      · rw [z]; exact Nat.lt_trans lb (ok 0 (by decide))
    · intro z
      have z' : cStatics = t1.heap.objs.size + 4 ∨ cStatics = t1.heap.objs.size + 3 ∨ cStatics = t1.heap.objs.size ∨ cStatics = t1.heap.objs.size + 1 := by simpa using z
      have no : ∀ j : Nat, cStatics ≠ t1.heap.objs.size + j := fun j z => by
        have q : (cStatics : Nat) < t1.heap.objs.size := hcl
        rw [z] at q
        exact Nat.lt_irrefl _ (Nat.lt_of_le_of_lt (Nat.le_add_right _ _) q)
      rcases z' with z' | z' | z' | z'
      · exact no 4 z'
      · exact no 3 z'
      · exact no 0 z'
      · exact no 1 z'
    · intro href hhref
      have St3 := stay_but (T := T) (h1 := t1.heap) I1.mod hbT
      refine ⟨fun A' E' i va vb s₂ m₂ _ _ _ hPv hn hma hmb hk => ?_, fun A' E' i va vb s₂ m₂ hA hD hU hPv hp hn hma hmb hk => ?_⟩
      · simp only [List.forIn_nil]
        exact wpAny_pure ⟨rfl, keeps0 s₂ s₂.toks⟩
      · obtain ⟨x1, x2, hx1, hx2, exy⟩ := hPv
        have ev : va = x1 ∧ vb = x2 := by
          have q := congrArg Array.toList exy
          simpa using q
        obtain ⟨rfl, rfl⟩ := ev
        have hv : its[i]? = some va := by simpa using hx1
        have hv2 : its2[i]? = some vb := by simpa using hx2
        have hi' : i < xs.length := by rw [rv.length]; exact (List.getElem?_eq_some_iff.mp hv).1
        have hi2' : i < ys.length := by rw [rv2.length]; exact (List.getElem?_eq_some_iff.mp hv2).1
        obtain ⟨u, hu, ru⟩ := rv.get (List.getElem?_eq_getElem hi')
        obtain ⟨u', hu', ru'⟩ := rv2.get (List.getElem?_eq_getElem hi2')
        rw [hv] at hu
        rw [hv2] at hu'
        cases hu
        cases hu'
        refine hel _ pins σ t1 (genEnv scope (cloFrom X.env.cells scope.names []) h3.objs.size code builtinsNs X.env) m₂ i _ _ va vb St3 I1 (fun h q => q) ⟨S.kind, I1.ok.glob, rfl⟩ rfl rfl (List.getElem?_eq_getElem hi') ru hma (List.getElem?_eq_getElem hi2') ru' hmb A' E' s₂ hA hD hU ?_ hn
        intro q u hb e
        have e3' := up3 q u hb e
        refine hk q (List.mem_range.mpr (Heap.lt_size e3')) (fun z => ?_) u (hhref q u e3')
        have z' : q = t1.heap.objs.size + 4 ∨ q = t1.heap.objs.size + 3 ∨ q = t1.heap.objs.size ∨ q = t1.heap.objs.size + 1 := by simpa using z
        have hlt : (q : Nat) < t1.heap.objs.size := Heap.lt_size e
        have no : ∀ j : Nat, q ≠ t1.heap.objs.size + j := fun j z => by
          rw [z] at hlt
          exact Nat.lt_irrefl _ (Nat.lt_of_le_of_lt (Nat.le_add_right _ _) hlt)
        rcases z' with z' | z' | z' | z'
        · exact no 4 z'
        · exact no 3 z'
        · exact no 0 z'
        · exact no 1 z'
    · intro g h5 tk5 gs hgb hag hsz5 hk5 W5 hat
      simp only [GxR.passing_true, List.length_range] at W5
      rw [hlen, hlen2] at W5 hat
      refine hQ' (min xs.length ys.length) pb H1 g _ hQ ⟨_, _, _, _, _, W5.in4_1, hat, ?_, fun s' hm => ?_⟩
      · intro j y sj Qj Ej hy hQj
        obtain ⟨i, hij, rfl⟩ := hy
        obtain ⟨hj, ej⟩ := List.getElem?_eq_some_iff.mp hij
        rw [List.getElem_range] at ej
        subst ej
        exact wpAny_truthy_bool hQj
      · obtain ⟨more, em⟩ := hmore
        have nwr : ∀ b u, t1.heap.get? b = some u → b ∉ h3.objs.size :: [t1.heap.objs.size + 4, t1.heap.objs.size + 3, t1.heap.objs.size, t1.heap.objs.size + 1] := fun b u e hb => by
          have hl : (b : Nat) < t1.heap.objs.size := Heap.lt_size e
          have hb' : b = h3.objs.size ∨ b = t1.heap.objs.size + 4 ∨ b = t1.heap.objs.size + 3 ∨ b = t1.heap.objs.size ∨ b = t1.heap.objs.size + 1 := by simpa using hb
          have no : ∀ j : Nat, b ≠ t1.heap.objs.size + j := fun j z => by
            rw [z] at hl
            exact Nat.lt_irrefl _ (Nat.lt_of_le_of_lt (Nat.le_add_right _ _) hl)
          rcases hb' with z | z | z | z | z
          · rw [z] at hl
            exact Nat.lt_irrefl _ (Nat.lt_of_lt_of_le hl (Nat.le_trans (Nat.le_add_right _ 5) hsz'))
          · exact no 4 z
          · exact no 3 z
          · exact no 0 z
          · exact no 1 z
        have J := GxR.inv_tab (more := more) (h' := s'.heap) (g' := s'.gens) (d' := s'.drawn) (t' := s'.toks) I1 hT (fun b u hb e => hm.heap b u (nwr b u e) (hk5 b u (up3 b u hb e)))
          (by rw [← em]; exact hm.heap T _ (nwr T _ tT) (hk5 T _ hT3)) (PyProof.Rows.AllBare.movedS (I1.bare.push hgb) hm)
        rw [GxR.sh_eta t1 s' hm.os] at J
        exact ⟨upd H1 T (.tbl (ps ++ more)), ⟨⟨ps ++ more, upd_same, by rw [← em]; exact ht3⟩, fun b hb => upd_ne hb⟩, J⟩
  refine ⟨lim2, ?_⟩
  cases hf : codeAmong gpos ps.toList with
  | none =>
    refine wpAny_genexprCodeX hcode (cd.code tT2 htri) (cd.tab tT2) hf fun c' h' tk hx hge hlt hco' _ htab' _ => ?_
    obtain ⟨_, _, _, _, _, _, _, _, _, _, _, _, _, _, _, _, _, _, _, htr, _⟩ := hco'
    exact run _ h' tk _ hx (Nat.le_trans hge (Nat.le_of_lt hlt)) htab'.2 ⟨_, rfl⟩ htr
  | some cv =>
    refine wpAny_genexprCode_hit hcode (cd.code tT2 htri) hf ?_
    exact run cv h2 t1.toks ps (Heap.ExtBut.refl _ _) (Nat.le_refl _) tT2 ⟨#[], by simp⟩ htri
def tAnyZ (X : Cx) (T : Addr) (sc : Scope) (x y : Str) (elt : Expr) (ta : TA) : TE := fun σ H Q => ta σ H fun vs H1 => ∃ (a b : Addr) (xs ys : List V) (pb : Nat → Bool), vs = [.ref a, .ref b] ∧ SqT X.K H1 a xs ∧ SqT X.K H1 b ys ∧ GxR.TabG H1 T ∧ EltZ X T sc x y elt xs ys pb H1 ∧
  ∀ H2, GxR.Tabbed T H1 H2 → Q (.bl ((List.range (min xs.length ys.length)).any pb)) H2
theorem pe_anyZ {c T : Addr} {elt e e2 : Expr} {x y : Str} {pa pb' pt p p' pos zpos gpos : Pos} {kt : Nat} {scope : Scope} {ta : TA} {k : Nat}
    (hr : Room k X.A) (hg : Gl X "any") (hm : X.mg "any" = none) (TB : GxR.TabB X.base X.mg c T) (hcode : X.env.code = .ref c) (S : GxR.GenS X.env scope x) (hy : scope.names.lookup y = some .local) (hxy : x ≠ y) (hgz : Gl X "zip") (hmz : X.mg "zip" = none) (ha : PA X [e, e2] ta)
    (hs : ∀ v, genFold (.Call (.Name "zip" p) [e, e2] [] zpos) X.env v = pure v)
    (hst : starEach [e, e2] X.env = (false, eval e X.env) :: starEach [e2] X.env := by rfl) (hpl : (backTo zpos (starEach [e2] X.env)).any (·.1) = false := by rfl)
    (he : starEach [.GeneratorExp elt [⟨.Tuple [.Name x pa, .Name y pb'] kt pt, .Call (.Name "zip" p) [e, e2] [] zpos, [], 0⟩] scope gpos] X.env = (false, eval (.GeneratorExp elt [⟨.Tuple [.Name x pa, .Name y pb'] kt pt, .Call (.Name "zip" p) [e, e2] [] zpos, [], 0⟩] scope gpos) X.env) :: starEach [] X.env := by rfl) :
    PE X (.Call (.Name "any" p') [.GeneratorExp elt [⟨.Tuple [.Name x pa, .Name y pb'] kt pt, .Call (.Name "zip" p) [e, e2] [] zpos, [], 0⟩] scope gpos] [] pos) (tAnyZ X T scope x y elt ta) := by
  refine ⟨fun pins s σ H Q I h => wpAny_Call_Name_kw (ld_blt I hg hm PyProof.Rows.boot_any (PyProof.Rows.callWith_builtin1 ?_ he (by rfl)))⟩
  rw [he]
  show wpAny _ _ (spliced ((false, eval (.GeneratorExp elt [⟨.Tuple [.Name x pa, .Name y pb'] kt pt, .Call (.Name "zip" p) [e, e2] [] zpos, [], 0⟩] scope gpos) X.env) :: backTo pos (starEach [] X.env))) _ _ s
  refine Calls.spliced_cons (gen_zip (R := fun n pb H1 => ∀ H2, GxR.Tabbed T H1 H2 → Q (.bl ((List.range n).any pb)) H2) hr TB hcode S hy hxy hgz hmz ha hs I h (fun n pb H1 g s5 hR hG => ?_) hst hpl)
  obtain ⟨fp, wr, G, F, St, W, hst, htr, hI⟩ := hG
  refine Calls.spliced_nil (call_any_walkS (W.self 0 _ _ _ hst ⟨g, fp, wr, G, _, F, St, _, rfl, W, hst, htr, fun s' hmv => ?_⟩))
  obtain ⟨H2, hT, J⟩ := hI s' hmv
  exact ⟨.bl _, H2, J, rfl, hR H2 hT⟩
end

/-! ### tuples: sum(t), t * 1, t[::-1] -/
section
variable {X : Cx}
/-- sum(t), t a tuple or a list of ints -/
def rSumS (K : PySem.W.Frag) : List V → Hp → VK → Prop := fun vs H Q => ∃ (a : Addr) (ns : List Int), vs = [V.ref a] ∧ (SqL K H a (ns.map V.int) ∨ SqT K H a (ns.map V.int)) ∧ Q (.int ns.sum) H
theorem cr_sumS (hc : X.calm = true) : CallR X (.builtin "sum") (rSumS X.K) := by
  intro pins s σ H vs us Q I r h
  obtain ⟨a, ns, rfl, hs, q⟩ := h
  rcases hs with hs | hs
  · exact cr_sum hc pins s σ H [.ref a] us Q I r ⟨a, ns, rfl, hs, q⟩
  · obtain ⟨its, rv, hl, _⟩ := I.tuple hs
    rw [Vals.ref1 r]
    have hi := intsAre_of rv
    obtain ⟨xs, e⟩ := hi.allInts.items
    have hn : numsOf (intItems xs).toList = ns := by rw [← e]; exact hi.numsOf
    rw [nums_intItems] at hn
    have hl' : s.heap.IsTuple a (intItems xs) := by rw [← e]; exact hl
    refine PySem.W.ktm_sumG (I.ok.hd hc) hl' fun h' tk t' hk => ⟨.int ns.sum, H, I.kept hk, ?_, q⟩
    rw [preSum_eq, List.take_of_length_le (by simp), hn]
    exact ⟨t', rfl⟩
theorem adjust_rev (n : Nat) : Builtin.Slice.sliceAdjust none none (-1) (n : Int) = ((n : Int) - 1, -1) := rfl
theorem places_rev (n : Nat) : Builtin.Slice.slicePlaces ((n : Int) - 1) (-1) (-1) = n := by
  unfold Builtin.Slice.slicePlaces
  rw [if_neg (by omega)]
  split
  · have e : ((n : Int) - 1 - -1 - 1) / (- -1) = (n : Int) - 1 := by
      rw [show (- -1 : Int) = 1 from rfl, Int.ediv_one]; omega
    rw [e]; omega
  · omega
theorem pick_revL : ∀ (l : List Value), ((List.range l.length).filterMap fun (k : Nat) => l[l.length - 1 - k]?) = l.reverse
  | [] => rfl
  | v :: l => by
    have e : ((List.range l.length).filterMap fun (k : Nat) => (v :: l)[l.length - k]?) = (List.range l.length).filterMap fun (k : Nat) => l[l.length - 1 - k]? := by
      have go : ∀ (m : List Nat), (∀ k ∈ m, k < l.length) → (m.filterMap fun (k : Nat) => (v :: l)[l.length - k]?) = m.filterMap fun (k : Nat) => l[l.length - 1 - k]? := by
        intro m
        induction m with
        | nil => intro _; rfl
        | cons k m ih =>
          intro hm
          have hk := hm k (by simp)
          have e3 : (v :: l)[l.length - k]? = l[l.length - 1 - k]? := by
            rw [show l.length - k = (l.length - 1 - k) + 1 by omega, List.getElem?_cons_succ]
          rw [List.filterMap_cons, List.filterMap_cons, e3, ih fun q hq => hm q (by simp [hq])]
      exact go _ fun k hk => List.mem_range.mp hk
    have e0 : ((List.range (v :: l).length).filterMap fun (k : Nat) => (v :: l)[(v :: l).length - 1 - k]?) = ((List.range (l.length + 1)).filterMap fun (k : Nat) => (v :: l)[l.length - k]?) := rfl
    rw [e0, List.range_succ, List.filterMap_append, e, pick_revL l]
    simp
theorem pick_rev (xs : Array Value) : ((List.range xs.size).filterMap fun (k : Nat) => xs[((xs.size : Int) - 1 + (k : Int) * -1).toNat]?).toArray = xs.toList.reverse.toArray := by
  have e : (fun (k : Nat) => xs[((xs.size : Int) - 1 + (k : Int) * -1).toNat]?) = fun (k : Nat) => if (k : Int) ≤ (xs.size : Int) - 1 then xs.toList[xs.toList.length - 1 - k]? else xs[0]? := by
    funext k
    by_cases hk : (k : Int) ≤ (xs.size : Int) - 1
    · rw [if_pos hk, Array.getElem?_toList, Array.length_toList]
      congr 1
      omega
    · rw [if_neg hk]
      congr 1
      omega
  rw [e]
  have go : ∀ (m : List Nat), (∀ k ∈ m, k < xs.size) → (m.filterMap fun (k : Nat) => if (k : Int) ≤ (xs.size : Int) - 1 then xs.toList[xs.toList.length - 1 - k]? else xs[0]?) = m.filterMap fun (k : Nat) => xs.toList[xs.toList.length - 1 - k]? := by
    intro m
    induction m with
    | nil => intro _; rfl
    | cons k m ih =>
      intro hm
      have hk := hm k (by simp)
      rw [List.filterMap_cons, List.filterMap_cons, if_pos (by omega), ih fun q hq => hm q (by simp [hq])]
  rw [go _ fun k hk => List.mem_range.mp hk]
  have := pick_revL xs.toList
  rw [Array.length_toList] at this ⊢
  rw [this]
def tRevT (K : PySem.W.Frag) (te : TE) : TE := fun σ H Q => te σ H fun x H1 => ∃ a xs, x = .ref a ∧ SqT K H1 a xs ∧ ∀ p, H1 p = none → Q (.ref p) (upd H1 p (.tup xs.reverse))
theorem pe_revT {e : Expr} {te : TE} {j : Nat} {p1 p2 p3 pos : Pos} (he : PE X e te) : PE X (.Subscript e (.Slice none none (some (.UnaryOp .USub (.Constant (.int 1) j p1) p2)) p3) pos) (tRevT X.K te) := by
  refine ⟨fun pins s σ H Q I h => ?_⟩
  refine PyProof.Rows.Subscript_ (thn (he.run pins s σ H _ I h) fun v s1 ⟨x, H1, I1, r1, a, xs, ex, hs, q⟩ => ?_)
  subst ex
  cases r1
  obtain ⟨its, rv, htup, hz⟩ := I1.tuple hs
  refine wpAny_Slice ?_
  rw [evalPart_none, evalPart_some]
  refine wpAny_pure (wpAny_pure ?_)
  refine thn ((pe_un (X := X) (pos := p2) un_neg (pe_int (X := X) (i := 1) (j := j) (pos := p1))).run pins s1 σ H1 (fun y H2 => y = .int (-1) ∧ H2 = H1) I1 ⟨1, rfl, rfl, rfl⟩) fun st s2 ⟨y, H2, I2, r2, ey, eH⟩ => ?_
  subst ey eH
  obtain ⟨t, rfl⟩ := r2
  obtain ⟨its', rv', htup', _⟩ := I2.tuple hs
  have hlen' : its'.toArray.size = xs.length := by rw [List.size_toArray]; exact rv'.length.symm
  obtain ⟨o7, ho7⟩ : ∃ o7 : Obj, o7 = { cls := .type "slice", data := .fields #[.none, .none, .int (-1) t] } := ⟨_, rfl⟩
  have I4 : Inv X pins σ H2 { s2 with heap := s2.heap.push o7 } := I2.kept (t' := s2.toks) fun b ob q => Heap.get?_push_of_some _ q
  have hs7 : (s2.heap.push o7).IsSliceOf s2.heap.objs.size .none .none (.int (-1) t) := by rw [ho7]; exact Heap.IsSliceOf.new ..
  have ht7 : PyProof.Rows.IsTup (s2.heap.push o7) a its'.toArray := htup'.push _
  rw [← ho7]
  refine PyProof.Rows.tail_any (ops := [.ref a, .ref s2.heap.objs.size]) (T := "tuple") (s := { s2 with heap := s2.heap.push o7 }) ht7.typeIs PyProof.Rows.slot_tuple_getitem.lookup ?_ (by with_unfolding_all rfl)
  have hTs : ({ s2 with heap := s2.heap.push o7 } : Shared).TypeIs (.ref s2.heap.objs.size) "slice" := by obtain ⟨o, e1, e2, _⟩ := hs7; exact ⟨o, e1, e2⟩
  obtain ⟨oo, ho1, ho2, ho3⟩ := id hs7
  unfold getItem
  try with_reducible refine wpAny_holding ?_
  first | refine wpAny_bind (wpAny_pure ?_) | skip
  refine wpAny_bind (wpAny_sequenceKey ht7.typeIs (by decide) (wpAny_bind (wpAny_callSpecial?_slot (name := Str.ofString "__getitem__") ht7.typeIs PyProof.Rows.slot_tuple_getitem (wpAny_call_entry PyProof.Rows.slot_tuple_getitem ht7.typeIs PyProof.Rows.entry_tuple_getitem ?_ (PyProof.Rows.args_tuple_getitem _ _)))))
  show wpAny _ _ (Builtin.Tuple.tupleItemsOf (.ref a) >>= _) _ _ _
  refine wpAny_bind (PyProof.Rows.tupleItemsOf_ ht7 (wpAny_bind (wpAny_typeOf hTs ?_)))
  rw [if_pos (by decide)]
  refine wpAny_bind (m := Builtin.Slice.sliceApplied _ _) ?_
  unfold Builtin.Slice.sliceApplied Builtin.Slice.sliceFields
  refine wpAny_bind (wpAny_bind (wpAny_field ho1 ho3 (x := .none) rfl (wpAny_bind (wpAny_field ho1 ho3 (x := .none) rfl (wpAny_bind (wpAny_field ho1 ho3 (x := .int (-1) t) rfl (wpAny_pure ?_)))))))
  refine wpAny_bind (PyProof.Rows.slicePart_int ?_)
  show wpAny _ _ (if ((-1 : Int) == 0) = true then _ else _) _ _ _
  rw [if_neg (by decide)]
  refine wpAny_bind (PyProof.Rows.slicePart_none (wpAny_bind (PyProof.Rows.slicePart_none (wpAny_bind (wpAny_pure ?_)))))
  show wpAny _ _ (pure ((its'.toArray.size : Int) - 1, (-1 : Int), Builtin.Slice.slicePlaces ((its'.toArray.size : Int) - 1) (-1) (-1))) _ _ _
  rw [places_rev]
  refine wpAny_pure ?_
  have hno : ¬ ((((its'.toArray.size : Int) - 1 == 0 && (-1 : Int) == 1 && its'.toArray.size == its'.toArray.size)) = true) := by
    intro z
    rw [Bool.and_eq_true, Bool.and_eq_true] at z
    exact absurd z.1.2 (by decide)
  show wpAny _ _ (if ((its'.toArray.size : Int) - 1 == 0 && (-1 : Int) == 1 && its'.toArray.size == its'.toArray.size) = true then _ else _) _ _ _
  rw [if_neg hno, pick_rev]
  have hsz : sizeOk (.seq its'.toArray.toList.reverse.toArray) := by
    show its'.toArray.toList.reverse.toArray.size ≤ sizeLine
    rw [List.size_toArray, List.length_reverse, Array.length_toList, hlen']
    exact hz
  have fin : EP X pins σ Q (.ref (s2.heap.push o7).objs.size) { s2 with heap := (s2.heap.push o7).push { cls := .type "tuple", data := .seq its'.toArray.toList.reverse.toArray } } := by
    have hf : H2 (s2.heap.push o7).objs.size = none := I4.hok.fresh (Nat.le_refl _)
    refine ⟨.ref _, _, I4.laid (t' := s2.toks) (o := .tup xs.reverse) (fun b ob z => Heap.get?_push_of_some _ z) (Nat.le_refl _) ?_, rfl, q _ hf⟩
    exact ⟨by rw [List.length_reverse]; exact hz, its'.reverse, rv'.reverse, ⟨_, Heap.get?_push_size _ rfl, rfl, 0, rfl⟩⟩
  first
    | exact wpAny_bind (m := Builtin.Tuple.tupleExact _) (wpAny_newObj_type (wpAny_pure ⟨_, rfl, wpAny_pure fin⟩) hsz)
    | exact wpAny_bind (m := Builtin.Tuple.tupleExact _) (wpAny_newObj_type (wpAny_bind (wpAny_pure (wpAny_pure ⟨_, rfl, wpAny_pure fin⟩))) hsz)
    | exact wpAny_bind (wpAny_bind (m := Builtin.Tuple.tupleExact _) (wpAny_newObj_type (wpAny_pure (wpAny_pure ⟨_, rfl, wpAny_pure fin⟩)) hsz))
    | exact wpAny_bind (wpAny_bind (m := Builtin.Tuple.tupleExact _) (wpAny_newObj_type (wpAny_pure ⟨_, rfl, wpAny_pure fin⟩) hsz))
end

section
open PyProof.Rows
theorem tup_mul_one (l : Addr) (items : Array Value) (n : Nat) (dd : Option Addr) (sl : Array (Option Value)) (u : Tok) :
    Meets (Builtin.«tuple.__mul__» ⟨[.ref l, .int 1 u], []⟩) (fun _ R s => s.heap.get? l = some { cls := .type "tuple", dict := dd, data := .seq items n, slots := sl } ∧ R (.ok (.ret (.ref l))) s) :=
  .of_wp fun prog w A R s h => by
    obtain ⟨hp, g, d, tk, os⟩ := s
    obtain ⟨hl, h⟩ := h
    have f1 := AutoSeq1.idx_int
    wp_walk using PySem.AutoSeq1.wpAny_loadPart' hl
    try (refine wpAny_ite_false (decide_eq_false (by decide)) ?_; wp_walk using PySem.AutoSeq1.wpAny_loadPart' hl)
    repeat (first
      | exact ⟨_, rfl, h⟩
      | (refine wpAny_ite_true (decide_eq_true (by simp)) ?_; wp_walk using PySem.AutoSeq1.wpAny_loadPart' hl)
      | (refine wpAny_ite_true (by simp) ?_; wp_walk using PySem.AutoSeq1.wpAny_loadPart' hl))
/-- t * 1 is t itself -/
def rRep1 (K : PySem.W.Frag) : R2 := fun x y H Q => ∃ l xs, x = .ref l ∧ y = .int 1 ∧ SqT K H l xs ∧ Q (.ref l) H
theorem op_rep1 {X : Cx} : OpR X (binaryOp .Mult) (rRep1 X.K) := by
  intro pins s σ H x y v u Q I rx ry h
  obtain ⟨l, xs, rfl, rfl, hT, q⟩ := h
  cases rx
  obtain ⟨t, rfl⟩ := ry
  obtain ⟨its, r, ⟨⟨cls, dd, data, sl⟩, ho, hc, n, hd⟩, hs⟩ := I.tuple hT
  simp only at hc hd
  subst hc hd
  exact wpAny_binaryOp_repeat_ref (T := "tuple") (U := "int") (by decide) ⟨_, ho, rfl⟩ (fun s' => typeIs_int s' 1 t) noFill_tuple_mul F.fills_int_mul F.slot_int_rmul repeat_tuple F.slot_int_index.lookup
    (call_meets F.slot_int_rmul (typeIs_int s 1 t) F.entry_int_rmul (F.args_int_rmul_2 _ _) (int_rmul_tuple 1 t l its.toArray n dd sl)
      ⟨ho, rfl, ⟨_, ho, rfl⟩, call_meets F.slot_tuple_mul ⟨_, ho, rfl⟩ F.entry_tuple_mul (F.args_tuple_mul_2 _ _) (tup_mul_one l its.toArray n dd sl t) ⟨ho, .ref l, H, I, rfl, q⟩⟩)
def rRepA (K : PySem.W.Frag) : R2 := fun x y H Q => rRepT K x y H Q ∨ rRep1 K x y H Q
theorem op_repA {X : Cx} : OpR X (binaryOp .Mult) (rRepA X.K) := OpR.or op_repT op_rep1
end

/-! ### order of nested data; sorted of it -/
section
open PySem.W
variable {X : Cx}
theorem ix_any : IxR X (fun x y H Q => rIxL X.K x y H Q ∨ rIxT X.K x y H Q) := IxR.or ix_list ix_tup
/-- the one before the other, as nested data -/
def rLtD (K : PySem.W.Frag) : R2 := fun x y H Q => ∃ d e, Dp K H x d ∧ Dp K H y e ∧ alike d e = true ∧ d ≠ .none ∧ d.depth ≤ 32 ∧ Q (.bl (dataLt d e)) H
def rGtD (K : PySem.W.Frag) : R2 := fun x y H Q => ∃ d e, Dp K H x d ∧ Dp K H y e ∧ alike d e = true ∧ d ≠ .none ∧ d.depth ≤ 32 ∧ Q (.bl (dataLt e d)) H
theorem op_ltD (hu : X.A.units + 64 < cLine) : OpR X (compareOp .Lt) (rLtD X.K) := by
  intro pins s σ H x y v u Q I rx ry ⟨d, e, hd, he, al, nn, dp, q⟩
  obtain ⟨as, r1⟩ := Dp.reads I d x v hd rx
  obtain ⟨bs, r2⟩ := Dp.reads I e y u he ry
  exact lt_data r1 r2 al nn (by omega) ⟨.bl _, H, I, rfl, q⟩
theorem op_gtD (hu : X.A.units + 64 < cLine) : OpR X (compareOp .Gt) (rGtD X.K) := by
  intro pins s σ H x y v u Q I rx ry ⟨d, e, hd, he, al, nn, dp, q⟩
  obtain ⟨as, r1⟩ := Dp.reads I d x v hd rx
  obtain ⟨bs, r2⟩ := Dp.reads I e y u he ry
  exact gt_data r1 r2 al nn (by omega) ⟨.bl _, H, I, rfl, q⟩
theorem each_of {β : Type} {g : β → V} : ∀ {bs : List β} {its : List Value}, Vals (bs.map g) its → EachIs (fun v b => RelV (g b) v) its bs
  | [], _, h => by cases h; exact .nil
  | _ :: _, _, h => by
    cases h with
    | cons r t => exact .cons r (each_of t)
theorem vals_of_each {β : Type} {g : β → V} : ∀ {bs : List β} {its : List Value}, EachIs (fun v b => RelV (g b) v) its bs → Vals (bs.map g) its
  | _, _, .nil => .nil
  | _, _, .cons r t => .cons r (vals_of_each t)
theorem each_and {α β : Type} {R S : α → β → Prop} : ∀ {as : List α} {bs : List β}, EachIs R as bs → (∀ a b, b ∈ bs → R a b → S a b) → EachIs S as bs
  | _, _, .nil, _ => .nil
  | _, _, .cons r t, h => .cons (h _ _ List.mem_cons_self r) (each_and t fun a b hb => h a b (List.mem_cons_of_mem _ hb))
/-- sorted(xs) of nested data, in order: the pairs are the items and what they read as -/
def rSortedD (K : PySem.W.Frag) : List V → Hp → VK → Prop := fun vs H Q => ∃ (a : Addr) (bs : List (V × PyData)), vs = [.ref a] ∧ SqL K H a (bs.map (·.1)) ∧ (∀ b ∈ bs, Dp K H b.1 b.2) ∧ AllAlike (bs.map (·.2)) ∧ Sortable (bs.map (·.2)) ∧ (∀ b ∈ bs, b.2.depth ≤ 32) ∧
  ∀ p, H p = none → Q (.ref p) (upd H p (.lst ((bs.mergeSort (dataLe false (·.2))).map (·.1))))
theorem cr_sortedD (hu : X.A.units + 64 < cLine) : CallR X (.builtin "sorted") (rSortedD X.K) := by
  intro pins s σ H vs us Q I r ⟨a, bs, ev, hs, hd, al, so, dp, q⟩
  subst ev
  obtain ⟨its, rv, hl, hz⟩ := I.list hs
  rw [Vals.ref1 r]
  have e := each_of (g := fun b : V × PyData => b.1) rv
  have hzb : bs.length ≤ sizeLine := by rw [List.length_map] at hz; exact hz
  refine sorted_data (R := fun v (b : V × PyData) => RelV b.1 v) (enc := fun b => b.2) hl.isList e (each_and e fun v b hb rr => Dp.reads I b.2 b.1 v (hd b hb) rr) al so hzb (fun b hb => by have := dp b hb; omega) fun out hol ho => ?_
  obtain ⟨ep, hat⟩ := PyProof.Rows.sortedAll_at s.heap its (List.toArray out)
  have hlen : ((bs.mergeSort (dataLe false (·.2))).map (·.1)).length ≤ sizeLine := by rw [List.length_map, (List.mergeSort_perm _ _).length_eq]; exact hzb
  exact ⟨.ref _, _, I.laid (t' := s.toks) (o := .lst ((bs.mergeSort (dataLe false (·.2))).map (·.1))) (fun _ _ => PyProof.Rows.sortedAll_old) (Nat.le_succ _) ⟨hlen, out, ep, vals_of_each ho, hat⟩, rfl, q _ (I.hok.fresh (Nat.le_succ _))⟩
theorem stay_all {K : PySem.W.Frag} {mg : Str → Option Value} {base : Heap} {h1 : Heap} (M : Mod K mg base) (hb : ∀ b o, base.get? b = some o → h1.get? b = some o) : Stay K mg fun h => Kp h1 h := by
  have up : ∀ h : Heap, Kp h1 h → ∀ b o, base.get? b = some o → h.get? b = some o := fun h q b o e => q b o (hb b o e)
  refine ⟨fun h h' q k b o e => k b o (q b o e), fun h q => M.kin.keeps (up h q), fun h q => M.glob.keeps (up h q), fun h q => ?_, fun h q => M.nolimit.keeps (up h q)⟩
  obtain ⟨mb, e1, e2⟩ := M.blt
  exact ⟨mb, e1.keeps (up h q), e2⟩
theorem alike_ints {β : Type} (g : β → Int) (bs : List β) : AllAlike (bs.map fun b => PyData.int (g b)) := by
  intro d hd d' hd'
  obtain ⟨b, _, rfl⟩ := List.mem_map.mp hd
  obtain ⟨b', _, rfl⟩ := List.mem_map.mp hd'
  rfl
theorem sortable_ints {β : Type} (g : β → Int) (bs : List β) : Sortable (bs.map fun b => PyData.int (g b)) := by
  refine .inr fun d hd => ?_
  obtain ⟨b, _, rfl⟩ := List.mem_map.mp hd
  exact ⟨(fun z => nomatch z), (fun _ z => nomatch z)⟩
end

/-! ### zip of a tuple and a list; a method that sums products over it, read plainly -/
section
open PyProof.Rows
abbrev zmH1 (h : Heap) (l1 : Addr) : Heap := h.push { cls := .type "tuple_iterator", data := .fields #[.ref l1, .int 0 0] }
abbrev zmH2 (h : Heap) (l1 l2 : Addr) : Heap := (zmH1 h l1).push { cls := .type "list_iterator", data := .fields #[.ref l2, .int 0 0] }
abbrev zmH3 (h : Heap) (l1 l2 : Addr) : Heap := (zmH2 h l1 l2).push { cls := .type "tuple", data := .seq #[.ref h.objs.size, .ref (zmH1 h l1).objs.size] }
abbrev zmH4 (h : Heap) (l1 l2 : Addr) : Heap := (zmH3 h l1 l2).push { cls := .type "tuple", data := .seq #[.none, .none] }
abbrev zmH5 (h : Heap) (l1 l2 : Addr) : Heap := (zmH4 h l1 l2).push { cls := .type "zip", data := .fields #[.none, .bool false, .bool false, .ref (zmH2 h l1 l2).objs.size, .ref (zmH3 h l1 l2).objs.size] }
theorem meets_zipTL (l1 l2 : Addr) (xs ys : Array Value) :
    Meets (Builtin.«zip.__new__» ⟨[.type "zip", .ref l1, .ref l2], []⟩) (fun _ R s => s.heap.IsTuple l1 xs ∧ s.heap.IsList l2 ys ∧ R (.ok (.ret (.ref (zmH4 s.heap l1 l2).objs.size))) { s with heap := zmH5 s.heap l1 l2 }) :=
  .of_wp fun prog w A R s h => by
    obtain ⟨hp, g, d, tk, os⟩ := s
    obtain ⟨q1, q2, h⟩ := h
    have f0 := sub_zip
    have a1 : Heap.IsTuple (Shared.heap ⟨hp, g, d, tk, os⟩) l1 xs := q1
    have a2 : Heap.IsList (Shared.heap ⟨hp.push { cls := .type "tuple_iterator", data := .fields #[.ref l1, .int 0 0] }, g, d, tk, os⟩) l2 ys := Heap.IsList.push q2 _
    wp_walk using wpAny_pyIter_tuple a1, wpAny_pyIter_list a2
    exact ⟨_, rfl, h⟩
variable {prog : Program} {w : World} {A : Around} {E : Value → Shared → Prop} {s : Shared}
theorem call_zipTL {l1 l2 : Addr} {xs ys : Array Value} {Q : Value → Shared → Prop} (q1 : s.heap.IsTuple l1 xs) (q2 : s.heap.IsList l2 ys)
    (h : ∀ h', IsZip h' (s.heap.objs.size + 4) (s.heap.objs.size + 2) (s.heap.objs.size + 3) .none → IsTupOf2 h' (s.heap.objs.size + 2) (.ref s.heap.objs.size) (.ref (s.heap.objs.size + 1)) → IsTupOf2 h' (s.heap.objs.size + 3) .none .none →
      h'.IsTupleIter s.heap.objs.size l1 0 → h'.IsListIter (s.heap.objs.size + 1) l2 0 → h'.objs.size = s.heap.objs.size + 5 → Kp s.heap h' → Q (.ref (s.heap.objs.size + 4)) { s with heap := h' }) :
    wpAny (model prog w) A (call (.type "zip") [.ref l1, .ref l2]) Q E s := by
  refine callType_new F.called_zip (by decide) (F.typeCall_zip_2 _ _) (F.newCall_zip_2 _ _) (fun obj => F.args_object_init_3 obj _ _) F.entry_zip_new (meets_zipTL l1 l2 xs ys) ⟨q1, q2, ?_⟩
  have z1 : (zmH1 s.heap l1).objs.size = s.heap.objs.size + 1 := Heap.size_push ..
  have z2 : (zmH2 s.heap l1 l2).objs.size = s.heap.objs.size + 2 := by rw [Heap.size_push, z1]
  have z3 : (zmH3 s.heap l1 l2).objs.size = s.heap.objs.size + 3 := by rw [Heap.size_push, z2]
  have z4 : (zmH4 s.heap l1 l2).objs.size = s.heap.objs.size + 4 := by rw [Heap.size_push, z3]
  have z5 : (zmH5 s.heap l1 l2).objs.size = s.heap.objs.size + 5 := by rw [Heap.size_push, z4]
  have g5 : (zmH5 s.heap l1 l2).get? (zmH4 s.heap l1 l2).objs.size = some _ := Heap.get?_push_size _ rfl
  have g4 : (zmH5 s.heap l1 l2).get? (zmH3 s.heap l1 l2).objs.size = some _ := Heap.get?_push_of_some _ (Heap.get?_push_size _ rfl)
  have g3 : (zmH5 s.heap l1 l2).get? (zmH2 s.heap l1 l2).objs.size = some _ := Heap.get?_push_of_some _ (Heap.get?_push_of_some _ (Heap.get?_push_size _ rfl))
  have g2 : (zmH5 s.heap l1 l2).get? (zmH1 s.heap l1).objs.size = some _ := Heap.get?_push_of_some _ (Heap.get?_push_of_some _ (Heap.get?_push_of_some _ (Heap.get?_push_size _ rfl)))
  have g1 : (zmH5 s.heap l1 l2).get? s.heap.objs.size = some _ := Heap.get?_push_of_some _ (Heap.get?_push_of_some _ (Heap.get?_push_of_some _ (Heap.get?_push_of_some _ (Heap.get?_push_size _ rfl))))
  show _ ∧ _
  rw [z2, z3, z4] at g5
  rw [z3] at g4
  rw [z1, z2] at g3
  rw [z1] at g2
  have hQ := h (zmH5 s.heap l1 l2) g5 g3 g4 ⟨_, g1, rfl, rfl⟩ ⟨_, g2, rfl, rfl⟩ z5 fun c o e => Heap.get?_push_of_some _ (Heap.get?_push_of_some _ (Heap.get?_push_of_some _ (Heap.get?_push_of_some _ (Heap.get?_push_of_some _ e))))
  rw [← z4] at hQ
  exact ⟨⟨_, Heap.get?_push_size _ rfl, rfl⟩, hQ⟩
/-- the cells of a zip over a tuple and a list, made now -/
theorem zip_sep {n : Nat} {l1 l2 : Addr} (a1 : l1 < n) (a2 : l2 < n) : ZipSep2 (n + 4) (n + 2) (n + 3) n (n + 1) [n, l1] [n + 1, l2] := by
  have nn : ∀ i j : Nat, i ≠ j → (n : Nat) + i ≠ n + j := fun i j q => by omega
  have ne1 : ∀ j : Nat, n + j ≠ l1 := fun j z => by
    have q : (l1 : Nat) < n := a1
    rw [← z] at q
    exact Nat.lt_irrefl _ (Nat.lt_of_le_of_lt (Nat.le_add_right _ _) q)
  have ne2 : ∀ j : Nat, n + j ≠ l2 := fun j z => by
    have q : (l2 : Nat) < n := a2
    rw [← z] at q
    exact Nat.lt_irrefl _ (Nat.lt_of_le_of_lt (Nat.le_add_right _ _) q)
  have m2 : ∀ {q r t : Addr}, q ≠ r → q ≠ t → q ∉ [r, t] := fun {q r t} z1 z2 z => by
    have z' : q = r ∨ q = t := by simpa using z
    rcases z' with z' | z'
    · exact z1 z'
    · exact z2 z'
  exact ⟨nn 2 4 (by decide), nn 3 4 (by decide), nn 2 3 (by decide), nn 2 0 (by decide), List.mem_cons_self, m2 (nn 4 0 (by decide)) (ne1 4), m2 (nn 3 0 (by decide)) (ne1 3), nn 2 1 (by decide), List.mem_cons_self, m2 (nn 4 1 (by decide)) (ne2 4), m2 (nn 3 1 (by decide)) (ne2 3),
    m2 (nn 0 1 (by decide)) (ne2 0), m2 (nn 1 0 (by decide)) (ne1 1)⟩
end

/-- the sum of the products, place by place, up to the shorter -/
def dotZ : List Int → List Int → Int
  | x :: xs, y :: ys => x * y + dotZ xs ys
  | _, _ => 0
theorem dot_take : ∀ (i : Nat) (xs ys : List Int) (x y : Int), xs[i]? = some x → ys[i]? = some y → dotZ (xs.take (i + 1)) (ys.take (i + 1)) = dotZ (xs.take i) (ys.take i) + x * y
  | 0, x0 :: xs, y0 :: ys, x, y, h1, h2 => by
    simp at h1 h2
    subst h1 h2
    simp [dotZ]
  | i + 1, x0 :: xs, y0 :: ys, x, y, h1, h2 => by
    have := dot_take i xs ys x y (by simpa using h1) (by simpa using h2)
    simp only [List.take_succ_cons, dotZ, this]
    omega
  | _, [], _, _, _, h1, _ => by simp at h1
  | _, _ :: _, [], _, _, _, h2 => by simp at h2
theorem dot_take_all (xs ys : List Int) (n : Nat) (h : n = min xs.length ys.length) : dotZ (xs.take n) (ys.take n) = dotZ xs ys := by
  subst h
  have go : ∀ (xs ys : List Int), dotZ (xs.take (min xs.length ys.length)) (ys.take (min xs.length ys.length)) = dotZ xs ys := by
    intro xs
    induction xs with
    | nil => intro ys; simp [dotZ]
    | cons x xs ih =>
      intro ys
      cases ys with
      | nil => simp [dotZ]
      | cons y ys =>
        have e : min (x :: xs).length (y :: ys).length = min xs.length ys.length + 1 := by simp only [List.length_cons]; omega
        rw [e]
        simp only [List.take_succ_cons, dotZ, ih]
  exact go xs ys
section
variable {P : Program} {w : World} {K : PySem.W.Frag} {mg : Str → Option Value} {Φ : Heap → Prop} {D U : Nat}
/-- def code(self, m): total = 0; for e, u in zip(m, self.units): total += e * u; return total -/
theorem pf_dot {x qual at_ vm vt ve vu : Str} {st : Stmt} {f a M L dx C : Addr} {fd : FuncData} {N ps : List Str} {p1 p2 p3 p4 p5 p6 p7 p8 p9 p10 p11 p12 p13 p14 p15 p16 p17 p18 p19 : Pos} {j1 kt : Nat} {vself : Str} {ms uss : List Int}
    (F : Fun K x qual st f fd) (S : FnScope N ps (defScope st)) (Sx : Stay K mg Φ) (hps : ps = [vself, vm])
    (hbody : defBody st = [.Assign [.Name vt p1] (.Constant (.int 0) j1 p2) p3,
      .For (.Tuple [.Name ve p4, .Name vu p5] kt p6) (.Call (.Name "zip" p7) [.Name vm p8, .Attribute (.Name vself p9) at_ p10] [] p11) [.AugAssign (.Name vt p12) .Add (.BinOp (.Name ve p13) .Mult (.Name vu p14) p15) p16] [] p17, .Return (some (.Name vt p18)) p19])
    (hk : ∀ y ∈ [vself, vm, vt, ve, vu], (defScope st).names.lookup y = some .local) (hnd : [vself, vm, vt, ve, vu].Nodup) (hz : (defScope st).names.lookup ("zip" : Str) = some .globalImplicit) (hmz : mg "zip" = none)
    (hdb : ∀ y ∈ [vself, vm, vt, ve, vu], (y == ("__debug__" : Str)) = false) (hD : D + 8 < recursionLimit) (hU : U + 64 < cLine)
    (cl : Cls K C) (na : NoAttr K C at_)
    (hself : ∀ h, Φ h → ∃ mA t, ObjM h a dx C mA ∧ mA at_ = some (.ref t) ∧ t = L)
    (hM : ∀ h, Φ h → ∃ its : List Value, h.IsTuple M its.toArray ∧ PyProof.Rows.IntsAre its ms) (hL : ∀ h, Φ h → ∃ its : List Value, h.IsList L its.toArray ∧ PyProof.Rows.IntsAre its uss)
    (hw : ∀ (i : Nat) (x y : Int), ms[i]? = some x → uss[i]? = some y → CMulW x y) : PuG P w Φ D U f fd ps [.ref a, .ref M] (fun y => ∃ t, y = .int (dotZ ms uss) t) := by
  intro A s args hbb h1 h2 h3 hφ
  obtain ⟨oc, od, kV, doc, pm, an, cdv, ct, osl, rfl, lk, hcd⟩ := F.ex
  have KX : K.In s.heap := Sx.kin _ hφ
  have lim : s.heap.NoLimit := Sx.lim _ hφ
  have hus : ([Value.ref a, Value.ref M] : List Value).length = ps.length := by rw [hps]; rfl
  have kd : ∀ y ∈ [vself, vm, vt, ve, vu], ∀ cenv : Env, cenv.scope = defScope st → cenv.kindOf y = some .local := fun y hy cenv e => by
    show cenv.scope.names.lookup y = _
    rw [e]
    exact hk y hy
  have hkind : ∀ y ∈ ps.zip [Value.ref a, Value.ref M], (defScope st).names.lookup y.1 = some .local ∨ ((defScope st).names.lookup y.1 = some .cell ∧ ((cellsFrom (s.heap.objs.size + 1) (defScope st).names []).lookup y.1).isSome = true) := fun ⟨n, v⟩ hy => by
    rcases S.par n (List.of_mem_zip hy).1 with q | q
    · exact .inl q
    · exact .inr ⟨q, PySem.W.cellsFrom_some _ _ _ (.inl q)⟩
  refine codeAny_call_function (by omega) (KX _ _ lk) rfl S.co S.gen rfl (PySem.W.codeRec_of KX hcd) (hbb _ _ _ _ ?_)
  refine wpAny_newFunctionEnv_cells S.kind hkind fun env hen s1 ic => ?_
  have hsc : env.scope = defScope st := by rw [hen]; rfl
  have hgl : env.globals = mainGlobals := by rw [hen]; rfl
  have hbl : env.builtins = builtinsNs := by rw [hen]; rfl
  have hloc : env.locals = s.heap.objs.size := by rw [hen]; rfl
  refine ⟨lim.keeps ic.toInCall.keep, codeAny_func ?_⟩
  obtain ⟨h1', tk, rfl, hkp⟩ := ic.done
  show wpAny _ _ (execs (defBody st) _) _ _ _
  rw [hbody]
  have m0 : (bindL env.kindOf (ps.zip [Value.ref a, Value.ref M]) fun _ => none) vself = some (.ref a) ∧ (bindL env.kindOf (ps.zip [Value.ref a, Value.ref M]) fun _ => none) vm = some (.ref M) := by
    have nd2 : ps.Nodup := by rw [hps]; exact hnd.sublist (by simp)
    exact ⟨bindL_get (i := 0) nd2 (by rw [hps]; rfl) rfl (kd _ (by simp) env hsc), bindL_get (i := 1) nd2 (by rw [hps]; rfl) rfl (kd _ (by simp) env hsc)⟩
  obtain ⟨m, hm⟩ : ∃ m : Str → Option Value, m = bindL env.kindOf (ps.zip [Value.ref a, Value.ref M]) fun _ => none := ⟨_, rfl⟩
  have hns : h1'.Ns env.locals m := by rw [hm]; exact ic.toInCall.ns
  rw [← hm] at m0
  have F0 : PyProof.Rows.Fr s.heap env.locals h1' m := ⟨hns, hkp, by rw [hloc]; exact Nat.le_refl _⟩
  have ck : (env.scope.kind == .class || (env.scope.kind == .module && env.locals != env.globals)) = false := by rw [hsc, S.kind]; rfl
  have ek : env.scope.kind = .function := by rw [hsc]; exact S.kind
  have ne : ∀ {y z : Str}, y ≠ z → (if z = y then (none : Option Value) else none) = none := fun _ => by split <;> rfl
  have nt : vself ≠ vt ∧ vm ≠ vt ∧ ve ≠ vt ∧ vu ≠ vt ∧ ve ≠ vu ∧ vself ≠ ve ∧ vself ≠ vu ∧ vm ≠ ve ∧ vm ≠ vu := by
    simp only [List.nodup_cons, List.mem_cons, not_or, List.not_mem_nil, not_false_eq_true, and_true, List.nodup_nil] at hnd
    exact ⟨hnd.1.2.1, hnd.2.1.1, fun z => hnd.2.2.1.1 z.symm, fun z => hnd.2.2.1.2 z.symm, hnd.2.2.2, hnd.1.2.2.1, hnd.1.2.2.2, hnd.2.1.2.1, hnd.2.1.2.2⟩
  -- total = 0
  refine wpAny_mono (Q := fun f s' => ∃ t, f = .ret (.int (dotZ ms uss) t) ∧ Keeps s s') (E := fun _ _ => False) ?_ (fun f s' q => ?_) (fun _ _ z => z.elim)
  case refine_2 =>
    obtain ⟨t, rfl, q⟩ := q
    exact ⟨⟨t, rfl⟩, q⟩
  refine wpAny_execs_cons (wpAny_Assign_Name (wpAny_Constant_int (wpAny_storeName_local (kd _ (by simp) env hsc) hns (fun h2 hn2 hs2 => ?_) ck)) rfl)
  have F2 := F0.set hn2 hs2
  have hφ2 : Φ h2 := Sx.up _ _ hφ F2.keep
  have hg2 : h2.Ns mainGlobals mg := Sx.glob _ hφ2
  obtain ⟨mb, b1, b2⟩ := Sx.blt _ hφ2
  have e0 : ∀ tk', ({ s with heap := h2, toks := tk' } : Shared).heap = h2 := fun _ => rfl
  refine wpAny_execs_cons (wpAny_mono (Q := fun f s' => f = .next ∧ ∃ h3 tk3 m3 t3, s' = { s with heap := h3, toks := tk3 } ∧ PyProof.Rows.Fr s.heap env.locals h3 m3 ∧ m3 vt = some (.int (dotZ ms uss) t3)) (E := fun _ _ => False) ?loop (fun f s' q => ?after) (fun _ _ z => z.elim))
  case after =>
    obtain ⟨rfl, h3, tk3, m3, t3, rfl, F3, hv3⟩ := q
    refine wpAny_execs_cons (wpAny_Return_some (wpAny_Name (wpAny_loadName_local ek (kd _ (by simp) env hsc) F3.ns hv3 ?_) (hdb _ (by simp))))
    exact ⟨t3, rfl, h3, tk3, rfl, F3.keep⟩
  case loop =>
    refine PySem.W.For_turns F2 ?_ (hE := PassesOwn.never)
    refine PyProof.Rows.Call_ (Calls.Name_function_global ek (by show env.scope.names.lookup _ = _; rw [hsc]; exact hz) (Calls.loadGlobal_builtin (by rw [hgl]; exact hg2) hmz (by rw [hbl]; exact b1) ((b2 _ (by decide)).trans PyProof.Rows.boot_zip) (PyProof.Rows.callWith_type1 ?_ rfl rfl)))
    show wpAny _ _ (spliced ((false, eval (.Name vm p8) env) :: backTo p11 (starEach [.Attribute (.Name vself p9) at_ p10] env))) _ _ _
    have n2 : ∀ y, y ≠ vt → (fun y => if y = vt then some (Value.int 0 s.toks) else m y) y = m y := fun y q => if_neg q
    refine Calls.spliced_cons (wpAny_Name (wpAny_loadName_local ek (kd _ (by simp) env hsc) hn2 (v := .ref M) ?v1 ?_) (hdb _ (by simp)))
    case v1 => first | exact (if_neg nt.2.1).trans m0.2 | simp [nt.2.1, m0.2]
    refine Calls.spliced_cons (attr_of rfl (wpAny_Name (wpAny_loadName_local ek (kd _ (by simp) env hsc) hn2 (v := .ref a) ?v2 ?_) (hdb _ (by simp))))
    case v2 => first | exact (if_neg nt.1).trans m0.1 | simp [nt.1, m0.1]
    obtain ⟨mA, tL, O, hmA, rfl⟩ := hself _ hφ2
    refine get_map (Sx.kin _ hφ2) O (cl.get _) cl.hd na hmA (handed_of (v := .ref tL) rfl) ?_
    refine Calls.spliced_nil ?_
    obtain ⟨itm, hitm, hims⟩ := hM _ hφ2
    obtain ⟨itl, hitl, hils⟩ := hL _ hφ2
    refine call_zipTL hitm hitl fun h4 z1 z2 z3 z4 z5 z6 k4 => wpAny_pyIter_zip z1 ?_
    have F4 : PyProof.Rows.Fr s.heap env.locals h4 _ := F2.keeps k4
    have lM : M < h2.objs.size := by obtain ⟨o, e, _⟩ := hitm; exact Heap.lt_size e
    have lL : tL < h2.objs.size := by obtain ⟨o, e, _⟩ := hitl; exact Heap.lt_size e
    have lenv : env.locals < h2.objs.size := F2.ns.lt
    have hge : ∀ j : Nat, s.heap.get? (h2.objs.size + j) = none := fun j => Heap.get?_none_of_le (Nat.le_trans F2.above (Nat.le_trans (Nat.le_of_lt lenv) (Nat.le_add_right _ j)))
    have hen4 : ∀ j : Nat, env.locals ≠ h2.objs.size + j := fun j z => by
      have q : (env.locals : Nat) < h2.objs.size := lenv
      rw [z] at q
      exact Nat.lt_irrefl _ (Nat.lt_of_le_of_lt (Nat.le_add_right _ _) q)
    have hnM : env.locals ≠ M := fun z => by
      obtain ⟨o, e1, e2, e3⟩ := hM _ hφ |>.choose_spec.1
      have q := Heap.lt_size e1
      rw [← z, hloc] at q
      exact Nat.lt_irrefl _ q
    have hnL : env.locals ≠ tL := fun z => by
      obtain ⟨o, e1, e2, e3⟩ := hL _ hφ |>.choose_spec.1
      have q := Heap.lt_size e1
      rw [← z, hloc] at q
      exact Nat.lt_irrefl _ q
    have W := PySem.W.KTurns.ofWalksU (elts := [.Name ve p4, .Name vu p5]) (k := kt) (pos := p6) (WalksT.zipD2 (prog := P) (w := w) (A := A.deeper env) (zip_sep lM lL) (Draws.tuple (A := (A.deeper env).in1) h1 _ _ (Nat.ne_of_lt lM) itm.toArray) (Draws.list (A := (A.deeper env).in1) h1 _ _ (Nat.ne_of_lt (Nat.lt_succ_of_lt lL)) itl.toArray)).toU
    refine ⟨h2.objs.size + 4, _, _, _, _, _, _, _, [], fun i m' n' => n' = [] ∧ ∃ t, m' vt = some (.int (dotZ (ms.take i) (uss.take i)) t), rfl, W, ?_, ?_, (fun _ hp => nomatch hp), ?_, F4, PyProof.Rows.News.nil, ⟨rfl, tk, ?_⟩, ?_, ?_⟩
    · intro hh
      have hh' : env.locals = h2.objs.size + 4 ∨ env.locals = h2.objs.size + 2 ∨ env.locals = h2.objs.size + 3 ∨ env.locals = h2.objs.size ∨ env.locals = M ∨ env.locals = h2.objs.size + 1 ∨ env.locals = tL := by simpa using hh
      rcases hh' with z | z | z | z | z | z | z
      · exact hen4 4 z
      · exact hen4 2 z
      · exact hen4 3 z
      · exact hen4 0 z
      · exact hnM z
      · exact hen4 1 z
      · exact hnL z
    · intro b hb'
      have hh' : b = h2.objs.size + 4 ∨ b = h2.objs.size + 3 ∨ b = h2.objs.size ∨ b = h2.objs.size + 1 := by simpa using hb'
      rcases hh' with z | z | z | z
      · rw [z]; exact hge 4
      · rw [z]; exact hge 3
      · rw [z]; exact hge 0
      · rw [z]; exact hge 1
    · exact ⟨z1, z2, ⟨_, _, z3⟩, ⟨z4, hitm.at fun o e => k4 _ o e⟩, ⟨z5, hitl.at fun o e => k4 _ o e⟩⟩
    · simp [dotZ]
    · rintro i v m1 n1 h5 tk5 own hi ⟨T, vals, rfl, ⟨x1, x2, hx1, hx2, rfl⟩, hT⟩ ⟨rfl, t1, hv1⟩ - hown1 hown2 hown3 st5 F5 N5
      have hx1' : itm[i]? = some x1 := by simpa using hx1
      have hx2' : itl[i]? = some x2 := by simpa using hx2
      have li : i < ms.length := by rw [← hims.length]; exact (List.getElem?_eq_some_iff.mp hx1').1
      have li2 : i < uss.length := by rw [← hils.length]; exact (List.getElem?_eq_some_iff.mp hx2').1
      obtain ⟨q1, e1⟩ := hims.get i _ (List.getElem?_eq_getElem li)
      obtain ⟨q2, e2⟩ := hils.get i _ (List.getElem?_eq_getElem li2)
      rw [hx1'] at e1
      rw [hx2'] at e2
      cases e1
      cases e2
      refine wpAny_assign_Tuple (s := { s with heap := h5, toks := tk5 }) h1 hT rfl rfl fun h6 hx6 => ?_
      have old6 : Kp h5 h6 := fun b o e => hx6 b o (Nat.ne_of_lt (Heap.lt_size e)) e
      have F6 := F5.keeps old6
      show wpAny _ _ (do holding [Value.int uss[i] q2] (assign (.Name ve p4) env (Value.int ms[i] q1)); do holding [] (assign (.Name vu p5) env (Value.int uss[i] q2)); pure ()) _ _ _
      refine wpAny_bind (wpAny_holding (wpAny_assign_Name (wpAny_storeName_local (kd _ (by simp) env hsc) F6.ns (fun h7 hn7 hs7 => ?_) ck)))
      have F7 := F6.set hn7 hs7
      refine wpAny_bind (wpAny_holding (wpAny_assign_Name (wpAny_storeName_local (kd _ (by simp) env hsc) hn7 (fun h8 hn8 hs8 => wpAny_pure ?_) ck)))
      have F8 := F7.set hn8 hs8
      have gv : ∀ (y : Str) (g : Str → Option Value), (fun x => if x = vu then some (Value.int uss[i] q2) else if x = ve then some (Value.int ms[i] q1) else g x) y = if y = vu then some (Value.int uss[i] q2) else if y = ve then some (Value.int ms[i] q1) else g y := fun _ _ => rfl
      refine wpAny_execs_cons (wpAny_AugAssign_Name (wpAny_loadName_local ek (kd _ (by simp) env hsc) hn8 (v := .int (dotZ (ms.take i) (uss.take i)) t1) ?w1 ?_))
      case w1 => simp [nt.2.2.1.symm, nt.2.2.2.1.symm, hv1]
      refine wpAny_BinOp (wpAny_Name (wpAny_loadName_local ek (kd _ (by simp) env hsc) hn8 (v := .int ms[i] q1) ?w2 ?_) (hdb _ (by simp)))
      case w2 => simp [nt.2.2.2.2.1]
      refine wpAny_Name (wpAny_loadName_local ek (kd _ (by simp) env hsc) hn8 (v := .int uss[i] q2) ?w3 ?_) (hdb _ (by simp))
      case w3 => simp
      refine PyProof.Rows.mul_int ?_ (hw i _ _ (List.getElem?_eq_getElem li) (List.getElem?_eq_getElem li2)).ok
      refine PyProof.Rows.iadd_int ?_
      refine wpAny_storeName_local (kd _ (by simp) env hsc) hn8 (fun h9 hn9 hs9 => ?_) ck
      have F9 := F8.set hn9 hs9
      refine wpAny_execs_nil ?_
      refine PyProof.Rows.LoopStepU.intro F9 (fun p hp => ?_) (fun p hp => absurd hp (by simp)) ⟨rfl, ?_⟩
      · have hp' : p ∈ own := by simpa using hp
        have q5 := N5 p (by simpa using hp')
        refine ⟨?_, q5.2⟩
        exact (hs9.2 _ q5.2.1).trans ((hs8.2 _ q5.2.1).trans ((hs7.2 _ q5.2.1).trans (old6 _ _ q5.1)))
      · apply Exists.intro
        rw [dot_take i ms uss _ _ (List.getElem?_eq_getElem li) (List.getElem?_eq_getElem li2)]
        exact if_pos rfl
    · rintro h5 tk5 m5 n5 F5 N5 - ⟨-, t5, hv5⟩
      refine ⟨rfl, h5, tk5, m5, t5, rfl, F5, ?_⟩
      rw [hv5]
      congr 2
      refine dot_take_all ms uss _ ?_
      rw [List.size_toArray, List.size_toArray, hims.length, hils.length]
end

/-! ### lambdas without parameters, made and called in one def -/
section
open PySem.Spec PyProof.Rows LamX NdefX
def LamO (f : Addr) (q : Str) (params : Arguments) (body : Expr) (scope : Scope) (cl : List (Str × Addr)) (c' : Addr) : HO :=
  .ext fun h => ∃ pm ctv, h.get? f = some (PySem.W.kla_obj "<lambda>" q params body scope cl pm c' ctv)
variable {X : Cx} {pins : List (Addr × Obj)} {σ : L2.St} {H : Hp} {s : Shared}
theorem inv_lam {q : Str} {params : Arguments} {body : Expr} {scope : Scope} {cl : List (Str × Addr)} {c' : Addr} {pm ctv : Value} {t' : Nat} (I : L2.Inv X pins σ H s) :
    L2.Inv X pins σ (upd H s.heap.objs.size (LamO s.heap.objs.size q params body scope cl c')) { s with heap := s.heap.push (PySem.W.kla_obj "<lambda>" q params body scope cl pm c' ctv), toks := t' } := by
  refine I.laid (a := s.heap.objs.size) (fun b u e => Heap.get?_push_of_some _ e) (Nat.le_refl _) ?_
  have e : (s.heap.push (PySem.W.kla_obj "<lambda>" q params body scope cl pm c' ctv)).get? s.heap.objs.size = some (PySem.W.kla_obj "<lambda>" q params body scope cl pm c' ctv) := Heap.get?_push_size _ rfl
  exact ⟨⟨pm, ctv, e⟩, ⟨_, e⟩, fun h1 h2 ⟨p, t, z⟩ st => ⟨p, t, st _ z⟩⟩
theorem lam_makeT {T : List (Addr × Str)} {c P : Addr} {params : Arguments} {body : Expr} {scope : Scope} {pos : Pos} {E : Value → Shared → Prop} {Q : Value → Shared → Prop} (I : L2.Inv X pins σ H s) (TB : TabB X.base X.mg c P) (hcode : X.env.code = .ref c)
    (hm : (P, X.env.qual ++ "<lambda>") ∈ T) (hu : ∀ p ∈ T, p.1 = P → p.2 = X.env.qual ++ "<lambda>") (hT : Tabs T H) (hdef : defaultsOf params X.env = ([], [])) (hfree : ∀ y ∈ scope.names, y.2 = .free → ∃ c, X.env.cells.lookup y.1 = some c)
    (h : ∀ (f c' : Addr) (H1 : Hp) (s' : Shared), L2.Inv X pins σ H1 s' → ExtN H H1 → (∀ b, H1 b = Option.none → H b = Option.none) → Tabs T H1 → H f = Option.none → H1 f = some (LamO f (X.env.qual ++ "<lambda>") params body scope (cloFrom X.env.cells scope.names []) c') → H1 c' = some (CodeO c' (X.env.qual ++ "<lambda>")) → (∀ b o, b ≠ P → H b = some o → H1 b = some o) → Q (.ref f) s') :
    wpAny (model X.prog X.w) X.A (eval (.Lambda params body scope pos) X.env) Q E s := by
  obtain ⟨ps, hP, ht, ha⟩ := hT _ hm
  refine PySem.W.kla_eval hdef ?_
  have bP : s.heap.BuiltinsAt X.mg P := TB.bm.keeps I.bk
  have hP' : s.heap.get? P = some { cls := .none, data := .fields ps } := I.hok P _ hP
  cases hc : codeAmong pos ps.toList with
  | none =>
    refine PySem.W.kla_makeFunction (mg := X.mg) (c := c) (P := P) (ps := ps) (closure_ok hfree) I.ok.glob (I.mod.glob.keeps I.bk) hcode (TB.code.keeps I.bk) hP' ht hc TB.gP bP fun c' ctv h' tk hx hge hlt hrec htb => ?_
    obtain ⟨c2, oc, vs, t, e2, hoc, hd, hv⟩ := hrec
    cases e2
    have nC : H c' = Option.none := I.hok.fresh hge
    have I1 := inv_table (t' := tk) (more := #[rawInt pos.line, rawInt pos.col, .ref c']) (h' := h') I hP (fun b o hb e => hx b o hb e) htb hge ⟨oc, vs, t, hoc, hd, hv⟩
    have hE : ExtN H (upd (upd H P (.tbl (ps ++ #[rawInt pos.line, rawInt pos.col, .ref c']))) c' (CodeO c' (X.env.qual ++ "<lambda>"))) := fun b o e n => by
      rw [upd_ne (ne_of_none e nC), upd_ne (fun z => n ps (Option.some.inj (e.symm.trans (by rw [z]; exact hP))))]
      exact e
    have eL : (ps ++ #[rawInt pos.line, rawInt pos.col, .ref c']).toList = ps.toList ++ [rawInt pos.line, rawInt pos.col, .ref c'] := by simp
    have T1 : Tabs T (upd (upd H P (.tbl (ps ++ #[rawInt pos.line, rawInt pos.col, .ref c']))) c' (CodeO c' (X.env.qual ++ "<lambda>"))) := fun p hp => by
      by_cases hb : p.1 = P
      · rw [hu p hp hb, hb]
        refine ⟨_, by rw [upd_ne (ne_of_none hP nC), upd_same], by rw [eL]; exact PySem.TriplesOk_snoc _ _ _ _ ht, fun p' cv hcv => ?_⟩
        rw [eL] at hcv
        rcases among_app _ ht hcv with z | z
        · obtain ⟨c0, e1, e2⟩ := ha p' cv z
          exact ⟨c0, e1, hE _ _ e2 codeO_ne⟩
        · exact ⟨c', z, upd_same⟩
      · obtain ⟨ps', a1, a2, a3⟩ := hT p hp
        refine ⟨ps', by rw [upd_ne (ne_of_none a1 nC), upd_ne hb]; exact a1, a2, fun p' cv hcv => ?_⟩
        obtain ⟨c0, e1, e2⟩ := a3 p' cv hcv
        exact ⟨c0, e1, hE _ _ e2 codeO_ne⟩
    have nF := I1.hok.fresh (Nat.le_refl _)
    have I2 := inv_lam (q := X.env.qual ++ "<lambda>") (params := params) (body := body) (scope := scope) (cl := cloFrom X.env.cells scope.names []) (c' := c') (pm := (X.mg "__name__").getD .none) (ctv := ctv) (t' := tk) I1
    refine h h'.objs.size c' _ _ I2 (fun b o e n => ?_) (fun b e => upd_none (upd_none (upd_none e))) (T1.ext fun b o e => ?_) (I.hok.fresh (Nat.le_trans hge (Nat.le_of_lt hlt))) upd_same ?_ (fun b o nb e => ?_)
    · have e1 := hE b o e n
      exact (upd_ne (ne_of_none e1 nF)).trans e1
    · exact (upd_ne (ne_of_none e nF)).trans e
    · exact (upd_ne (Nat.ne_of_lt hlt)).trans upd_same
    · have q1 : (upd (upd H P (.tbl (ps ++ #[rawInt pos.line, rawInt pos.col, .ref c']))) c' (CodeO c' (X.env.qual ++ "<lambda>"))) b = some o := by
        rw [upd_ne (ne_of_none e nC), upd_ne nb]
        exact e
      exact (upd_ne (ne_of_none q1 nF)).trans q1
  | some cv =>
    obtain ⟨c', e, hco⟩ := ha pos cv hc
    subst e
    refine PySem.W.kla_makeFunctionHit (mg := X.mg) (c := c) (P := P) (ps := ps) (closure_ok hfree) I.ok.glob (I.mod.glob.keeps I.bk) hcode (TB.code.keeps I.bk) hP' ht hc bP fun ctv h' tk hx hsz => ?_
    have I1 : L2.Inv X pins σ H { s with heap := h', toks := tk } := I.kept hx
    have nF : H h'.objs.size = Option.none := I1.hok.fresh (Nat.le_refl _)
    have I2 := inv_lam (q := X.env.qual ++ "<lambda>") (params := params) (body := body) (scope := scope) (cl := cloFrom X.env.cells scope.names []) (c' := c') (pm := (X.mg "__name__").getD .none) (ctv := ctv) (t' := tk) I1
    refine h h'.objs.size c' _ _ I2 (fun b o e n => ?_) (fun b e => upd_none e) (hT.ext fun b o e => ?_) nF upd_same ?_ (fun b o _ e => (upd_ne (ne_of_none e nF)).trans e)
    · exact (upd_ne (ne_of_none e nF)).trans e
    · exact (upd_ne (ne_of_none e nF)).trans e
    · exact (upd_ne (ne_of_none hco nF)).trans hco
/-- the reading of a lambda: a new function object, known with its code object -/
def tLam (T : List (Addr × Str)) (q : Str) (params : Arguments) (body : Expr) (scope : Scope) (cl : List (Str × Addr)) : TE := fun _ H Q =>
  Tabs T H ∧ ∀ (f c' : Addr) (H1 : Hp), ExtN H H1 → (∀ b, H1 b = Option.none → H b = Option.none) → Tabs T H1 → H f = Option.none → H1 f = some (LamO f q params body scope cl c') → H1 c' = some (CodeO c' q) → Q (.ref f) H1
theorem pe_lam {T : List (Addr × Str)} {c P : Addr} {params : Arguments} {body : Expr} {scope : Scope} {pos : Pos} (TB : TabB X.base X.mg c P) (hcode : X.env.code = .ref c) (hm : (P, X.env.qual ++ "<lambda>") ∈ T)
    (hu : ∀ p ∈ T, p.1 = P → p.2 = X.env.qual ++ "<lambda>") (L : LamS X.env.scope scope) (hdef : defaultsOf params X.env = ([], []) := by rfl) :
    PE X (.Lambda params body scope pos) (tLam T (X.env.qual ++ "<lambda>") params body scope (cloFrom X.env.cells scope.names [])) := by
  refine ⟨fun pins s σ H Q I h => ?_⟩
  obtain ⟨hT, h⟩ := h
  exact lam_makeT I TB hcode hm hu hT hdef (L.has I.ok) fun f c' H1 s' I1 eN nn T1 f0 f1 c1 _ => ⟨.ref f, H1, I1, rfl, h f c' H1 eN nn T1 f0 f1 c1⟩
/-- fe(), fe an expression that gives such a lambda of the very def -/
theorem pe_callLam {params : Arguments} {body : Expr} {scope : Scope} {k : Nat} {E : L2.St → XK} {tb : XK → TE} {fe : Expr} {tf : TE} {p2 : Pos} (L : LamS X.env.scope scope) (hf : PE X fe tf)
    (hbind : ∀ c' pm ctv, bindArgs (PySem.W.kla_fn "<lambda>" (X.env.qual ++ "<lambda>") params body scope (cloFrom X.env.cells scope.names []) pm (.ref c') ctv) ⟨[], []⟩ = pure [])
    (hx : ∀ σ, PassesAt (L2.CX X.prog X.w) X σ (E σ)) (hr : Room (k + 1) X.A)
    (hbody : ∀ (E0 : XK) (A : Around) (outer : List Env) (s : Shared) (H : Hp) (f c' : Addr), Room k (A.deeper (lamEnv X scope s.heap.objs.size f c')) → PE (lamCx X A outer s H E0 scope f c') body (tb E0))
    (he : eval (fe.Call [] [] p2) X.env = (do
      let f ← eval fe X.env
      callWith p2 f [] (backTo p2 (starEach [] X.env)) (backToKw p2 (keywordEach [] X.env))) := by rfl) :
    PE X (.Call fe [] [] p2) (fun σ H Q => tf σ H fun x H1 => ∃ f c', x = .ref f ∧ H1 f = some (LamO f (X.env.qual ++ "<lambda>") params body scope (cloFrom X.env.cells scope.names []) c') ∧ H1 c' = some (CodeO c' (X.env.qual ++ "<lambda>")) ∧ tb (E σ) σ H1 Q) := by
  refine ⟨fun pins s σ H Q I h => ?_⟩
  refine PyProof.Rows.Call_ (thn (hf.run pins s σ H _ I h) fun u s1 hh => ?_) he
  obtain ⟨x, H1, I1, r1, f, c', ex, ef, ec, ht⟩ := hh
  subst ex
  obtain rfl : u = Value.ref f := r1
  obtain ⟨⟨pm, ctv, of1⟩, _, _⟩ := I1.hok f _ ef
  refine PySem.W.callWith_F0 ⟨_, _, _, _, of1⟩ ?_
  obtain ⟨⟨oc, vs, t, hoc, hdc, hvc⟩, _, _⟩ := I1.hok c' _ ec
  have rc : codeAny (model X.prog X.w) X.A (.call (.ref f) ⟨[], []⟩) (CR (L2.CX X.prog X.w) X.stack X.prog X.w H1 s1 Q (E σ)) s1 := by
    refine PySem.W.kla_callFunE hr.depth of1 rfl L.co L.gen rfl ⟨c', oc, vs, t, rfl, hoc, hdc, hvc⟩ ?_
    rw [hbind]
    refine wpAny_pure (wpAny_newFunctionEnv (fun y hy => (L.own y hy).2) (fun y hy => absurd hy (by simp)) (fun h₁ hns hsb => ⟨I1.nolimit.fresh _ hsb, ?_⟩) L.kind)
    show codeAny _ _ (.expr body (lamEnv X scope s1.heap.objs.size f c')) _ _
    have kp : ∀ b o, s1.heap.get? b = some o → h₁.get? b = some o := fun b o e => hsb.extBut b o (Nat.ne_of_lt (Heap.lt_size e)) (Heap.get?_push_of_some _ e)
    have J : L2.Inv (lamCx X X.A X.stack s1 H1 (E σ) scope f c') [] σ H1 { s1 with heap := h₁, toks := s1.toks + ([] : List (Str × Value)).length } :=
      lam_start2 I1 L I1.env0 hr.hd Un.refl hns kp
    refine PySem.W.kla_codeExpr (wpAny_mono ((hbody (E σ) _ _ s1 H1 f c' (hr.deeper _)).run [] _ _ H1 Q J ht) (fun v s' hq => ?_) fun e s' hq => hq)
    obtain ⟨w', H', J', rv, q⟩ := hq
    exact ⟨w', H', J'.os, J'.bare, J'.base, J'.hok, rv, q⟩
  refine wpAny_call (codeAny_mono rc fun r s' hq => ?_)
  cases r with
  | error e => exact hx σ pins H1 s1 e s' I1 hq
  | ok fl =>
    cases fl with
    | ret u => exact I1.after hq
    | next => exact False.elim hq
    | brk => exact False.elim hq
    | cont => exact False.elim hq
end

/-! ### sorted(xs, key=lambda m: o.f(m)), o a captured name -/
section
open PySem.Spec PyProof.Rows LamX NdefX
variable {P : Program} {w : World} {K : PySem.W.Frag} {mg : Str → Option Value} {Φ : Heap → Prop} {cenv : Env} {m : Str → Option Value} {D U : Nat}
theorem pu_free {x : Str} {u : Value} {c : Addr} {pos : Pos} (ev : PuEnv cenv) (hx : cenv.scope.names.lookup x = some .free) (hc : cenv.cells.lookup x = some c) (hv : ∀ h, Φ h → h.IsCell c (some u)) (hn : (x == ("__classdict__" : Str)) = false := by decide)
    (hd : (x == ("__debug__" : Str)) = false := by decide) : PuE P w Φ cenv m D U (.Name x pos) (· = u) :=
  fun A E s _ _ _ hf _ => wpAny_Name (wpAny_loadName_free ev.kind (show cenv.scope.names.lookup x = some .free from hx) hc (hv _ hf) ⟨rfl, keeps0 s s.toks⟩ hn) hd
/-- o.f(args) -/
theorem pu_meth {o e : Expr} {es : List Expr} {at_ : Str} {apos pos : Pos} {pl : Sem Bool} {a C g : Addr} {R : Value → Prop} {Rs : List Value → Prop} (S : Stay K mg Φ) (ho : PuE P w Φ cenv m D U o (· = .ref a)) (cl : Cls K C) (hm : Meth K C at_ g)
    (hobj : ∀ h, Φ h → ∃ dx mA, ObjM h a dx C mA ∧ mA at_ = none) (ha : PuA P w Φ cenv m D U (e :: es) Rs) (hf : ∀ us, Rs us → PuF P w Φ D U g (.ref a :: us) R)
    (he : starEach (e :: es) cenv = (false, eval e cenv) :: starEach es cenv := by rfl) (hpl : (backTo pos (starEach es cenv)).any (·.1) = false := by rfl)
    (ht : eval (.Call (.Attribute o at_ apos) (e :: es) [] pos) cenv = (do
      let ov ← eval o cenv
      standAt apos.atName
      let (fv, first) ← holding [ov] (getMethod ov at_ pl)
      callWith pos fv first (backTo pos (starEach (e :: es) cenv)) (backToKw pos (keywordEach [] cenv))) := by rfl) :
    PuE P w Φ cenv m D U (.Call (.Attribute o at_ apos) (e :: es) [] pos) R := by
  intro A E s h1 h2 h3 hφ hn
  refine PySem.W.methodCall_KW (pl := pl) (wpAny_mono (ho A E s h1 h2 h3 hφ hn) (fun u s1 r => ?_) fun _ _ z => z) ht
  obtain ⟨rfl, k1⟩ := r
  have hφ1 := S.up _ _ hφ (keepsH k1)
  obtain ⟨dx, mA, O, hno⟩ := hobj _ hφ1
  refine get_meth (S.kin _ hφ1) O (cl.get at_) hm.at_ hm.fn hno ?_
  refine PySem.W.callWith_K (first := [.ref a]) (h₀ := s1.heap) (S.kin _ hφ1) hm.kp (wpAny_mono (ha pos A E s1 h1 h2 h3 hφ1 (hn.at' fun o e => keepsH k1 _ o e)) (fun us s2 r => ?_) fun _ _ z => z) he hpl
  have hφ2 := S.up _ _ hφ1 (keepsH r.2)
  refine ⟨S.kin _ hφ2, wpAny_call (codeAny_mono (hf us r.1 A s2 h1 h2 h3 hφ2) fun rr s3 q => ?_)⟩
  cases rr with
  | error e => exact False.elim q
  | ok fl =>
    cases fl with
    | ret u => exact ⟨q.1, keepsT k1 (keepsT r.2 q.2)⟩
    | next => exact False.elim q
    | brk => exact False.elim q
    | cont => exact False.elim q
/-- a lambda of one parameter -/
theorem pf_lam1 {f c' : Addr} {q x : Str} {params : Arguments} {body : Expr} {scope : Scope} {cl : List (Str × Addr)} {u : Value} {R : Value → Prop} (S : Stay K mg Φ)
    (hf : ∀ h, Φ h → ∃ pm ctv, h.get? f = some (PySem.W.kla_obj "<lambda>" q params body scope cl pm c' ctv)) (hc : ∀ h, Φ h → ∃ (oc : Obj) (vs : Array Value) (t : Tok), h.get? c' = some oc ∧ oc.data = .fields vs ∧ vs[1]? = some (.str q t))
    (hk : scope.kind = .function) (hco : scope.isCoroutine = false) (hgen : scope.isGenerator = false) (hcell : ∀ y ∈ scope.names, y.2 ≠ .cell) (hx : scope.names.lookup x = some .local)
    (hbind : ∀ pm ctv, bindArgs (PySem.W.kla_fn "<lambda>" q params body scope cl pm (.ref c') ctv) ⟨[u], []⟩ = pure [(x, u)]) (hD : D < recursionLimit)
    (he : ∀ env : Env, PuEnv env → env.scope = scope → env.cells = cl → PuE P w Φ env (fun y => ([(x, u)] : List (Str × Value)).reverse.lookup y) (D + 1) (U + 3) body R) : PuF P w Φ D U f [u] R := by
  intro A s h1 h2 h3 hφ
  obtain ⟨pm, ctv, of1⟩ := hf _ hφ
  obtain ⟨oc, vs, t, hoc, hdc, hvc⟩ := hc _ hφ
  refine PySem.W.kla_callFunE (Nat.lt_of_le_of_lt h2 hD) of1 rfl hco hgen rfl ⟨c', oc, vs, t, rfl, hoc, hdc, hvc⟩ ?_
  rw [hbind]
  refine wpAny_pure (wpAny_newFunctionEnv hcell (fun y hy => by rw [List.mem_singleton] at hy; subst hy; exact hx) (fun h₁ hns hsb => ⟨(S.lim _ hφ).fresh _ hsb, ?_⟩) hk)
  have kp : Kp s.heap h₁ := fun b o e => hsb.extBut b o (Nat.ne_of_lt (Heap.lt_size e)) (Heap.get?_push_of_some _ e)
  refine PySem.W.kla_codeExpr (wpAny_mono (he _ ⟨hk, rfl, rfl⟩ rfl rfl _ _ { s with heap := h₁, toks := s.toks + ([(x, u)] : List (Str × Value)).length } h1 (by show A.depth + 1 ≤ D + 1; omega) (by show A.units + 3 ≤ U + 3; omega) (S.up _ _ hφ kp) hns) (fun v s' hq => ?_) fun e s' hq => hq)
  exact ⟨hq.1, keepsT ⟨h₁, _, rfl, kp⟩ hq.2⟩
variable {X : Cx}
/-- the reading of a lambda: all but its def's table stays -/
def tLamF (Pt : Addr) (T : List (Addr × Str)) (q : Str) (params : Arguments) (body : Expr) (scope : Scope) (cl : List (Str × Addr)) : TE := fun _ H Q =>
  Tabs T H ∧ ∀ (f c' : Addr) (H1 : Hp), (∀ b o, b ≠ Pt → H b = some o → H1 b = some o) → ExtN H H1 → Tabs T H1 → H1 f = some (LamO f q params body scope cl c') → H1 c' = some (CodeO c' q) → Q (.ref f) H1
theorem pe_lamF {T : List (Addr × Str)} {c Pt : Addr} {params : Arguments} {body : Expr} {scope : Scope} {pos : Pos} (TB : TabB X.base X.mg c Pt) (hcode : X.env.code = .ref c) (hm : (Pt, X.env.qual ++ "<lambda>") ∈ T)
    (hu : ∀ p ∈ T, p.1 = Pt → p.2 = X.env.qual ++ "<lambda>") (hfree : ∀ y ∈ scope.names, y.2 = .free → X.env.kindOf y.1 = some .cell ∨ X.env.kindOf y.1 = some .free) (hdef : defaultsOf params X.env = ([], []) := by rfl) :
    PE X (.Lambda params body scope pos) (tLamF Pt T (X.env.qual ++ "<lambda>") params body scope (cloFrom X.env.cells scope.names [])) := by
  refine ⟨fun pins s σ H Q I ⟨hT, h⟩ => ?_⟩
  exact lam_makeT I TB hcode hm hu hT hdef (fun y hy e => I.ok.has _ (hfree y hy e)) fun f c' H1 s' I1 eN nn T1 f0 f1 c1 kb => ⟨.ref f, H1, I1, rfl, h f c' H1 kb eN T1 f1 c1⟩
/-- the key's plain promise, in any state that the call may see -/
def KeyF (X : Cx) (σ : L2.St) (H : Hp) (f : Addr) (bs : List (V × Int)) : Prop :=
  ∀ (Φ : Heap → Prop) (pins : List (Addr × Obj)) (t1 : Shared), Stay X.K X.mg Φ → L2.Inv X pins σ H t1 → (∀ h, Φ h → Kp t1.heap h) → ∀ b ∈ bs, ∀ u, RelV b.1 u → PuF X.prog X.w Φ X.A.depth (X.A.units + 2) f [u] (fun y => ∃ t, y = .int b.2 t)
def tSortF (X : Cx) (te tl : TE) : TE := fun σ H Q => tCons te tNil σ H fun vs H1 => tCons tl tNil σ H1 fun zs H2 => ∃ (a f : Addr) (bs : List (V × Int)), vs = [.ref a] ∧ zs = [.ref f] ∧ SqL X.K H2 a (bs.map (·.1)) ∧ KeyF X σ H2 f bs ∧
  ∀ p, H2 p = none → Q (.ref p) (upd H2 p (.lst ((bs.mergeSort (PySem.W.dataLe false fun b => .int b.2)).map (·.1))))
theorem pe_sortF {e fe : Expr} {te tl : TE} {p pos kpos : Pos} {k : Nat} (hr : Room k X.A) (hg : Gl X "sorted") (hm : X.mg "sorted" = none) (hv : bootBuiltins "sorted" = some (.builtin "sorted")) (he : PE X e te) (hl : PE X fe tl)
    (q0 : starEach [e] X.env = (false, eval e X.env) :: starEach [] X.env := by rfl)
    (q1 : backTo pos (starEach [e] X.env) = (false, eval e X.env) :: backTo pos (starEach [] X.env) := by rfl) (q2 : (backTo pos (starEach [e] X.env)).any (·.1) = false := by rfl)
    (q3 : (backToKw pos (keywordEach [⟨some "key", fe, kpos⟩] X.env)).all (·.1.isSome) = true := by rfl) (q4 : (backToKw pos (keywordEach [⟨some "key", fe, kpos⟩] X.env)).any (·.1.isNone) = false := by rfl)
    (q5 : (backToKw pos (keywordEach [⟨some "key", fe, kpos⟩] X.env)).filterMap (·.1) = [Str.ofString "key"] := by rfl) :
    PE X (.Call (.Name "sorted" p) [e] [⟨some "key", fe, kpos⟩] pos) (tSortF X te tl) := by
  refine ⟨fun pins s σ H Q I h => wpAny_Call_Name_kw (ld_blt I hg hm hv ?_)⟩
  have ha := pa_cons (X := X) he pa_nil q0
  have hk := pk_cons (X := X) (nm := some "key") (kpos := kpos) hl pk_nil
  refine PyProof.Rows.callWith_kw (thn (ha.run pos pins s σ H _ I h) fun us s1 ⟨vs, H1, I1, r1, h1⟩ => thn (hk.run pos pins s1 σ H1 _ I1 h1) fun ws s2 ⟨zs, H2, I2, r2, a, f, bs, ev, ez, hs, hf, q⟩ => ?_) q1 q2 q3 q4
  rw [q5]
  subst ev ez
  obtain rfl := Vals.ref1 r1
  obtain ⟨w1, rfl, e1⟩ := vals1 r2
  obtain rfl : w1 = Value.ref f := e1
  obtain ⟨its, rv, hli, hz⟩ := I2.list hs
  have e := each_of (g := fun b : V × Int => b.1) rv
  have hzb : bs.length ≤ sizeLine := by rw [List.length_map] at hz; exact hz
  have St := stay_all (h1 := s2.heap) I2.mod fun b o q => I2.bk b o q
  refine PySem.W.sorted_key_data (R := fun v (b : V × Int) => RelV b.1 v) (b := false) (f := .ref f) (kw := [(Str.ofString "key", .ref f)]) (fun b => .int b.2) hli.isList e (alike_ints _ bs) (sortable_ints _ bs) hzb (fun b hb => ?_) (PyProof.Rows.ksk_s1 _ _) (fun _ => PyProof.Rows.ksk_l1 _ _) (fun x => PyProof.Rows.ksk_t1 _ _) (fun v b rr hb h tk hk2 => ?_) fun out c h' tk hk2 hfr hat hol ho => ?_
  · have := hr.units
    show X.A.units + 2 + (PyData.int b.2).depth < cLine
    simp only [PyData.depth]
    omega
  · refine wpAny_call (codeAny_mono (hf _ pins s2 St I2 (fun h q => q) b hb v rr X.A.in1.in1 { s2 with heap := h, toks := tk } hr.hd (Nat.le_refl _) (Nat.le_refl _) hk2) fun rr s3 w1 => ?_)
    cases rr with
    | error e => exact False.elim w1
    | ok fl =>
      cases fl with
      | ret y =>
        obtain ⟨⟨t, rfl⟩, h2, tk2, e2, k2⟩ := w1
        exact ⟨h2, tk2, e2, k2, .int _ _⟩
      | next => exact False.elim w1
      | brk => exact False.elim w1
      | cont => exact False.elim w1
  · have hlen : ((bs.mergeSort (PySem.W.dataLe false fun b => .int b.2)).map (·.1)).length ≤ sizeLine := by rw [List.length_map, (List.mergeSort_perm _ _).length_eq]; exact hzb
    exact ⟨.ref _, _, I2.laid (t' := tk) (o := .lst ((bs.mergeSort (PySem.W.dataLe false fun b => .int b.2)).map (·.1))) hk2 (Nat.le_succ _) ⟨hlen, out, c, vals_of_each ho, hat⟩, rfl, q _ (I2.hok.fresh (Nat.le_succ _))⟩
end

/-! ### generator expressions whose element is read in full: the element may call, make and walk what it likes -/
section
open PySem.Spec PyProof.Rows GenW
/-- the context of a generator expression's element; B: the around of its frame -/
abbrev gxCx (X : Cx) (B : Around) (s : Shared) (H : Hp) (cenv : Env) (ys : List Str) (fp : List Addr) (pn : List (Addr × Obj)) : Cx :=
  { X with A := B, N := X.N ++ ys, s_0 := s, H_0 := H, env := cenv, outer := X.stack, stack := cenv :: X.stack, ex := fp, fn := fun _ => false, calm := true, pn := pn, xe := fun _ _ => False }
/-- the names of a generator expression's scope: its own are new, the others captured -/
structure GxOk (N : List Str) (sc scope : Scope) (own : List (Str × Nat)) : Prop where
  kind : scope.kind = .function
  co : scope.isCoroutine = false
  cell : ∀ y ∈ scope.names, y.2 ≠ .cell
  dot : scope.names.lookup (".0" : Str) = some NameKind.local
  free : ∀ y ∈ scope.names, y.2 = .free → sc.names.lookup y.1 = some .cell ∨ sc.names.lookup y.1 = some .free
  ix : ∀ p ∈ own, N[p.2]? = some p.1
  own : ∀ y ∈ scope.names, y.2 = .local → y.1 ∈ own.map (·.1) ∨ y.1 ∉ N
def gxC (N : List Str) (sc scope : Scope) (own : List (Str × Nat)) : Bool :=
  (match scope.kind with | .function => true | _ => false) && !scope.isCoroutine && decide (scope.names.lookup (".0" : Str) = some NameKind.local) && (own.all fun p => decide (N[p.2]? = some p.1)) &&
    (scope.names.all fun y => match y.2 with
      | .free => (match sc.names.lookup y.1 with | some .cell => true | some .free => true | _ => false)
      | .local => decide (y.1 ∈ own.map (·.1)) || decide (y.1 ∉ N)
      | .cell => false
      | _ => true)
theorem gxOk_by {N : List Str} {sc scope : Scope} {own : List (Str × Nat)} (h : gxC N sc scope own = true) : GxOk N sc scope own := by
  unfold gxC at h
  simp only [Bool.and_eq_true, List.all_eq_true, decide_eq_true_eq, Bool.not_eq_true'] at h
  obtain ⟨⟨⟨⟨h1, h2⟩, h3⟩, h5⟩, h4⟩ := h
  refine ⟨?_, h2, fun y hy e => ?_, h3, fun y hy e => ?_, h5, fun y hy e => ?_⟩
  · split at h1
    · assumption
    · cases h1
  · have q := h4 y hy
    simp only [e] at q
    cases q
  · have q := h4 y hy
    simp only [e] at q
    split at q <;> first | exact .inl (by assumption) | exact .inr (by assumption) | cases q
  · have q := h4 y hy
    simp only [e, Bool.or_eq_true, decide_eq_true_eq] at q
    exact q
variable {X : Cx} {pins : List (Addr × Obj)} {σ : L2.St} {H : Hp} {s : Shared}
theorem over_gen {A : Around} {elt : Expr} {gs : List Comprehension} {scope : Scope} {pos : Pos} {it acc : Value} {cenv : Env} : A.over (.compLoop (.GeneratorExp elt gs scope pos) 0 it acc cenv) [] = A.deeper cenv := by
  first
    | rfl
    | (obtain ⟨hd, d, fr, gs, u⟩ := A; simp [Around.over, Around.deeper, marksOver, frameCount, unitsOf, envsOf, guardsOf, pushEnvs, pushGuards, Code.envs, Code.env?, Code.isFrame, Code.guards, Code.isGuard, Code.weight, Code.frames, Code.isCreation, Code.isCaller, Code.cUnits])
theorem gx_start {scope : Scope} {ys : List Str} {fp : List Addr} {B : Around} {C a bi : Addr} {code : Value} {go : Obj} {m : Str → Option Value} {H' : Hp} {s' : Shared} {own : List (Str × Nat)} {vs : List Nat} (I : Inv X pins σ H s) (ok : GxOk X.N X.env.scope scope own) (hN : X.N.Nodup) (hvs : ∀ p ∈ own, p.2 ∈ vs)
    (hbi : bi = builtinsNs) (hB : B.handled = none) (hfr : B.frames = some (genEnv scope (cloFrom X.env.cells scope.names []) C code bi X.env :: X.stack)) (hfp : ∀ b ∈ fp, FpOk X pins H b ∧ b < s.heap.objs.size)
    (hos : s'.os = s.os) (hg : AllBare s'.gens) (un : Un (frs X.stack) fp H H' s.heap s'.heap) (hok : HOk X.prog X.w H' s'.heap) (hC : s.heap.objs.size ≤ C) (hCn : H' C = none) (hns : s'.heap.Ns C m)
    (ha : s'.heap.get? a = some go) (ha0 : s.heap.objs.size ≤ a) (haC : a ≠ C) (haN : H' a = none) (hgo : ∀ v, go.data ≠ .cell v) (hkc : ∀ c v, s.heap.IsCell c v → H c = none → c ∉ fp → s'.heap.IsCell c v) :
    Inv (gxCx X B s H (genEnv scope (cloFrom X.env.cells scope.names []) C code bi X.env) ys fp [(a, go)]) [] (wipe (σ ++ List.replicate ys.length none) vs) H' s' := by
  subst hbi
  have hfree : ∀ y ∈ scope.names, y.2 = .free → ∃ c, X.env.cells.lookup y.1 = some c := fun y hy e => by
    rcases ok.free y hy e with k | k
    · exact I.ok.has _ (.inl k)
    · exact I.ok.has _ (.inr k)
  have cm : ∀ {y c}, (y, c) ∈ cloFrom X.env.cells scope.names [] → X.env.cells.lookup y = some c ∧ c < s.heap.objs.size := fun {y c} hm => by
    rcases cloFrom_mem hm with hm | ⟨h1, rfl⟩
    · cases hm
    · obtain ⟨c, hc⟩ := hfree _ h1 rfl
      rw [hc]
      obtain ⟨w, z⟩ := I.cell _ _ hc
      exact ⟨rfl, z.lt⟩
  have look : ∀ {y}, scope.names.lookup y = some .free → ∃ c, (cloFrom X.env.cells scope.names []).lookup y = some c ∧ X.env.cells.lookup y = some c := fun {y} hl => by
    obtain ⟨c', e'⟩ := mem_lookup (cloFrom_has (cells := X.env.cells) (acc := []) (PySem.mem_of_lookup hl))
    exact ⟨c', e', (cm (PySem.mem_of_lookup e')).1⟩
  have cellK : ∀ {y c}, (cloFrom X.env.cells scope.names []).lookup y = some c → ∀ v, s.heap.IsCell c v → s'.heap.IsCell c v := fun {y c} e v z =>
    hkc c v z (I.freeC _ _ (cm (PySem.mem_of_lookup e)).1) fun hb => (hfp c hb).1.2.2.2.2.1 _ _ (cm (PySem.mem_of_lookup e)).1 rfl
  have okB : (gxCx X B s H (genEnv scope (cloFrom X.env.cells scope.names []) C code builtinsNs X.env) ys fp [(a, go)]).Ok := by
    refine ⟨I.ok.mod, ok.kind, I.ok.glob, rfl, hC, fun y z c e1 e2 => I.ok.inj y z c (cm (PySem.mem_of_lookup e1)).1 (cm (PySem.mem_of_lookup e2)).1, fun y hy => ?_, fun y c z e => absurd z (by simp), fun _ => hB, hfr, .inr ⟨rfl, rfl⟩,
      fun b hb => ⟨Nat.ne_of_lt (Nat.lt_of_lt_of_le (hfp b hb).2 hC), fun y c e z => (hfp b hb).1.2.2.2.2.1 y c (cm (PySem.mem_of_lookup e)).1 z⟩, I.bs, Nat.le_trans I.ok.bsz I.sz, fun b o e hb => ?_, fun b hb z => ?_, I.stack, I.stkFree⟩
    · rcases hy with hy | hy
      · exact absurd rfl (ok.cell _ (PySem.mem_of_lookup (show scope.names.lookup y = some .cell from hy)))
      · obtain ⟨c, h1, _⟩ := look (show scope.names.lookup y = some .free from hy)
        exact ⟨c, h1⟩
    · rcases (hfp b hb).1.2.2.2.1 with z | z
      · exact I.ok.noex b o e z
      · exact absurd (Nat.lt_of_lt_of_le (Heap.lt_size e) (Nat.le_trans I.ok.bsz z)) (Nat.lt_irrefl _)
    · rcases List.mem_cons.mp (I.stkSub b z) with z | z
      · exact (hfp b hb).1.2.1 z
      · exact (hfp b hb).1.2.2.1 z
  refine ⟨okB, hos, hg, un, ⟨m, hns, fun i y v e1 e2 e3 => ?_⟩, fun y c e => ?_, hCn, fun y c e => ?_, fun p hp => ?_, hok, ?_⟩
  · obtain ⟨e2, hiv⟩ := wipe_some e2
    have hi : i < σ.length := by
      by_cases hi : i < σ.length
      · exact hi
      · rw [List.getElem?_append_right (by omega), List.getElem?_replicate] at e2
        split at e2 <;> cases e2
    rw [List.getElem?_append_left hi] at e2
    have e1 : (X.N ++ ys)[i]? = some y := e1
    rw [List.getElem?_append_left (by rw [← I.len]; exact hi)] at e1
    have hfr' : scope.names.lookup y = some .free := by
      rcases (show Vis scope y from e3) with e | e | e
      · rcases ok.own _ (PySem.mem_of_lookup e) rfl with z | z
        · obtain ⟨p, hp, hpy⟩ := List.mem_map.mp z
          have e4 := ok.ix p hp
          rw [show p.1 = y from hpy] at e4
          rw [nodup_ix hN e1 e4] at hiv
          exact absurd (hvs p hp) hiv
        · exact absurd (List.mem_of_getElem? e1) z
      · exact absurd rfl (ok.cell _ (PySem.mem_of_lookup e))
      · exact e
    obtain ⟨m0, hn, hl⟩ := I.loc
    have hvis : Vis X.env.scope y := (ok.free _ (PySem.mem_of_lookup hfr') rfl).elim (fun k => .inr (.inl k)) (fun k => .inr (.inr k))
    obtain ⟨u, r, q⟩ := hl i y v e1 e2 hvis
    refine ⟨u, r, .inr ⟨.inr hfr', ?_⟩⟩
    obtain ⟨c, h1, h2⟩ := look hfr'
    rcases q with ⟨k, _⟩ | ⟨_, c', e', z⟩
    · have k : X.env.scope.names.lookup y = some .local := k
      rcases ok.free _ (PySem.mem_of_lookup hfr') rfl with k' | k' <;> rw [show X.env.scope.names.lookup y = _ from k'] at k <;> cases k
    · rw [h2] at e'
      cases e'
      exact ⟨c, h1, cellK h1 _ z⟩
  · obtain ⟨v, z⟩ := I.cell _ _ (cm (PySem.mem_of_lookup e)).1
    exact ⟨v, cellK e v z⟩
  · have h1 := (cm (PySem.mem_of_lookup e)).1
    obtain ⟨v, z⟩ := I.cell _ _ h1
    obtain ⟨oc, hoc, _⟩ := z
    exact un.free c oc hoc (I.freeC _ _ h1) fun hb => (hfp c hb).1.2.2.2.2.1 _ _ h1 rfl
  · have e : p = (a, go) := by
      have q : p ∈ [(a, go)] ++ ([] : List (Addr × Obj)) := hp
      simpa using q
    subst e
    refine ⟨ha, haN, haC, fun z => ?_, hgo⟩
    have := I.stack.mem z
    obtain ⟨_, o, ho, _⟩ := this
    exact absurd (Nat.lt_of_lt_of_le (Heap.lt_size ho) ha0) (Nat.lt_irrefl _)
  · show _ = (X.N ++ ys).length
    rw [wipe_length, List.length_append, List.length_append, List.length_replicate, I.len]
end
/-! the walk of a generator expression that hands out bools -/
section
open PySem.Spec PyProof.Rows GenW
/-- the end of the generator's run: nothing is left -/
def gxR (X' : Cx) (σ : L2.St) (Fi : Hp → Prop) : GenEnd := fun _ _ r s1 => r = .ok .next ∧ ∃ H', Inv X' [] σ H' s1 ∧ Fi H'
/-- a bool is handed out; c: the bool that stops the walk -/
def gxY (X' : Cx) (σ : L2.St) (c : Bool) (Fl : Hp → Prop) : Protocol := fun _ _ v s kap =>
  ∃ (b : Bool) (H' : Hp), v = .bool b ∧ Inv X' [] σ H' s ∧ (b = c → Fl H') ∧ (b = !c → ∀ s'' : Shared, s''.heap = s.heap → s''.os = s.os → AllBare s''.gens → kap (.send .none) s'')
/-- another state with the same heap -/
theorem inv_same {X' : Cx} {pins : List (Addr × Obj)} {σ : L2.St} {H : Hp} {s s' : Shared} (I : Inv X' pins σ H s) (h : s'.heap = s.heap) (o : s'.os = s.os) (g : AllBare s'.gens) : Inv X' pins σ H s' := by
  refine I.call' (ch := []) o ?_ (by rw [h]; exact I.hok) g (fun b z => absurd z (by simp))
  rw [h]
  exact Un.refl
/-- a turn of the walk: W by the turn and a measure -/
def GxTurn (J : It) (g : TG) (te : TE) (σ : L2.St) (vs : List Nat) (c : Bool) (Fi Fl : Hp → Prop) (W : Nat → Nat → Hp → Prop) : Prop := ∀ i m H, W i m H →
  (J.stop i H ∧ Fi H) ∨ (J.go i H ∧ ∃ Nx : Hp → Prop, (∀ H', Nx H' → ∃ m', m' < m ∧ W (i + 1) m' H') ∧ ∀ x H', J.yld i H x H' → g x σ H' fun σ2 H2 => wipe σ2 vs = σ ∧ te σ2 H2 fun y H3 => ∃ b, y = .bl b ∧ (b = c → Fl H3) ∧ (b = !c → Nx H3))
section
variable {X' : Cx} {B0 : Around} {σ : L2.St} {vs : List Nat} {c : Bool} {Fi Fl : Hp → Prop} {W : Nat → Nat → Hp → Prop} {elt tg iter : Expr} {scope : Scope} {pos : Pos} {it : Addr} {fp : List Addr} {tn : Nat → Heap → Prop} {J : It} {g : TG} {te : TE} {k : Nat}
theorem weak_wipe {vs : List Nat} {pins : List (Addr × Obj)} {σ2 : L2.St} {H : Hp} {s : Shared} (hl : σ.length = X'.N.length) (I : Inv X' pins σ2 H s) (h : wipe σ2 vs = σ) : Inv X' pins σ H s := by
  refine I.weak (hl.trans I.len.symm) fun j v e => ?_
  rw [← h] at e
  exact (wipe_some e).1
theorem seg_gx (hA : X'.A = B0.over (.compLoop (.GeneratorExp elt [⟨tg, iter, [], 0⟩] scope pos) 0 (.ref it) .none X'.env) []) (hco : X'.env.scope.isCoroutine = false) (hcalm : X'.calm = true) (hxe : X'.xe = fun _ _ => False) (hex : X'.ex = fp)
    (hpn : ∀ p ∈ X'.pn, ∀ b ∈ fp, p.1 ≠ b) (T : Turn X'.prog X'.w X'.K tg J fp it tn) (hg : PG X' tg g) (he : PE X' elt te) (hl : σ.length = X'.N.length) (turn : GxTurn J g te σ vs c Fi Fl W) :
    ∀ (n i m : Nat) (s₀ s : Shared) (H : Hp), m < n → Inv X' [] σ H s → tn i s.heap → (∀ b ∈ fp, H b = none) → W i m H →
      Seg (model X'.prog X'.w) B0 (gxR X' σ Fi) (gxY X' σ c Fl) n s₀ (.compLoop (.GeneratorExp elt [⟨tg, iter, [], 0⟩] scope pos) 0 (.ref it) .none X'.env)
        ((model X'.prog X'.w).den (.compLoop (.GeneratorExp elt [⟨tg, iter, [], 0⟩] scope pos) 0 (.ref it) .none X'.env)) [] s := by
  have stat : ∀ {σ' : L2.St} {H' : Hp} {s' : Shared}, Inv X' [] σ' H' s' → (∀ b ∈ fp, H' b = none) → ∀ b ∈ fp, FpOk X' [] H' b := fun {σ' H' s'} I' hn b hb => by
    have hb' : b ∈ X'.ex := by rw [hex]; exact hb
    exact ⟨hn b hb, (I'.ok.exf b hb').1, I'.ok.exfs b hb', .inl hb', fun x c e => (I'.ok.exf b hb').2 x c e, fun p hp => hpn p (by simpa using hp) b hb⟩
  have noE : ∀ {e : Value} {s : Shared} {G : Prop}, X'.xe e s → G := fun {e s G} h => by rw [hxe] at h; exact h.elim
  intro n
  induction n with
  | zero => intro i m s₀ s H hm; omega
  | succ n ih =>
    intro i m s₀ s H hm I st hn w
    show Seg _ B0 _ _ _ s₀ _ ((compTurn (.GeneratorExp elt [⟨tg, iter, [], 0⟩] scope pos) 0 (.ref it) .none X'.env).onRaise (leaving X'.env)) [] s
    rw [compTurn_gen, Sem.onRaise_eq_wrap]
    refine seg_bind_wrap (wpAny_standAt ?_)
    rcases turn i m H w with ⟨stop, fi⟩ | ⟨go, Nx, hNx, step⟩
    · have q := T.done X' rfl rfl rfl hcalm i [] s σ H (fun _ _ => False) I (stat I hn) st stop
      rw [hA] at q
      refine seg_bind_wrap (wpAny_mono q (fun r s6 h6 => ?_) fun _ _ e => e.elim)
      obtain ⟨hr, I6⟩ := h6
      subst hr
      exact seg_end (.ok .next) ⟨rfl, H, I6, fi⟩
    · have q := T.item X' rfl rfl rfl hcalm i [] s σ H (fun _ _ => False) I (stat I hn) st go
      rw [hA] at q
      refine seg_bind_wrap (wpAny_mono q (fun r s6 h6 => ?_) fun _ _ e => e.elim)
      obtain ⟨u, hr, h6⟩ := h6
      subst hr
      refine seg_bind_wrap (wpAny_mono h6 (fun _ s7 h7 => ?_) fun _ _ e => e.elim)
      obtain ⟨x, H7, I7, r7, y7, st7, n7⟩ := h7
      have I7' := I7.pinned (stat I7 n7) (T.obj _ _ st7)
      have q2 := hg.run _ s7 σ H7 x u _ I7' r7 (step x H7 y7)
      rw [hA] at q2
      refine seg_bind_wrap (wpAny_mono q2 (fun _ s8 h8 => ?_) fun _ _ e => noE e)
      obtain ⟨σ8, H8, I8, hw8, q8⟩ := h8
      refine seg_bind_wrap (wpAny_pure ?_)
      simp only [if_true]
      have hy : ∀ v, yieldOut X'.env v = yieldValue v := fun v => by simp only [yieldOut, hco, Bool.false_eq_true, if_false]
      simp only [hy]
      rw [Sem.bind_eq_wrap', Sem.bind_eq_wrap', Sem.wrap_wrap, Sem.wrap_wrap]
      have q3 := he.run _ s8 σ8 H8 _ I8 q8
      rw [hA] at q3
      refine seg_wrap (wpAny_mono q3 (fun z s10 h10 => ?_) fun _ _ e => noE e)
      obtain ⟨yv, H10, I10, r10, b, rfl, hfl, hnx⟩ := h10
      cases r10
      have pin' : ∀ b ∈ fp, ∀ o, s7.heap.get? b = some o → s10.heap.get? b = some o ∧ H10 b = none := fun b hb o e =>
        let z := I10.pin (b, o) (List.mem_append_right _ (List.mem_append_right _ (mem_pinsAt hb e)))
        ⟨z.1, z.2.1⟩
      have I11 : Inv X' [] σ H10 s10 := weak_wipe hl (I10.unpinned (pins := [])) hw8
      have n11 : ∀ b ∈ fp, H10 b = none := fun b hb => by
        obtain ⟨o, e, _⟩ := T.obj _ _ st7 b hb
        exact (pin' b hb o e).2
      have st11 : tn (i + 1) s10.heap := T.keep _ _ _ st7 fun b hb o e => (pin' b hb o e).1
      refine seg_at (seg_yield rfl rfl rfl ⟨b, H10, rfl, I11, hfl, fun hb s'' eh eo eb => ?_⟩)
      obtain ⟨m', hm', w'⟩ := hNx H10 (hnx hb)
      exact seg_again rfl (ih (i + 1) m' s'' s'' H10 (by omega) (inv_same I11 eh eo eb) (by rw [eh]; exact st11) n11 w')
end
end
section
open PySem.Spec PyProof.Rows GenW
section
variable {X' : Cx} {A : Around} {σ : L2.St} {c : Bool} {Fi Fl : Hp → Prop} {R : Result → Shared → Prop} {a : Addr} {g : Nat} {go : Obj}
/-- one draw -/
theorem gx_next (hh : A.handled = none) (hd : A.depth < recursionLimit) (hgen : ∀ h : Heap, h.get? a = some go → h.IsGen a g) {n : Nat} {s : Shared} {Q : Option Value → Shared → Prop} {E : Value → Shared → Prop} (hg : s.heap.IsGen a g) (hl : s.heap.NoLimit)
    (hpn : (a, go) ∈ X'.pn)
    (hgs : ∃ gs, s.gens[g]? = some gs ∧ gs.Goes (model X'.prog X'.w) A.in1 (gxR X' σ Fi) (gxY X' σ c Fl) n (.send .none) (s.setGen g .running))
    (hend : ∀ s' H', Inv X' [] σ H' s' → Fi H' → Q none s')
    (hstop : ∀ s' H', Inv X' [] σ H' s' → Fl H' → Q (some (.bool c)) s')
    (hgoes : ∀ s' H' m, n = m + 1 → Inv X' [] σ H' s' → (∃ gs, s'.gens[g]? = some gs ∧ gs.Goes (model X'.prog X'.w) A.in1 (gxR X' σ Fi) (gxY X' σ c Fl) m (.send .none) (s'.setGen g .running)) → Q (some (.bool (!c))) s') :
    wpAny (model X'.prog X'.w) A (pyNext (.ref a)) Q E s := by
  obtain ⟨gs, hgs, hgo⟩ := hgs
  have hgl : g < s.gens.size := (Array.getElem?_eq_some_iff.mp hgs).1
  refine wpAny_gsz (n := g + 1) hgl (wpAny_pyNext_genexpQ (P := fun _ _ s1 => ∃ H', Inv X' [] σ H' s1 ∧ Fi H') (Y := gxY X' σ c Fl) (n := n) hh hl hd hg hgs hgo (fun v s₁ gs' hbare hv => ?_) fun s₁ hp h' hk => ?_)
  · intro hsz
    obtain ⟨b, H', rfl, I, hfl, hkap⟩ := hv
    have hsz1 : g < s₁.gens.size := by
      have q : (s₁.setGen g gs').gens.size = s₁.gens.size := setGen_size _ _ _
      have hsz' : g + 1 ≤ (s₁.setGen g gs').gens.size := hsz
      omega
    have I2 : Inv X' [] σ H' (s₁.setGen g gs') := inv_same I rfl rfl (allBare_setGen I.bare hbare)
    by_cases hb : b = c
    · subst hb
      exact hstop _ H' I2 (hfl rfl)
    · have hb' : b = !c := by revert hb; cases b <;> cases c <;> decide
      subst hb'
      have hk := hkap rfl ((s₁.setGen g gs').setGen g .running) rfl rfl (allBare_setGen (allBare_setGen I.bare hbare) rfl)
      cases n with
      | zero => exact hk.elim
      | succ m => exact hgoes _ H' m rfl I2 ⟨gs', setGen_at hsz1, hk⟩
  · intro hsz
    obtain ⟨H', I, fi⟩ := hp
    refine hend _ H' (I.call' (ch := []) (s' := { s₁.setGen g .finished with heap := h' }) rfl (Un.kept hk) (I.hok.kept hk) (allBare_setGen I.bare rfl) fun b z => absurd z (by simp)) fi
theorem gx_all (hh : A.handled = none) (hd : A.depth < recursionLimit) (hgen : ∀ h : Heap, h.get? a = some go → h.IsGen a g) (hpn : (a, go) ∈ X'.pn) (hc : c = false)
    (hend : ∀ s' H', Inv X' [] σ H' s' → Fi H' → R (.ok (.ret (.bool true))) s') (hstop : ∀ s' H', Inv X' [] σ H' s' → Fl H' → R (.ok (.ret (.bool false))) s') :
    ∀ (n : Nat) (s : Shared), s.heap.IsGen a g → s.heap.NoLimit →
      (∃ gs, s.gens[g]? = some gs ∧ gs.Goes (model X'.prog X'.w) A.in1.in1 (gxR X' σ Fi) (gxY X' σ c Fl) n (.send .none) (s.setGen g .running)) →
      codeAny (model X'.prog X'.w) A (.builtin "all.loop" ⟨[.ref a], []⟩) R s := by
  subst hc
  have loop : ∀ (n : Nat) (s : Shared), s.heap.IsGen a g → s.heap.NoLimit →
      (∃ gs, s.gens[g]? = some gs ∧ gs.Goes (model X'.prog X'.w) A.in1.in1 (gxR X' σ Fi) (gxY X' σ false Fl) n (.send .none) (s.setGen g .running)) →
      (∀ s' H' m, n = m + 1 → Inv X' [] σ H' s' → (∃ gs, s'.gens[g]? = some gs ∧ gs.Goes (model X'.prog X'.w) A.in1.in1 (gxR X' σ Fi) (gxY X' σ false Fl) m (.send .none) (s'.setGen g .running)) → codeAny (model X'.prog X'.w) A (.builtin "all.loop" ⟨[.ref a], []⟩) R s') →
      codeAny (model X'.prog X'.w) A (.builtin "all.loop" ⟨[.ref a], []⟩) R s := by
    intro n s hg hl hgs hrec
    refine codeAny_builtin F.entry_all_loop ?_
    rw [Around.under_plainId F.plain_all_loop _]
    show wpAny _ A.in1 (pyNext (.ref a) >>= _) _ _ s
    refine wpAny_bind (gx_next (A := A.in1) hh hd hgen hg hl hpn hgs (fun s' H' I fi => ?_) (fun s' H' I fl => ?_) fun s' H' m hn I hgs' => ?_)
    · exact wpAny_bind (wpAny_rule (wpAny_pure (hend s' H' I fi)))
    · refine wpAny_bind (wpAny_holding (wpAny_truthy_bool ?_))
      refine wpAny_bind (wpAny_letGo ?_)
      simp only [Bool.false_eq_true, if_false]
      exact wpAny_bind (wpAny_rule (wpAny_pure (hstop s' H' I fl)))
    · refine wpAny_bind (wpAny_holding (wpAny_truthy_bool ?_))
      refine wpAny_bind (wpAny_letGo ?_)
      simp only [Bool.not_false, if_true]
      exact wpAny_pure ⟨plainId_quiet F.plain_all_loop _, hrec s' H' m hn I hgs'⟩
  intro n
  induction n with
  | zero => exact fun s hg hl hgs => loop 0 s hg hl hgs fun _ _ m hn => absurd hn (by omega)
  | succ n ih =>
    exact fun s hg hl hgs => loop (n + 1) s hg hl hgs fun s' H' m hn I hgs' => by
      obtain rfl : m = n := by omega
      exact ih s' (hgen _ (I.pin (a, go) (List.mem_append_left _ hpn)).1) I.nolimit hgs'
theorem gx_any (hh : A.handled = none) (hd : A.depth < recursionLimit) (hgen : ∀ h : Heap, h.get? a = some go → h.IsGen a g) (hpn : (a, go) ∈ X'.pn) (hc : c = true)
    (hend : ∀ s' H', Inv X' [] σ H' s' → Fi H' → R (.ok (.ret (.bool false))) s') (hstop : ∀ s' H', Inv X' [] σ H' s' → Fl H' → R (.ok (.ret (.bool true))) s') :
    ∀ (n : Nat) (s : Shared), s.heap.IsGen a g → s.heap.NoLimit →
      (∃ gs, s.gens[g]? = some gs ∧ gs.Goes (model X'.prog X'.w) A.in1.in1 (gxR X' σ Fi) (gxY X' σ c Fl) n (.send .none) (s.setGen g .running)) →
      codeAny (model X'.prog X'.w) A (.builtin "any.loop" ⟨[.ref a], []⟩) R s := by
  subst hc
  have loop : ∀ (n : Nat) (s : Shared), s.heap.IsGen a g → s.heap.NoLimit →
      (∃ gs, s.gens[g]? = some gs ∧ gs.Goes (model X'.prog X'.w) A.in1.in1 (gxR X' σ Fi) (gxY X' σ true Fl) n (.send .none) (s.setGen g .running)) →
      (∀ s' H' m, n = m + 1 → Inv X' [] σ H' s' → (∃ gs, s'.gens[g]? = some gs ∧ gs.Goes (model X'.prog X'.w) A.in1.in1 (gxR X' σ Fi) (gxY X' σ true Fl) m (.send .none) (s'.setGen g .running)) → codeAny (model X'.prog X'.w) A (.builtin "any.loop" ⟨[.ref a], []⟩) R s') →
      codeAny (model X'.prog X'.w) A (.builtin "any.loop" ⟨[.ref a], []⟩) R s := by
    intro n s hg hl hgs hrec
    refine codeAny_builtin F.entry_any_loop ?_
    rw [Around.under_plainId F.plain_any_loop _]
    show wpAny _ A.in1 (pyNext (.ref a) >>= _) _ _ s
    refine wpAny_bind (gx_next (A := A.in1) hh hd hgen hg hl hpn hgs (fun s' H' I fi => ?_) (fun s' H' I fl => ?_) fun s' H' m hn I hgs' => ?_)
    · exact wpAny_bind (wpAny_rule (wpAny_pure (hend s' H' I fi)))
    · refine wpAny_bind (wpAny_holding (wpAny_truthy_bool ?_))
      refine wpAny_bind (wpAny_letGo ?_)
      simp only [if_true]
      exact wpAny_bind (wpAny_rule (wpAny_pure (hstop s' H' I fl)))
    · refine wpAny_bind (wpAny_holding (wpAny_truthy_bool ?_))
      refine wpAny_bind (wpAny_letGo ?_)
      simp only [Bool.not_true, Bool.false_eq_true, if_false]
      exact wpAny_pure ⟨plainId_quiet F.plain_any_loop _, hrec s' H' m hn I hgs'⟩
  intro n
  induction n with
  | zero => exact fun s hg hl hgs => loop 0 s hg hl hgs fun _ _ m hn => absurd hn (by omega)
  | succ n ih =>
    exact fun s hg hl hgs => loop (n + 1) s hg hl hgs fun s' H' m hn I hgs' => by
      obtain rfl : m = n := by omega
      exact ih s' (hgen _ (I.pin (a, go) (List.mem_append_left _ hpn)).1) I.nolimit hgs'
end
end
section
open PySem.Spec PyProof.Rows GenW
section
variable {X : Cx} {pins : List (Addr × Obj)} {σ : L2.St} {H : Hp} {s : Shared}
theorem un_tab {fs ex : List Addr} {H : Hp} {T : Addr} {ps more : Array Value} {h h' : Heap} (hT : H T = some (.tbl ps)) (k : ∀ b o, b ≠ T → h.get? b = some o → h'.get? b = some o) (hm : ∃ o, h'.get? T = some o) :
    Un fs ex H (upd H T (.tbl (ps ++ more))) h h' := by
  have nN : ∀ b, H b = none → b ≠ T := fun b e z => by rw [z, hT] at e; cases e
  have nP : ∀ b u, H b = some u → (∀ q, u ≠ .tbl q) → b ≠ T := fun b u e q z => by
    rw [z, hT] at e
    exact q ps (Option.some.inj e).symm
  refine ⟨fun b o e n _ _ => k b o (nN b n) e, fun b o e n _ _ => ⟨o.slots, k b o (nN b n) e⟩, fun b o _ n _ => by rw [upd_ne (nN b n)]; exact n, fun b o e _ => ?_, fun b xs e => by rw [upd_ne (nP b _ e fun q z => by cases z)]; exact e, fun b o u e => by rw [upd_ne (nP b _ e fun q z => by cases z)]; exact e, fun b qs e => ?_⟩
  · by_cases hb : b = T
    · rw [hb]; exact hm
    · exact ⟨o, k b o hb e⟩
  · by_cases hb : b = T
    · rw [hb, hT] at e
      cases e
      rw [hb, upd_same]
      exact ⟨more, rfl⟩
    · rw [upd_ne hb, e]
      exact ⟨#[], by simp⟩
theorem gx_gen {c0 T : Addr} {elt tg iter : Expr} {gpos : Pos} {scope : Scope} {ys : List Str} {wi : TI} {g : TG} {te : TE} {k : Nat} {own : List (Str × Nat)} {vs : List Nat} {cb : Bool} {Fi Fl : Hp → Prop} {Q' : Value → Shared → Prop} (hN : X.N.Nodup) (hvs : ∀ p ∈ own, p.2 ∈ vs)
    (hr : Room (k + 2) X.A) (TB : GxR.TabB X.base X.mg c0 T) (hcode : X.env.code = .ref c0) (ok : GxOk X.N X.env.scope scope own) (hi : PI X tg iter wi)
    (hg : ∀ (B : Around) (s : Shared) (H : Hp) (C : Addr) (cl : List (Str × Addr)) (code : Value) (fp : List Addr) (pn : List (Addr × Obj)), Room k B → PG (gxCx X B s H (genEnv scope cl C code builtinsNs X.env) ys fp pn) tg g)
    (he : ∀ (B : Around) (s : Shared) (H : Hp) (C : Addr) (cl : List (Str × Addr)) (code : Value) (fp : List Addr) (pn : List (Addr × Obj)), Room k B → PE (gxCx X B s H (genEnv scope cl C code builtinsNs X.env) ys fp pn) elt te)
    (hs : ∀ v, genFold iter X.env v = pure v) (I : Inv X pins σ H s)
    (h : wi σ H fun J H1 => GxR.TabG H1 T ∧ ∀ H1', GxR.Tabbed T H1 H1' → ∃ W : Nat → Nat → Hp → Prop, (∃ m, W 0 m H1') ∧ GxTurn J g te (wipe (σ ++ List.replicate ys.length none) vs) vs cb Fi Fl W)
    (hQ' : ∀ (B : Around) (s2 : Shared) (H2 : Hp) (cenv : Env) (fp : List Addr) (a : Addr) (gn : Nat) (go : Obj) (n : Nat) (s5 : Shared), (∀ h : Heap, h.get? a = some go → h.IsGen a gn) → s5.heap.IsGen a gn → s5.heap.NoLimit →
      (∃ gs, s5.gens[gn]? = some gs ∧ gs.Goes (model X.prog X.w) X.A.in1.in1 (gxR (gxCx X B s2 H2 cenv ys fp [(a, go)]) (wipe (σ ++ List.replicate ys.length none) vs) Fi) (gxY (gxCx X B s2 H2 cenv ys fp [(a, go)]) (wipe (σ ++ List.replicate ys.length none) vs) cb Fl) n (.send .none) (s5.setGen gn .running)) →
      (∀ s' H', Inv (gxCx X B s2 H2 cenv ys fp [(a, go)]) [] (wipe (σ ++ List.replicate ys.length none) vs) H' s' → Inv X pins σ H' s') → Q' (.ref a) s5) :
    wpAny (model X.prog X.w) X.A (eval (.GeneratorExp elt [⟨tg, iter, [], 0⟩] scope gpos) X.env) Q' X.xe s := by
  have hfree : ∀ y ∈ scope.names, y.2 = .free → ∃ c, X.env.cells.lookup y.1 = some c := fun y hy e => by
    rcases ok.free y hy e with k | k
    · exact I.ok.has _ (.inl k)
    · exact I.ok.has _ (.inr k)
  refine wpAny_GeneratorExp_make ok.co (closure_ok hfree) ok.cell ok.dot ok.kind hr.depth ?_ hs
  refine thn (hi.run pins s σ H _ I h) fun xv t1 h1 => thn h1 fun itv s2 h2 => ?_
  obtain ⟨it, fp, tn, J, H2, rfl, I2, Tn, st2, f2, ⟨ps, hT, htri⟩, hq⟩ := h2
  refine ⟨I2.nolimit, ?_⟩
  have tT : s2.heap.get? T = some { cls := .none, data := .fields ps } := I2.hok T _ hT
  have lT : T < s2.heap.objs.size := Heap.lt_size tT
  have cd : PySem.W.CodeHd s2.heap c0 T := TB.code.keeps fun b u e => I2.bk b u e
  have szf : ∀ b ∈ fp, b < s2.heap.objs.size := fun b hb => by
    obtain ⟨o, e, _⟩ := Tn.obj _ _ st2 b hb
    exact Heap.lt_size e
  have run : ∀ (code : Value) (h3 : Heap) (tk : Nat) (ps' : Array Value), Heap.ExtBut T s2.heap h3 → s2.heap.objs.size ≤ h3.objs.size → h3.get? T = some { cls := .none, data := .fields ps' } → (∃ more, ps' = ps ++ more) → TriplesOk ps'.toList →
      wpAny (model X.prog X.w) X.A (builtinsFor X.env.globals X.env.builtins) (fun bi s₄ =>
        ∀ h', h'.Ns s₄.heap.objs.size (fun y => if y = ".0" then some (Value.ref it) else none) → Heap.SameBut s₄.heap.objs.size (s₄.heap.push { cls := .type "frame", data := .dict #[] }) h' →
          Q' (.ref h'.objs.size) { s₄ with
            gens := s₄.gens.push (.fresh (.compStart (.GeneratorExp elt [⟨tg, iter, [], 0⟩] scope gpos) 0 (.ref it) .none (genEnv scope (cloFrom X.env.cells scope.names []) s₄.heap.objs.size code bi X.env))),
            toks := s₄.toks + 1 + 1 + 1,
            heap := h'.push { cls := .type "generator", data := .fields #[.int s₄.gens.size 0, .str "<genexpr>" (s₄.toks + 1), .str (X.env.qual ++ "<genexpr>") (s₄.toks + 1 + 1)] } }) X.xe { s2 with heap := h3, toks := tk } := by
    intro code h3 tk ps' hx hsz hT3 hmore ht3
    obtain ⟨bm, ob, e1, e2, e3, e4, e5, e6, e7, e8⟩ := TB.bm
    have up3 : ∀ b u, b ≠ T → s2.heap.get? b = some u → h3.get? b = some u := fun b u hb e => hx b u hb e
    refine wpAny_builtinsFor (m := X.mg) (by rw [I2.ok.glob]; exact (I2.mod.glob.keeps I2.bk).extBut hx TB.gP) e1 e2 (up3 _ _ e4 (I2.bk _ _ e5)) e6 e7 e8 ?_
    intro h' hns hsb
    replace hns : h'.Ns h3.objs.size (fun y => if y = ".0" then some (Value.ref it) else none) := hns
    replace hsb : Heap.SameBut h3.objs.size (h3.push { cls := .type "frame", data := .dict #[] }) h' := hsb
    obtain ⟨more, rfl⟩ := hmore
    have hCa : (h3.objs.size : Nat) < h'.objs.size := hns.lt
    have up5 : ∀ b u, h3.get? b = some u → h'.get? b = some u := fun b u e => hsb.extBut b u (Nat.ne_of_lt (Heap.lt_size e)) (Heap.get?_push_of_some _ e)
    obtain ⟨go, hgo⟩ : ∃ go : Obj, go = { cls := .type "generator", data := .fields #[.int s2.gens.size 0, .str "<genexpr>" (tk + 1), .str (X.env.qual ++ "<genexpr>") (tk + 1 + 1)] } := ⟨_, rfl⟩
    have up : ∀ b u, b ≠ T → s2.heap.get? b = some u → (h'.push go).get? b = some u := fun b u hb e => Heap.get?_push_of_some _ (up5 b u (up3 b u hb e))
    have tT5 : (h'.push go).get? T = some { cls := .none, data := .fields (ps ++ more) } := Heap.get?_push_of_some _ (up5 _ _ hT3)
    have nT : ∀ b, H2 b = none → b ≠ T := fun b e z => by rw [z, hT] at e; cases e
    have nT' : ∀ b : Addr, s2.heap.objs.size ≤ b → b ≠ T := fun b hb z => by rw [z] at hb; exact Nat.lt_irrefl _ (Nat.lt_of_lt_of_le lT hb)
    have hgen : ∀ h : Heap, h.get? h'.objs.size = some go → h.IsGen h'.objs.size s2.gens.size := fun h e => ⟨go, _, _, e, by rw [hgo], by rw [hgo], by rw [hgo]⟩
    have hpush : (h'.push go).get? h'.objs.size = some go := Heap.get?_push_size _ (by rw [hgo]; rfl)
    have bare5 : AllBare (s2.gens.push (.fresh (.compStart (.GeneratorExp elt [⟨tg, iter, [], 0⟩] scope gpos) 0 (.ref it) .none (genEnv scope (cloFrom X.env.cells scope.names []) h3.objs.size code builtinsNs X.env)))) := AllBare.push I2.bare rfl
    have J5 := GxR.inv_tab (more := more) (h' := h'.push go) (g' := s2.gens.push (.fresh (.compStart (.GeneratorExp elt [⟨tg, iter, [], 0⟩] scope gpos) 0 (.ref it) .none (genEnv scope (cloFrom X.env.cells scope.names []) h3.objs.size code builtinsNs X.env)))) (d' := s2.drawn) (t' := tk + 1 + 1 + 1) I2 hT up tT5 bare5
    have un5 : Un (frs X.stack) fp H2 (upd H2 T (.tbl (ps ++ more))) s2.heap (h'.push go) := un_tab hT up ⟨_, tT5⟩
    obtain ⟨W, ⟨m0, w0⟩, turn⟩ := hq _ (⟨⟨ps ++ more, upd_same, ht3⟩, fun b hb => upd_ne hb⟩ : GxR.Tabbed T H2 (upd H2 T (.tbl (ps ++ more))))
    have hCn : upd H2 T (.tbl (ps ++ more)) h3.objs.size = none := by rw [upd_ne (nT' _ hsz)]; exact I2.hok.fresh hsz
    have han : upd H2 T (.tbl (ps ++ more)) h'.objs.size = none := by
      have q : (s2.heap.objs.size : Nat) ≤ h'.objs.size := Nat.le_of_lt (Nat.lt_of_le_of_lt hsz hCa)
      rw [upd_ne (nT' _ q)]; exact I2.hok.fresh q
    have hfr : (X.A.in1.in1.over (.compLoop (.GeneratorExp elt [⟨tg, iter, [], 0⟩] scope gpos) 0 (.ref it) .none (genEnv scope (cloFrom X.env.cells scope.names []) h3.objs.size code builtinsNs X.env)) []).frames = some (genEnv scope (cloFrom X.env.cells scope.names []) h3.objs.size code builtinsNs X.env :: X.stack) := by
      rw [over_gen]
      exact Around.frames_deeper I2.ok.frames
    have rB : Room k (X.A.in1.in1.over (.compLoop (.GeneratorExp elt [⟨tg, iter, [], 0⟩] scope gpos) 0 (.ref it) .none (genEnv scope (cloFrom X.env.cells scope.names []) h3.objs.size code builtinsNs X.env)) []) := by
      rw [over_gen]
      refine ⟨hr.hd, ?_, ?_⟩
      · have := hr.dp; show X.A.depth + 1 + 3 * k + 5 < _; omega
      · have := hr.un; show X.A.units + 1 + 1 + 3 + 16 * k + 200 < _; omega
    generalize hB : X.A.in1.in1.over (.compLoop (.GeneratorExp elt [⟨tg, iter, [], 0⟩] scope gpos) 0 (.ref it) .none (genEnv scope (cloFrom X.env.cells scope.names []) h3.objs.size code builtinsNs X.env)) [] = B at hfr rB
    have I5 := gx_start (ys := ys) (B := B) (C := h3.objs.size) (a := h'.objs.size) (code := code) (go := go) (H' := upd H2 T (.tbl (ps ++ more)))
      (s' := { s2 with gens := s2.gens.push (.fresh (.compStart (.GeneratorExp elt [⟨tg, iter, [], 0⟩] scope gpos) 0 (.ref it) .none (genEnv scope (cloFrom X.env.cells scope.names []) h3.objs.size code builtinsNs X.env))), toks := tk + 1 + 1 + 1, heap := h'.push go })
      I2 ok hN hvs (rfl : builtinsNs = builtinsNs) rB.hd hfr (fun b hb => ⟨f2 b hb, szf b hb⟩) rfl bare5 un5 J5.hok hsz hCn (hns.keeps fun b o e => Heap.get?_push_of_some _ e) hpush
      (Nat.le_of_lt (Nat.lt_of_le_of_lt hsz hCa)) (Nat.ne_of_gt hCa) han (fun v q => by rw [hgo] at q; cases q) fun c v z hn _ => by
        obtain ⟨oc, hoc, r⟩ := z
        exact ⟨oc, up c oc (nT c hn) hoc, r⟩
    have n5 : ∀ b ∈ fp, upd H2 T (.tbl (ps ++ more)) b = none := fun b hb => by rw [upd_ne (nT b (f2 b hb).1)]; exact (f2 b hb).1
    have st5 : tn 0 (h'.push go) := Tn.keep _ _ _ st2 fun b hb o e => up b o (nT b (f2 b hb).1) e
    have hgo' : ({ cls := .type "generator", data := .fields #[.int (s2.gens.size : Nat) 0, .str "<genexpr>" (tk + 1), .str (X.env.qual ++ "<genexpr>") (tk + 1 + 1)] } : Obj) = go := hgo.symm
    show Q' (.ref h'.objs.size) { s2 with gens := s2.gens.push (.fresh (.compStart (.GeneratorExp elt [⟨tg, iter, [], 0⟩] scope gpos) 0 (.ref it) .none (genEnv scope (cloFrom X.env.cells scope.names []) h3.objs.size code builtinsNs X.env))), toks := tk + 1 + 1 + 1, heap := h'.push { cls := .type "generator", data := .fields #[.int s2.gens.size 0, .str "<genexpr>" (tk + 1), .str (X.env.qual ++ "<genexpr>") (tk + 1 + 1)] } }
    rw [← hgo]
    refine hQ' B s2 H2 (genEnv scope (cloFrom X.env.cells scope.names []) h3.objs.size code builtinsNs X.env) fp h'.objs.size s2.gens.size go (m0 + 1) _ hgen (hgen _ hpush) J5.nolimit ⟨_, Array.getElem?_push_size .., rfl, ?_⟩ fun s' H' I' =>
      I2.call' (ch := fp) I'.os I'.base I'.hok I'.bare fun b hb => ⟨(f2 b hb).2.2.2.1, (f2 b hb).2.1, (f2 b hb).2.2.2.2.1, (f2 b hb).2.2.2.2.2⟩
    have loop : ∀ s6 : Shared, s6.heap = h'.push go → s6.os = s2.os → AllBare s6.gens → Seg (model X.prog X.w) X.A.in1.in1 _ _ (m0 + 1) s6 (.compLoop (.GeneratorExp elt [⟨tg, iter, [], 0⟩] scope gpos) 0 (.ref it) .none (genEnv scope (cloFrom X.env.cells scope.names []) h3.objs.size code builtinsNs X.env)) _ [] s6 := fun s6 q1 q2 q3 =>
      seg_gx (X' := gxCx X B s2 H2 (genEnv scope (cloFrom X.env.cells scope.names []) h3.objs.size code builtinsNs X.env) ys fp [(h'.objs.size, go)]) (B0 := X.A.in1.in1) hB.symm ok.co rfl rfl rfl
        (fun p hp b hb => by
          rw [List.mem_singleton.mp hp]
          exact Nat.ne_of_gt (Nat.lt_trans (Nat.lt_of_lt_of_le (szf b hb) hsz) hCa))
        Tn (hg B s2 H2 _ _ code fp _ rB) (he B s2 H2 _ _ code fp _ rB)
        (by show _ = (X.N ++ ys).length; rw [wipe_length, List.length_append, List.length_append, List.length_replicate, I2.len]) turn (m0 + 1) 0 m0 s6 s6 _ (Nat.lt_succ_self _) (inv_same I5 q1 q2 q3) (by rw [q1]; exact st5) n5 w0
    have lp := loop (Shared.setGen { s2 with gens := s2.gens.push (.fresh (.compStart (.GeneratorExp elt [⟨tg, iter, [], 0⟩] scope gpos) 0 (.ref it) .none (genEnv scope (cloFrom X.env.cells scope.names []) h3.objs.size code builtinsNs X.env))), toks := tk + 1 + 1 + 1, heap := h'.push go } s2.gens.size .running) rfl rfl (allBare_setGen bare5 rfl)
    show Seg _ X.A.in1.in1 _ _ _ _ _ ((compStart (.GeneratorExp elt [⟨tg, iter, [], 0⟩] scope gpos) 0 (.ref it) .none (genEnv scope (cloFrom X.env.cells scope.names []) h3.objs.size code builtinsNs X.env)).onRaise (leaving _)) [] _
    unfold compStart
    rw [Sem.onRaise_eq_wrap]
    show Seg _ X.A.in1.in1 _ _ _ _ _ ((ask >>= _).wrap _ _ _ _) [] _
    refine seg_bind_wrap (wpAny_askSetting ?_)
    split
    · exact seg_again rfl lp
    · first
        | exact seg_bind_wrap (wpAny_rule (seg_bind_wrap (wpAny_standAt (seg_bind_wrap (Tn.self _ 0 _ _ _ st5 (seg_again rfl lp))))))
        | (refine seg_bind_wrap (wpAny_rule ?_); show Seg _ X.A.in1.in1 _ _ _ _ _ ((standAt iter.pos >>= _).wrap _ _ _ _) [] _; exact seg_bind_wrap (wpAny_standAt (seg_bind_wrap (Tn.self _ 0 _ _ _ st5 (seg_again rfl lp)))))
  cases hf : codeAmong gpos ps.toList with
  | none =>
    refine wpAny_genexprCodeX hcode (cd.code tT htri) (cd.tab tT) hf fun c' h' tk hx hge hlt hco' _ htab' _ => ?_
    obtain ⟨_, _, _, _, _, _, _, _, _, _, _, _, _, _, _, _, _, _, _, htr, _⟩ := hco'
    exact run _ h' tk _ hx (Nat.le_trans hge (Nat.le_of_lt hlt)) htab'.2 ⟨_, rfl⟩ htr
  | some cv =>
    refine wpAny_genexprCode_hit hcode (cd.code tT htri) hf ?_
    exact run cv s2.heap s2.toks ps (Heap.ExtBut.refl _ _) (Nat.le_refl _) tT ⟨#[], by simp⟩ htri
end
end
section
open PySem.Spec PyProof.Rows GenW
/-- all(elt for tg in e), any(..): the element read in full; ny: how many names it has of its own; behind it the def's table may have grown -/
def tAllR (T : Addr) (wi : TI) (g : TG) (te : TE) (ny : Nat) (vs : List Nat) : TE := fun σ H Q => wi σ H fun J H1 => GxR.TabG H1 T ∧ ∀ H1', GxR.Tabbed T H1 H1' → ∃ W : Nat → Nat → Hp → Prop, (∃ m, W 0 m H1') ∧ GxTurn J g te (wipe (σ ++ List.replicate ny none) vs) vs false (fun H2 => Q (.bl true) H2) (fun H2 => Q (.bl false) H2) W
def tAnyR (T : Addr) (wi : TI) (g : TG) (te : TE) (ny : Nat) (vs : List Nat) : TE := fun σ H Q => wi σ H fun J H1 => GxR.TabG H1 T ∧ ∀ H1', GxR.Tabbed T H1 H1' → ∃ W : Nat → Nat → Hp → Prop, (∃ m, W 0 m H1') ∧ GxTurn J g te (wipe (σ ++ List.replicate ny none) vs) vs true (fun H2 => Q (.bl false) H2) (fun H2 => Q (.bl true) H2) W
section
variable {X : Cx}
theorem pe_allR {c0 T : Addr} {elt tg iter : Expr} {p pos gpos : Pos} {scope : Scope} {ys : List Str} {wi : TI} {g : TG} {te : TE} {k : Nat} {own : List (Str × Nat)} {vs : List Nat} (hN : X.N.Nodup) (hvs : ∀ p ∈ own, p.2 ∈ vs)
    (hr : Room (k + 2) X.A) (hgl : Gl X "all") (hm : X.mg "all" = none) (hb : bootBuiltins "all" = some (.builtin "all")) (TB : GxR.TabB X.base X.mg c0 T) (hcode : X.env.code = .ref c0) (ok : GxOk X.N X.env.scope scope own) (hi : PI X tg iter wi)
    (hg : ∀ (B : Around) (s : Shared) (H : Hp) (C : Addr) (cl : List (Str × Addr)) (code : Value) (fp : List Addr) (pn : List (Addr × Obj)), Room k B → PG (gxCx X B s H (genEnv scope cl C code builtinsNs X.env) ys fp pn) tg g)
    (he : ∀ (B : Around) (s : Shared) (H : Hp) (C : Addr) (cl : List (Str × Addr)) (code : Value) (fp : List Addr) (pn : List (Addr × Obj)), Room k B → PE (gxCx X B s H (genEnv scope cl C code builtinsNs X.env) ys fp pn) elt te)
    (hs : ∀ v, genFold iter X.env v = pure v)
    (hst : starEach [.GeneratorExp elt [⟨tg, iter, [], 0⟩] scope gpos] X.env = (false, eval (.GeneratorExp elt [⟨tg, iter, [], 0⟩] scope gpos) X.env) :: starEach [] X.env := by rfl) :
    PE X (.Call (.Name "all" p) [.GeneratorExp elt [⟨tg, iter, [], 0⟩] scope gpos] [] pos) (tAllR T wi g te ys.length vs) := by
  refine ⟨fun pins s σ H Q I h => wpAny_Call_Name_kw (ld_blt I hgl hm hb (PyProof.Rows.callWith_builtin1 ?_ hst (by rfl)))⟩
  rw [hst]
  show wpAny _ _ (spliced ((false, eval (.GeneratorExp elt [⟨tg, iter, [], 0⟩] scope gpos) X.env) :: backTo pos (starEach [] X.env))) _ _ s
  refine Calls.spliced_cons (gx_gen (cb := false) (Fi := fun H2 => Q (.bl true) H2) (Fl := fun H2 => Q (.bl false) H2) hN hvs hr TB hcode ok hi hg he hs I h fun B s2 H2 cenv fp a gn go n s5 hgen hig hlim hgs hback => ?_)
  refine Calls.spliced_nil ?_
  refine call_function_tree F.kind_all F.plain_all F.entry_all (F.args_all1 _) ?_
  unfold Builtin.«all»
  refine wpAny_bind (m := oneArg "all" _) (wpAny_pure ?_)
  refine wpAny_bind (wpAny_pyIter_gen hig ?_)
  refine wpAny_pure ⟨plainId_quiet F.plain_all_loop _, gx_all (X' := gxCx X B s2 H2 cenv ys fp [(a, go)]) (c := false) hr.hd hr.depth hgen (List.mem_singleton.mpr rfl) rfl (fun s' H' I' fi => ?_) (fun s' H' I' fl => ?_) n s5 hig hlim hgs⟩
  · exact ⟨.bl true, H', hback s' H' I', rfl, fi⟩
  · exact ⟨.bl false, H', hback s' H' I', rfl, fl⟩
theorem pe_anyR {c0 T : Addr} {elt tg iter : Expr} {p pos gpos : Pos} {scope : Scope} {ys : List Str} {wi : TI} {g : TG} {te : TE} {k : Nat} {own : List (Str × Nat)} {vs : List Nat} (hN : X.N.Nodup) (hvs : ∀ p ∈ own, p.2 ∈ vs)
    (hr : Room (k + 2) X.A) (hgl : Gl X "any") (hm : X.mg "any" = none) (hb : bootBuiltins "any" = some (.builtin "any")) (TB : GxR.TabB X.base X.mg c0 T) (hcode : X.env.code = .ref c0) (ok : GxOk X.N X.env.scope scope own) (hi : PI X tg iter wi)
    (hg : ∀ (B : Around) (s : Shared) (H : Hp) (C : Addr) (cl : List (Str × Addr)) (code : Value) (fp : List Addr) (pn : List (Addr × Obj)), Room k B → PG (gxCx X B s H (genEnv scope cl C code builtinsNs X.env) ys fp pn) tg g)
    (he : ∀ (B : Around) (s : Shared) (H : Hp) (C : Addr) (cl : List (Str × Addr)) (code : Value) (fp : List Addr) (pn : List (Addr × Obj)), Room k B → PE (gxCx X B s H (genEnv scope cl C code builtinsNs X.env) ys fp pn) elt te)
    (hs : ∀ v, genFold iter X.env v = pure v)
    (hst : starEach [.GeneratorExp elt [⟨tg, iter, [], 0⟩] scope gpos] X.env = (false, eval (.GeneratorExp elt [⟨tg, iter, [], 0⟩] scope gpos) X.env) :: starEach [] X.env := by rfl) :
    PE X (.Call (.Name "any" p) [.GeneratorExp elt [⟨tg, iter, [], 0⟩] scope gpos] [] pos) (tAnyR T wi g te ys.length vs) := by
  refine ⟨fun pins s σ H Q I h => wpAny_Call_Name_kw (ld_blt I hgl hm hb (PyProof.Rows.callWith_builtin1 ?_ hst (by rfl)))⟩
  rw [hst]
  show wpAny _ _ (spliced ((false, eval (.GeneratorExp elt [⟨tg, iter, [], 0⟩] scope gpos) X.env) :: backTo pos (starEach [] X.env))) _ _ s
  refine Calls.spliced_cons (gx_gen (cb := true) (Fi := fun H2 => Q (.bl false) H2) (Fl := fun H2 => Q (.bl true) H2) hN hvs hr TB hcode ok hi hg he hs I h fun B s2 H2 cenv fp a gn go n s5 hgen hig hlim hgs hback => ?_)
  refine Calls.spliced_nil ?_
  refine call_function_tree F.kind_any F.plain_any F.entry_any (F.args_any1 _) ?_
  unfold Builtin.«any»
  refine wpAny_bind (m := oneArg "any" _) (wpAny_pure ?_)
  refine wpAny_bind (wpAny_pyIter_gen hig ?_)
  refine wpAny_pure ⟨plainId_quiet F.plain_any_loop _, gx_any (X' := gxCx X B s2 H2 cenv ys fp [(a, go)]) (c := true) hr.hd hr.depth hgen (List.mem_singleton.mpr rfl) rfl (fun s' H' I' fi => ?_) (fun s' H' I' fl => ?_) n s5 hig hlim hgs⟩
  · exact ⟨.bl false, H', hback s' H' I', rfl, fi⟩
  · exact ⟨.bl true, H', hback s' H' I', rfl, fl⟩
end
end
/-! ### over a tuple, over a range -/
section
variable {K : PySem.W.Frag} {g : TG} {te : TE} {σ : L2.St} {vs : List Nat} {c : Bool} {Fi Fl : Hp → Prop} {H1 : Hp}
theorem gx_tup {a : Addr} {xs : List V} (Pv : Nat → Hp → Prop) (h0 : Pv 0 H1) (hl : ∀ i H, i ≤ xs.length → Pv i H → SqT K H a xs)
    (hs : ∀ i x H, xs[i]? = some x → Pv i H → g x σ H fun σ2 H2 => wipe σ2 vs = σ ∧ te σ2 H2 fun y H3 => ∃ b, y = .bl b ∧ (b = c → Fl H3) ∧ (b = !c → Pv (i + 1) H3)) (hd : ∀ H, Pv xs.length H → Fi H) :
    ∃ W : Nat → Nat → Hp → Prop, (∃ m, W 0 m H1) ∧ GxTurn (Itt K a) g te σ vs c Fi Fl W := by
  refine ⟨fun i m H => m = xs.length - i ∧ i ≤ xs.length ∧ Pv i H, ⟨xs.length, by simp, Nat.zero_le _, h0⟩, ?_⟩
  rintro i m H ⟨rfl, hi, p⟩
  have q := hl i H hi p
  by_cases hlt : i < xs.length
  · refine .inr ⟨⟨xs, xs[i], q, by simp [hlt]⟩, Pv (i + 1), fun H' p' => ⟨xs.length - (i + 1), by omega, rfl, hlt, p'⟩, fun x H' y => ?_⟩
    obtain ⟨e, y⟩ := y
    subst e
    exact hs i x _ (y xs q) p
  · have e : i = xs.length := by omega
    subst e
    exact .inl ⟨⟨xs, q, Nat.le_refl _⟩, hd H p⟩
theorem gx_range {lo : Int} {n : Nat} (Pv : Nat → Hp → Prop) (h0 : Pv 0 H1)
    (hs : ∀ i H, i < n → Pv i H → g (.int (lo + i)) σ H fun σ2 H2 => wipe σ2 vs = σ ∧ te σ2 H2 fun y H3 => ∃ b, y = .bl b ∧ (b = c → Fl H3) ∧ (b = !c → Pv (i + 1) H3)) (hd : ∀ H, Pv n H → Fi H) :
    ∃ W : Nat → Nat → Hp → Prop, (∃ m, W 0 m H1) ∧ GxTurn (Itr lo n) g te σ vs c Fi Fl W := by
  refine ⟨fun i m H => m = n - i ∧ i ≤ n ∧ Pv i H, ⟨n, by simp, Nat.zero_le _, h0⟩, ?_⟩
  rintro i m H ⟨rfl, hi, p⟩
  by_cases hlt : i < n
  · refine .inr ⟨hlt, Pv (i + 1), fun H' p' => ⟨n - (i + 1), by omega, rfl, hlt, p'⟩, fun x H' y => ?_⟩
    obtain ⟨e, y⟩ := y
    subst e y
    exact hs i _ hlt p
  · have e : i = n := by omega
    subst e
    exact .inl ⟨Nat.le_refl _, hd H p⟩
end

/-! ### sets of tuples of any depth (numbers at their ends) -/
section
open PySem.Spec PyProof.Rows PySem.Calls
variable {P : Program} {w : World} {A : Around} {E : Value → Shared → Prop} {s : Shared}
mutual
def numK : NestedKey → Bool
  | .none => true
  | .num _ => true
  | .text _ => false
  | .tup ks => numAll ks
def numAll : List NestedKey → Bool
  | [] => true
  | k :: ks => numK k && numAll ks
end
/-- no item of it is of a class by a class statement -/
def ClsAt (P : Program) (w : World) (n : Nat) (z : Shared) (v : Value) : Prop := ∀ (A : Around) (E : Value → Shared → Prop) (Q : Bool → Shared → Prop), Q false z → wpAny (model P w) A (ofAClassStatement n v) Q E z
def HbvAt (P : Program) (w : World) (n : Nat) (z : Shared) (v : Value) : Prop := ∀ (A : Around) (E : Value → Shared → Prop) (Q : Bool → Shared → Prop), Q true z → wpAny (model P w) A (hashByValue n v) Q E z
theorem ClsAt.tup {n : Nat} {z : Shared} {a : Addr} {o : Obj} {us : Array Value} {m : Nat} (e : z.heap.get? a = some o) (c : o.cls = .type "tuple") (d : o.data = .seq us m) (each : ∀ v ∈ us.toList, ClsAt P w n z v) : ClsAt P w (n + 1) z (.ref a) := fun A E Q q => by
  have ty : z.TypeIs (.ref a) "tuple" := ⟨o, e, c⟩
  unfold ofAClassStatement
  refine wpAny_bind (wpAny_typeOf ty ?_)
  dsimp only
  rw [if_pos (show (("tuple" : String) == "tuple") = true by decide)]
  refine wpAny_bind (wpAny_pure ?_)
  simp only [Bool.not_true, Bool.false_eq_true, if_false]
  show wpAny _ _ (seqItems? (.ref a) >>= _) _ _ z
  refine wpAny_bind (wpAny_seqItems e d ?_)
  show wpAny _ _ (forIn us _ _ >>= _) _ _ z
  rw [← Array.forIn_toList]
  refine wpAny_bind (wpAny_forIn_list _ (fun rest r z' => r.1 = none ∧ z' = z ∧ ∀ v ∈ rest, ClsAt P w n z v) _ ?_ ?_ _ _ ⟨rfl, rfl, each⟩)
  · rintro v rest r z' ⟨_, rfl, all⟩
    refine wpAny_bind (all v List.mem_cons_self _ _ _ ?_)
    simp only [Bool.false_eq_true, if_false]
    exact wpAny_pure ⟨rfl, rfl, fun u hu => all u (List.mem_cons_of_mem _ hu)⟩
  · rintro ⟨r1, r2⟩ z' ⟨hr, rfl, _⟩
    obtain rfl : r1 = none := hr
    exact wpAny_pure q
theorem HbvAt.tup {n : Nat} {z : Shared} {a : Addr} {o : Obj} {us : Array Value} {m : Nat} (e : z.heap.get? a = some o) (c : o.cls = .type "tuple") (d : o.data = .seq us m) (each : ∀ v ∈ us.toList, HbvAt P w n z v) : HbvAt P w (n + 1) z (.ref a) := fun A E Q q => by
  have ty : z.TypeIs (.ref a) "tuple" := ⟨o, e, c⟩
  unfold hashByValue
  refine wpAny_bind (wpAny_specialOf ty F.slot_tuple_hash.lookup ?_)
  show wpAny _ _ (seqItems? (.ref a) >>= _) _ _ z
  refine wpAny_bind (wpAny_seqItems e d ?_)
  show wpAny _ _ (forIn us _ _ >>= _) _ _ z
  rw [← Array.forIn_toList]
  refine wpAny_bind (wpAny_forIn_list _ (fun rest r z' => r.1 = none ∧ z' = z ∧ ∀ v ∈ rest, HbvAt P w n z v) _ ?_ ?_ _ _ ⟨rfl, rfl, each⟩)
  · rintro v rest r z' ⟨_, rfl, all⟩
    refine wpAny_bind (all v List.mem_cons_self _ _ _ ?_)
    simp only [Bool.not_true, Bool.false_eq_true, if_false]
    exact wpAny_pure ⟨rfl, rfl, fun u hu => all u (List.mem_cons_of_mem _ hu)⟩
  · rintro ⟨r1, r2⟩ z' ⟨hr, rfl, _⟩
    obtain rfl : r1 = none := hr
    exact wpAny_pure q
mutual
theorem cls_key : ∀ (k : NestedKey) (v : Value) (n : Nat) (z : Shared), NestedIs z.heap k v → k.depth ≤ n → ClsAt P w n z v
  | .none, _, n, z, x, _ => by cases x; exact fun A E Q q => by cases n <;> exact wpAny_pure q
  | .num _, _, n, z, x, _ => by cases x <;> exact fun A E Q q => by cases n <;> exact wpAny_pure q
  | .text _, _, n, z, x, _ => by cases x; exact fun A E Q q => by cases n <;> exact wpAny_pure q
  | .tup ks, _, n, z, x, le => by
    cases x with
    | tup g c d all =>
      simp only [NestedKey.depth] at le
      match n, le with
      | n + 1, le => exact .tup g c d (cls_keys ks _ n z all (by omega))
theorem cls_keys : ∀ (ks : List NestedKey) (vs : List Value) (n : Nat) (z : Shared), NestedAll z.heap ks vs → NestedKey.depthAll ks ≤ n → ∀ v ∈ vs, ClsAt P w n z v
  | [], _, n, z, x, _, v, hv => by cases x; cases hv
  | k :: ks, _, n, z, x, le, v, hv => by
    cases x with
    | cons a b =>
      simp only [NestedKey.depthAll] at le
      rcases List.mem_cons.mp hv with e | hv
      · exact e ▸ cls_key k _ n z a (by omega)
      · exact cls_keys ks _ n z b (by omega) v hv
end
mutual
theorem hbv_key : ∀ (k : NestedKey) (v : Value) (n : Nat) (z : Shared), NestedIs z.heap k v → k.depth ≤ n → numK k = true → HbvAt P w n z v
  | .none, _, n, z, x, _, _ => by cases x; exact fun A E Q q => by cases n <;> exact wpAny_pure q
  | .num _, _, n, z, x, _, _ => by cases x <;> exact fun A E Q q => by cases n <;> exact wpAny_pure q
  | .text _, _, n, z, x, _, h => by cases h
  | .tup ks, _, n, z, x, le, h => by
    cases x with
    | tup g c d all =>
      simp only [NestedKey.depth] at le
      match n, le with
      | n + 1, le => exact .tup g c d (hbv_keys ks _ n z all (by omega) h)
theorem hbv_keys : ∀ (ks : List NestedKey) (vs : List Value) (n : Nat) (z : Shared), NestedAll z.heap ks vs → NestedKey.depthAll ks ≤ n → numAll ks = true → ∀ v ∈ vs, HbvAt P w n z v
  | [], _, n, z, x, _, _, v, hv => by cases x; cases hv
  | k :: ks, _, n, z, x, le, h, v, hv => by
    cases x with
    | cons a b =>
      simp only [NestedKey.depthAll] at le
      simp only [numAll, Bool.and_eq_true] at h
      rcases List.mem_cons.mp hv with e | hv
      · exact e ▸ hbv_key k _ n z a (by omega) h.1
      · exact hbv_keys ks _ n z b (by omega) h.2 v hv
end
end

/-! ### the set's table -/
section
open PySem.Spec PyProof.Rows PySem.Calls
variable {P : Program} {w : World} {A : Around} {E : Value → Shared → Prop} {s : Shared}
/-- the tuple at a is the key k -/
def IsN (h : Heap) (k : NestedKey) (a : Addr) : Prop := NestedIs h k (.ref a) ∧ k.depth ≤ 8 ∧ numK k = true
theorem IsN.at {h h' : Heap} {k : NestedKey} {a : Addr} (x : IsN h k a) (keep : ∀ b o vs n, h.get? b = some o → o.data = .seq vs n → h'.get? b = some o) : IsN h' k a := ⟨NestedIs.at keep _ _ x.1, x.2⟩
theorem IsN.kp {h h' : Heap} {k : NestedKey} {a : Addr} (x : IsN h k a) (kp : Kp h h') : IsN h' k a := x.at fun b o _ _ e _ => kp b o e
theorem IsN.other {h h' : Heap} {k : NestedKey} {a S : Addr} {o : Obj} {es : Array (Int × Value)} {ep : Nat} {t : SetTable} (x : IsN h k a) (e : h.get? S = some o) (d : o.data = .set es ep t) (sb : Heap.SameBut S h h') : IsN h' k a := x.at fun b u vs n eb db => (sb.2 b fun z => by
  subst z
  cases e.symm.trans eb
  rw [d] at db
  cases db).trans eb
def hK (w : World) (k : NestedKey) : Int := k.hash w
def entsN (w : World) (L : List (Addr × NestedKey)) : List (Int × Value) := L.map fun p => (hK w p.2, Value.ref p.1)
def hsN (w : World) (L : List (Addr × NestedKey)) : List Int := L.map fun p => hK w p.2
structure SetN (w : World) (h : Heap) (S : Addr) (L : List (Addr × NestedKey)) (es : Array (Int × Value)) (ep : Nat) (t : SetTable) : Prop where
  obj : ∃ o, h.get? S = some o ∧ o.ExactSet ∧ o.data = .set es ep t
  ents : es.toList = entsN w L
  tab : TabOk t (hsN w L)
  nd : (L.map (·.2)).Nodup
  keys : ∀ p ∈ L, IsN h p.2 p.1
  plain : t.plain = true
  led : w.params.followText "set-order" = true ∨ t.led = true
  room : L.length * 5 < t.mask * 3
  few : L.length < 64
variable {S : Addr} {L : List (Addr × NestedKey)} {es : Array (Int × Value)} {ep : Nat} {t : SetTable}
theorem ents_len {L : List (Addr × NestedKey)} {es : Array (Int × Value)} (e : es.toList = entsN w L) : es.size = L.length := by
  have := congrArg List.length e
  unfold entsN at this
  rwa [Array.length_toList, List.length_map] at this
theorem ents_at {L : List (Addr × NestedKey)} {es : Array (Int × Value)} (e : es.toList = entsN w L) {i : Nat} {p : Addr × NestedKey} (hp : L[i]? = some p) : es[i]? = some (hK w p.2, Value.ref p.1) := by
  rw [← Array.getElem?_toList, e]
  unfold entsN
  rw [List.getElem?_map, hp]; rfl
theorem tab_fits {n : Nat} (T : TabOk t (hsN w L)) (hn : n = L.length) (room : L.length * 5 < t.mask * 3 ∨ L.length ≤ t.mask) : t.fits n = true := by
  have z := T.sz
  unfold hsN at z
  rw [List.length_map] at z
  unfold SetTable.fits SetTable.fill
  rw [T.dm, Bool.and_eq_true, beq_iff_eq, decide_eq_true_eq]
  show t.place.size = n ∧ t.place.size + 0 ≤ t.mask
  omega
/-- the place on the way of a hash, and the probe there -/
abbrev prb (m : Nat) (h : Int) (c : Nat) : SetTable.Probe := nth m (runAt m (SetTable.bits h % (m + 1)) (SetTable.bits h)) c
theorem prb_way (m : Nat) (h : Int) (c q : Nat) : (nth m (prb m h c) q).j = way m h (c + q) := congrArg SetTable.Probe.j (nth_add m c _ q).symm
theorem prb_plain (m : Nat) (h : Int) (c : Nat) : (prb m h c).dummy = none := by
  have gen : ∀ (n : Nat) (p : SetTable.Probe), p.dummy = none → (nth m p n).dummy = none := fun n => by
    induction n with
    | zero => exact fun p e => e
    | succ n ih => exact fun p e => ih (adv m p) (by unfold adv; split <;> exact e)
  exact gen c _ rfl
/-- what a probe meets: a candidate of the same hash, or the empty place -/
theorem probe_meets (R : SetN w s.heap S L es ep t) {h : Int} {K c : Nat} (lim : K < 10 * SetTable.turns t.mask) (free : way t.mask h K ∉ t.place.toList) (full : ∀ q, q < K → way t.mask h q ∈ t.place.toList) (le : c ≤ K) :
    (∃ (q i : Nat) (p : Addr × NestedKey), c + q < K ∧ L[i]? = some p ∧ hK w p.2 = h ∧ t.slot (way t.mask h (c + q)) = .live i ∧ (∀ (q' i' : Nat) (p' : Addr × NestedKey), q' < q → t.place.toList[i']? = some (way t.mask h (c + q')) → L[i']? = some p' → hK w p'.2 ≠ h) ∧
      t.place.toList[i]? = some (way t.mask h (c + q)) ∧ t.probe (fun i => (es[i]?.map (·.1)).getD 0) h (prb t.mask h c) = some (.candidate (way t.mask h (c + q)) i (prb t.mask h (c + (q + 1))))) ∨
    ((∀ (q i : Nat) (p : Addr × NestedKey), c + q < K → t.place.toList[i]? = some (way t.mask h (c + q)) → L[i]? = some p → hK w p.2 ≠ h) ∧ t.probe (fun i => (es[i]?.map (·.1)).getD 0) h (prb t.mask h c) = some (.empty (way t.mask h K) none)) := by
  have hat : ∀ (i : Nat) (p : Addr × NestedKey), L[i]? = some p → (es[i]?.map (·.1)).getD 0 = hK w p.2 := fun i p e => by rw [ents_at R.ents e]; rfl
  have spec := go_spec t R.tab.ris R.tab.dm (fun i => (es[i]?.map (·.1)).getD 0) h (10 * SetTable.turns t.mask) (K - c) (prb t.mask h c) (prb_plain _ _ _) (by omega)
    (fun q hq => by rw [prb_way]; exact full _ (by omega)) (by rw [prb_way, show c + (K - c) = K by omega]; exact free)
  rcases spec with ⟨q, i, hq, hi, he, no, pr⟩ | ⟨no, pr⟩
  · rw [prb_way] at hi
    have il : i < L.length := by
      have h1 := (List.getElem?_eq_some_iff.mp hi).1
      have h2 := R.tab.sz
      unfold hsN at h2
      rw [List.length_map] at h2
      rw [Array.length_toList] at h1
      omega
    have ip : L[i]? = some L[i] := List.getElem?_eq_getElem il
    refine .inl ⟨q, i, L[i], by omega, ip, (hat i _ ip).symm.trans he, slot_live R.tab.ris hi, fun q' i' p' lt e1 e2 => ?_, hi, ?_⟩
    · rw [← hat i' p' e2]
      exact no q' i' lt (by rw [prb_way]; exact e1)
    · rw [← prb_way, show prb t.mask h (c + (q + 1)) = nth t.mask (prb t.mask h c) (q + 1) from nth_add t.mask c _ (q + 1)]
      exact pr
  · refine .inr ⟨fun q i p lt e1 e2 => ?_, ?_⟩
    · rw [← hat i p e2]
      exact no q i (by omega) (by rw [prb_way]; exact e1)
    · rw [show way t.mask h K = (nth t.mask (prb t.mask h c) (K - c)).j by rw [prb_way, show c + (K - c) = K by omega]]
      exact pr
theorem seen_not {x : Addr} {k : NestedKey} {Q : Bool → Shared → Prop} (hx : IsN s.heap k x) {ys : List Value} (all : ∀ y ∈ ys, ∃ k' c, y = Value.ref c ∧ IsN s.heap k' c) (q : Q false s) : wpAny (model P w) A (searchCouldBeSeen (.ref x) ys) Q E s := by
  have quiet : ∀ {k' : NestedKey} {c : Addr}, IsN s.heap k' c → QuietAt P w 8 s (.ref c) := fun z => quiet_key _ _ 8 s z.1 z.2.1
  have cls : ∀ {k' : NestedKey} {c : Addr}, IsN s.heap k' c → ClsAt P w 8 s (.ref c) := fun z => cls_key _ _ 8 s z.1 z.2.1
  unfold searchCouldBeSeen
  refine wpAny_bind (wpAny_forIn_list _ (fun rest r z => r.1 = none ∧ z = s ∧ ∀ y ∈ rest, ∃ k' c, y = Value.ref c ∧ IsN s.heap k' c) _ ?_ ?_ _ _ ⟨rfl, rfl, all⟩)
  · rintro v rest r z ⟨_, rfl, hall⟩
    obtain ⟨k', c, rfl, hc⟩ := hall v List.mem_cons_self
    have more : ∀ y ∈ rest, ∃ k' c, y = Value.ref c ∧ IsN z.heap k' c := fun u hu => hall u (List.mem_cons_of_mem _ hu)
    dsimp only
    by_cases very : (x == c || (carriedByValue (.ref x) && carriedByValue (.ref c))) = true
    · exact wp_if_pos very (wpAny_pure ⟨rfl, rfl, more⟩)
    · refine wp_if_neg very (wpAny_bind (quiet hx _ _ _ ?_))
      simp only [Bool.not_true, Bool.false_eq_true, if_false]
      refine wpAny_bind (quiet hc _ _ _ ?_)
      simp only [Bool.not_true, Bool.false_eq_true, if_false]
      refine wpAny_bind (cls hx _ _ _ ?_)
      simp only [Bool.false_eq_true, if_false]
      refine wpAny_bind (cls hc _ _ _ ?_)
      simp only [Bool.false_eq_true, if_false]
      exact wpAny_pure ⟨rfl, rfl, more⟩
  · rintro ⟨r1, r2⟩ z ⟨hr, rfl, _⟩
    obtain rfl : r1 = none := hr
    exact wpAny_pure q
/-- the search from the c-th place of the way on -/
theorem search_on (R : SetN w s.heap S L es ep t) {x : Addr} {k : NestedKey} (hx : IsN s.heap k x) (hu : A.units + 8 < cLine) {K : Nat} (lim : K < 10 * SetTable.turns t.mask) (free : way t.mask (hK w k) K ∉ t.place.toList) (full : ∀ q, q < K → way t.mask (hK w k) q ∈ t.place.toList)
    {Q : SetFound → Shared → Prop} (got : k ∈ L.map (·.2) → Q (.there none) s) (new : k ∉ L.map (·.2) → Q (.free (way t.mask (hK w k) K) false) s) :
    ∀ (f c : Nat) (st : Option SetTable.Probe), st.getD (t.probeStart (hK w k)) = prb t.mask (hK w k) c → c ≤ K → K - c < f → (∀ (i : Nat) p, L[i]? = some p → p.2 = k → ∃ d, c ≤ d ∧ d < K ∧ t.place.toList[i]? = some (way t.mask (hK w k) d)) →
      wpAny (model P w) A (setSearchFrom S (.ref x) (hK w k) true f st) Q E s := by
  intro f
  obtain ⟨o, eo, ex, ed⟩ := R.obj
  have fits := tab_fits (n := es.size) R.tab (ents_len R.ents) (.inl R.room)
  induction f with
  | zero => exact fun c st _ _ lt _ => absurd lt (Nat.not_lt_zero _)
  | succ f ih =>
    intro c st est le lt ahead
    rw [setSearchFrom_succ]
    refine wpAny_bind (wpAny_setState_of eo ed fits ?_)
    dsimp only
    refine wp_if_neg (by unfold SetTable.gaveWay; rw [mask_odd R.tab.mok]; decide) ?_
    try refine wpAny_bind (wpAny_pure ?_)
    rw [est]
    rcases probe_meets R lim free full le with ⟨q, i, p, hq, hp, hh, live, before, pl, pr⟩ | ⟨none_, pr⟩
    · rw [pr]
      dsimp only
      have mem := List.mem_of_getElem? hp
      have rest : wpAny (model P w) A (searchRest S (.ref x) (hK w k) true f es t (way t.mask (hK w k) (c + q)) i (prb t.mask (hK w k) (c + (q + 1)))) Q E s := by
        unfold searchRest
        rw [ents_at R.ents hp]
        dsimp only
        refine wpAny_bind (wpAny_holding ((nestedKind P w).eqBool hu ⟨(R.keys p mem).1, (R.keys p mem).2.1⟩ ⟨hx.1, hx.2.1⟩ ?_))
        refine wpAny_bind (wpAny_setState_of eo ed fits ?_)
        dsimp only
        by_cases same : p.2 = k
        · exact wp_if_pos (by simp [same]) (wpAny_pure (got (List.mem_map.mpr ⟨p, mem, same⟩)))
        · refine wp_if_neg (by simp [same]) ?_
          try refine wpAny_bind (wpAny_pure ?_)
          rw [show t.sameMemory t.moves t.mask = some true from if_pos (beq_self_eq_true _)]
          dsimp only
          simp only [if_true, live, ents_at R.ents hp]
          refine wpAny_bind (wpAny_isSame_ref_self (wpAny_bind (wpAny_pure ?_)))
          simp only [if_true]
          refine wp_if_neg (by simp [same]) (ih (c + (q + 1)) _ rfl (by omega) (by omega) fun i' p' e1 e2 => ?_)
          obtain ⟨d, d1, d2, d3⟩ := ahead i' p' e1 e2
          refine ⟨d, ?_, d2, d3⟩
          rcases Nat.lt_trichotomy d (c + q) with z | z | z
          · exact absurd (congrArg (hK w) e2) (before (d - c) i' p' (by omega) (by rw [show c + (d - c) = d by omega]; exact d3) e1)
          · subst z
            have l2 := slot_live R.tab.ris d3
            rw [live] at l2
            injection l2 with l2
            rw [← l2, hp] at e1
            exact absurd ((congrArg Prod.snd (Option.some.inj e1)).trans e2) same
          · omega
      by_cases ld : t.led = true
      · refine wp_if_neg (by simp [ld]) ?_
        try refine wpAny_bind (wpAny_pure ?_)
        exact rest
      · refine wp_if_pos (by simp [ld]) (wpAny_bind (seen_not hx (fun y hy => ?_) ?_))
        · obtain ⟨e, he, rfl⟩ := List.mem_map.mp hy
          have he' : e ∈ es.toList := by
            have : e ∈ es ∧ e.1 = hK w k := by simpa using he
            simpa using this.1
          rw [R.ents] at he'
          obtain ⟨p', hp', rfl⟩ := List.mem_map.mp he'
          exact ⟨p'.2, p'.1, rfl, R.keys p' hp'⟩
        · refine wp_if_neg (by decide) ?_
          try refine wpAny_bind (wpAny_pure ?_)
          exact rest
    · rw [pr]
      dsimp only
      refine wpAny_pure (new fun hm => ?_)
      obtain ⟨p', hp', e2⟩ := List.mem_map.mp hm
      obtain ⟨i', hi', ei⟩ := List.getElem_of_mem hp'
      have e1 : L[i']? = some p' := by rw [List.getElem?_eq_getElem hi', ei]
      obtain ⟨d, d1, d2, d3⟩ := ahead i' p' e1 e2
      exact none_ (d - c) i' p' (by omega) (by rw [show c + (d - c) = d by omega]; exact d3) e1 (congrArg (hK w) e2)
theorem search_all (R : SetN w s.heap S L es ep t) {x : Addr} {k : NestedKey} (hx : IsN s.heap k x) (hu : A.units + 8 < cLine) {Q : SetFound → Shared → Prop} (got : k ∈ L.map (·.2) → Q (.there none) s)
    (new : ∀ K, k ∉ L.map (·.2) → way t.mask (hK w k) K ∉ t.place.toList → (∀ q, q < K → way t.mask (hK w k) q ∈ t.place.toList) → Q (.free (way t.mask (hK w k) K) false) s) : wpAny (model P w) A (setSearch S (.ref x) (hK w k) true) Q E s := by
  have hl : (hsN w L).length = L.length := List.length_map ..
  have room := R.room
  obtain ⟨K, lim, free, full⟩ := R.tab.first (by omega) (hK w k)
  have small : 10 * SetTable.turns t.mask ≤ 1420 := by
    unfold SetTable.turns
    rcases R.tab.mok with e | e | e <;> omega
  unfold setSearch
  refine search_on R hx hu lim free full got (fun n => new K n free full) 100000 0 none rfl (Nat.zero_le _) (by omega) fun i p hp ek => ?_
  have il : i < t.place.toList.length := by
    have h1 := (List.getElem?_eq_some_iff.mp hp).1
    have h2 := R.tab.sz
    rw [Array.length_toList]
    omega
  obtain ⟨d, d1, d2⟩ := R.tab.before (h := hK w k) (i := i) free (by unfold hsN; rw [List.getElem?_map, hp, ← ek]; rfl) (List.getElem?_eq_getElem il)
  exact ⟨d, Nat.zero_le _, d1, by rw [List.getElem?_eq_getElem il, d2]⟩
end

/-! ### adding to the set; set(xs) -/
section
open PySem.Spec PyProof.Rows PySem.Calls
variable {P : Program} {w : World} {A : Around} {E : Value → Shared → Prop} {s : Shared} {S : Addr} {L : List (Addr × NestedKey)} {es : Array (Int × Value)} {ep : Nat} {t : SetTable}
def atN (L : List (Addr × NestedKey)) (i : Nat) : Addr × NestedKey := L.getD i (0, .none)
theorem atN_get {L : List (Addr × NestedKey)} {i : Nat} (h : i < L.length) : L[i]? = some (atN L i) := by
  unfold atN
  rw [List.getD_eq_getElem?_getD, List.getElem?_eq_getElem h]; rfl
theorem atN_all (L : List (Addr × NestedKey)) : (List.range L.length).map (atN L) = L := by
  refine List.ext_getElem? fun i => ?_
  rw [List.getElem?_map]
  by_cases h : i < L.length
  · rw [List.getElem?_range h, atN_get h]; rfl
  · rw [List.getElem?_eq_none (by simp; omega), List.getElem?_eq_none (by omega)]; rfl
/-- the entries in another order -/
theorem ents_order {order : Array Nat} (e : es.toList = entsN w L) (pm : order.toList.Perm (List.range L.length)) :
    (order.filterMap (es[·]?)).toList = entsN w (order.toList.map (atN L)) ∧ (order.toList.map (atN L)).Perm L ∧ hsN w (order.toList.map (atN L)) = order.toList.map fun i => (es.map (·.1)).getD i 0 := by
  have lt : ∀ i ∈ order.toList, i < L.length := fun i hi => List.mem_range.mp (pm.mem_iff.mp hi)
  have z := ents_len e
  refine ⟨?_, by have := pm.map (atN L); rwa [atN_all] at this, ?_⟩
  · have gen : ∀ l : List Nat, (∀ i ∈ l, i < L.length) → l.filterMap (fun i => es[i]?) = entsN w (l.map (atN L)) := by
      intro l
      induction l with
      | nil => exact fun _ => rfl
      | cons i l ih =>
        intro h
        rw [List.filterMap_cons_some (ents_at e (atN_get (h i List.mem_cons_self))), ih fun j hj => h j (List.mem_cons_of_mem _ hj)]
        rfl
    have := gen order.toList lt
    first | (rw [Array.toList_filterMap]; exact this) | simpa using this
  · unfold hsN
    rw [List.map_map]
    refine List.map_congr_left fun i hi => ?_
    have h1 : (es.map (·.1))[i]? = some (hK w (atN L i).2) := by rw [Array.getElem?_map, ents_at e (atN_get (lt i hi))]; rfl
    simp [Array.getD_eq_getD_getElem?, h1]
/-- a larger table -/
theorem relay_on {o : Obj} (eo : s.heap.get? S = some o) (ex : o.ExactSet) (ed : o.data = .set es ep t) (he : es.toList = entsN w L) (tab : TabOk t (hsN w L)) (small : L.length ≤ t.mask) (nd : (L.map (·.2)).Nodup) (keys : ∀ p ∈ L, IsN s.heap p.2 p.1)
    (pl : t.plain = true) (ld : w.params.followText "set-order" = true ∨ t.led = true) (few : L.length < 64) {wanted M : Nat} (hw : SetTable.sizeAbove wanted - 1 = M) (hM : MaskOk M) (big : SetTable.sizeAbove wanted ≤ 128) (room : L.length * 5 < M * 3) {Q : Unit → Shared → Prop}
    (q : ∀ h' L' es' ep' t', Heap.SameBut S s.heap h' → SetN w h' S L' es' ep' t' → L'.Perm L → Q () { s with heap := h' }) : wpAny (model P w) A (setRelay S wanted) Q E s := by
  have z := ents_len he
  obtain ⟨t', order, er, pm, T, em, el, epl, _⟩ := relaid_ok t (hs := es.map (·.1)) (wanted := wanted) hw hM (by rw [Array.size_map, z]; omega)
  rw [Array.size_map, z] at pm
  obtain ⟨f1, f2, f3⟩ := ents_order he pm
  rw [← f3] at T
  have z2 := ents_len f1
  rw [f2.length_eq] at z2
  rw [setRelay_eq]
  refine wpAny_bind (wpAny_setState_of eo ed (tab_fits tab z (.inr small)) ?_)
  dsimp only
  refine wp_if_neg (by rw [sizeLine_eq]; omega) ?_
  try refine wpAny_bind (wpAny_pure ?_)
  rw [er]
  refine wpAny_bind (wp_if_neg (by rw [z2, z]; simp) ?_)
  try refine wpAny_bind (wpAny_pure ?_)
  refine wpAny_pure (wpAny_storeSet_of eo ed ?_ (by rw [z2, sizeLine_eq]; omega))
  have sb : Heap.SameBut S s.heap (s.heap.update S (Obj.putSet (order.filterMap (es[·]?)) t')) := Heap.SameBut.update ..
  exact q _ _ _ (ep + 1) t' sb ⟨⟨_, store_at eo ed, ⟨ex.1, ex.2.1, ex.2.2⟩, rfl⟩, f1, T, (f2.map (·.2)).nodup_iff.mpr nd, fun p hp => (keys p (f2.mem_iff.mp hp)).other eo ed sb, by rw [epl]; exact pl, by rw [el]; exact ld, by rw [f2.length_eq, em]; exact room, by rw [f2.length_eq]; exact few⟩ f2
/-- the item stored -/
theorem add_on (R : SetN w s.heap S L es ep t) {x : Addr} {k : NestedKey} (hx : IsN s.heap k x) (hu : A.units + 8 < cLine) (few : L.length + 1 < 64) {Q : Bool → Shared → Prop}
    (q : ∀ b h' L' es' ep' t', Heap.SameBut S s.heap h' → SetN w h' S L' es' ep' t' → (k ∈ L.map (·.2) → L' = L) → (k ∉ L.map (·.2) → L'.Perm ((x, k) :: L)) → Q b { s with heap := h' }) : wpAny (model P w) A (setAddHashed S (.ref x) (hK w k)) Q E s := by
  obtain ⟨o, eo, ex, ed⟩ := R.obj
  have z := ents_len R.ents
  have room := R.room
  have fits := tab_fits (n := es.size) R.tab z (.inl room)
  unfold setAddHashed
  refine wpAny_holding ?_
  rw [show (100000 : Nat) = 99999 + 1 from rfl, setAddHashedIn_succ]
  refine wpAny_bind (wpAny_setState_of eo ed fits ?_)
  dsimp only
  refine wp_if_neg (by simp [byScan, Value.scannable]) ?_
  try refine wpAny_bind (wpAny_pure ?_)
  refine wpAny_bind (search_all R hx hu (fun hm => wpAny_pure (q false s.heap L es ep t (Heap.SameBut.refl S s.heap) R (fun _ => rfl) fun n => absurd hm n)) fun K hm free full => ?_)
  dsimp only
  refine wpAny_bind (wpAny_setState_of eo ed fits ?_)
  dsimp only
  obtain ⟨c1, c2, c3, c4, c5, c6, _, _, c9⟩ := R.tab.put free full
  have plain1 : (t.put (way t.mask (hK w k) K)).1.plain = true := by rw [c6]; exact R.plain
  generalize ept : t.put (way t.mask (hK w k) K) = pt at c1 c3 c4 c5 c6 c9 plain1 ⊢
  obtain ⟨t1, i⟩ := pt
  dsimp only at c1 c3 c4 c5 c6 c9 plain1 ⊢
  subst c1
  have hb : HbvAt P w 8 s (.ref x) := hbv_key _ _ 8 s hx.1 hx.2.1 hx.2.2
  first
    | (refine wpAny_bind ?_; refine wp_if_pos plain1 ?_; refine hb _ _ _ ?_)
    | refine wp_if_pos plain1 (wpAny_bind (hb _ _ _ ?_))
  simp only [if_true]
  generalize SetTable.below t.place (way t.mask (hK w k) K) = i at c2 c3 ⊢
  obtain ⟨L1, eL1⟩ : ∃ L1, L1 = L.take i ++ (x, k) :: L.drop i := ⟨_, rfl⟩
  have ents1 : (SetTable.insertAt es i (hK w k, Value.ref x)).toList = entsN w L1 := by
    rw [SetTable.toList_insertAt, R.ents, eL1]
    unfold entsN
    rw [List.map_append, List.map_cons, List.map_take, List.map_drop]
  have pm : L1.Perm ((x, k) :: L) := by
    have h : (L.take i ++ (x, k) :: L.drop i).Perm ((x, k) :: (L.take i ++ L.drop i)) := List.perm_middle
    rwa [List.take_append_drop, ← eL1] at h
  have len1 : L1.length = L.length + 1 := pm.length_eq
  have tab1 : TabOk t1 (hsN w L1) := by
    rw [eL1]
    unfold hsN
    rw [List.map_append, List.map_cons, List.map_take, List.map_drop]
    exact c3
  have nd1 : (L1.map (·.2)).Nodup := (pm.map (·.2)).nodup_iff.mpr (List.nodup_cons.mpr ⟨hm, R.nd⟩)
  clear eL1 c3
  have z1 := ents_len ents1
  generalize SetTable.insertAt es i (hK w k, Value.ref x) = es1 at ents1 z1 ⊢
  refine wpAny_bind (wpAny_storeSet_of eo ed ?_ (by rw [z1, len1, sizeLine_eq]; omega))
  have sb : Heap.SameBut S s.heap (s.heap.update S (Obj.putSet es1 t1)) := Heap.SameBut.update ..
  have eo1 := store_at (es' := es1) (t' := t1) eo ed
  generalize s.heap.update S (Obj.putSet es1 t1) = h1 at sb eo1 ⊢
  have keys1 : ∀ p ∈ L1, IsN h1 p.2 p.1 := fun p hp => by
    rcases List.mem_cons.mp (pm.mem_iff.mp hp) with e | hp
    · rw [e]; exact hx.other eo ed sb
    · exact (R.keys p hp).other eo ed sb
  have led1 : w.params.followText "set-order" = true ∨ t1.led = true := by rw [c5]; exact R.led
  have fill : t1.fill = L.length + 1 := by rw [c9]; unfold hsN; rw [List.length_map]
  by_cases tf : t1.tooFull = true
  · have full5 : (L.length + 1) * 5 ≥ t1.mask * 3 := by
      have h := tf
      unfold SetTable.tooFull at h
      rwa [decide_eq_true_eq, fill] at h
    have two : (t.mask = 7 ∧ L.length = 4) ∨ (t.mask = 31 ∧ L.length = 18) := by
      rw [c4] at full5
      rcases R.tab.mok with e | e | e <;> rw [e] at full5 room
      · exact .inl ⟨e, by omega⟩
      · exact .inr ⟨e, by omega⟩
      · omega
    have go : ∀ M, SetTable.sizeAbove (SetTable.grown (L.length + 1)) - 1 = M → MaskOk M → SetTable.sizeAbove (SetTable.grown (L.length + 1)) ≤ 128 → (L.length + 1) * 5 < M * 3 →
        wpAny (model P w) A (setRelay S (SetTable.grown (L.length + 1))) (fun _ z => wpAny (model P w) A (pure true) Q E z) E { s with heap := h1 } := fun M g1 g2 g3 g4 =>
      relay_on (s := { s with heap := h1 }) eo1 ⟨ex.1, ex.2.1, ex.2.2⟩ rfl ents1 tab1 (by rw [len1, c4]; rcases two with ⟨e, e2⟩ | ⟨e, e2⟩ <;> omega) nd1 keys1 plain1 led1 (by omega) g1 g2 g3 (by rw [len1]; exact g4)
        fun h2 L2 es2 ep2 t2 sb2 R2 pm2 => wpAny_pure (q true h2 L2 es2 ep2 t2 (sb.trans sb2) R2 (fun n => absurd n hm) fun _ => pm2.trans pm)
    rw [z]
    first
      | (refine wpAny_bind ?_; refine wp_if_pos (by simp [tf]) ?_)
      | (refine wp_if_pos (by simp [tf]) ?_; refine wpAny_bind ?_)
    rcases two with ⟨_, e⟩ | ⟨_, e⟩
    · exact go 31 (by rw [e, size_20]) (.inr (.inl rfl)) (by rw [e, size_20]; decide) (by omega)
    · exact go 127 (by rw [e, size_76]) (.inr (.inr rfl)) (by rw [e, size_76]; decide) (by omega)
  · first
      | refine wp_if_neg (by simp [tf]) ?_
      | (refine wpAny_bind ?_; refine wp_if_neg (by simp [tf]) ?_; refine wpAny_pure ?_)
    refine wpAny_pure (q true h1 L1 es1 (ep + 1) t1 sb ⟨⟨_, eo1, ⟨ex.1, ex.2.1, ex.2.2⟩, rfl⟩, ents1, tab1, nd1, keys1, plain1, led1, ?_, by omega⟩ (fun n => absurd n hm) fun _ => pm)
    have h := tf
    unfold SetTable.tooFull at h
    rw [decide_eq_true_eq, fill] at h
    omega
end

/-! ### set(xs), xs a list of such tuples; sorted of the set -/
section
open PySem.Spec PyProof.Rows PySem.Calls PySem.W
variable {P : Program} {w : World} {A : Around} {E : Value → Shared → Prop} {s : Shared}
/-- what the set has of the first i items -/
structure HasN (ks : List (Addr × NestedKey)) (i : Nat) (L : List (Addr × NestedKey)) : Prop where
  sub : ∀ p ∈ L, p ∈ ks.take i
  all : ∀ p ∈ ks.take i, p.2 ∈ L.map (·.2)
  len : L.length ≤ i
theorem HasN.next {ks L L' : List (Addr × NestedKey)} {i : Nat} {x : Addr × NestedKey} (g : HasN ks i L) (e : ks[i]? = some x) (c1 : x.2 ∈ L.map (·.2) → L' = L) (c2 : x.2 ∉ L.map (·.2) → L'.Perm (x :: L)) : HasN ks (i + 1) L' := by
  have et : ks.take (i + 1) = ks.take i ++ [x] := by rw [List.take_add_one, e]; rfl
  by_cases c : x.2 ∈ L.map (·.2)
  · rw [c1 c]
    refine ⟨fun p hp => et ▸ List.mem_append_left _ (g.sub p hp), fun p hp => ?_, Nat.le_succ_of_le g.len⟩
    rw [et] at hp
    rcases List.mem_append.mp hp with z | z
    · exact g.all p z
    · rw [List.mem_singleton.mp z]; exact c
  · have pm := c2 c
    refine ⟨fun p hp => et ▸ ?_, fun p hp => ?_, by rw [pm.length_eq, List.length_cons]; exact Nat.succ_le_succ g.len⟩
    · rcases List.mem_cons.mp (pm.mem_iff.mp hp) with z | z
      · exact List.mem_append_right _ (List.mem_singleton.mpr z)
      · exact List.mem_append_left _ (g.sub p z)
    · rw [(pm.map (·.2)).mem_iff, List.map_cons]
      rw [et] at hp
      rcases List.mem_append.mp hp with z | z
      · exact List.mem_cons_of_mem _ (g.all p z)
      · rw [List.mem_singleton.mp z]; exact List.mem_cons_self
/-- what the loop of set.update leaves -/
def AfterN (w : World) (h0 : Heap) (S : Addr) (ks : List (Addr × NestedKey)) (i : Nat) (h : Heap) : Prop := Kp h0 h ∧ ∃ L es ep t, SetN w h S L es ep t ∧ HasN ks i L
theorem SetN.moved {h h' : Heap} {S : Addr} {L : List (Addr × NestedKey)} {es : Array (Int × Value)} {ep : Nat} {t : SetTable} (R : SetN w h S L es ep t) (hS : ∀ o, h.get? S = some o → h'.get? S = some o) (keys : ∀ p ∈ L, IsN h' p.2 p.1) : SetN w h' S L es ep t := by
  obtain ⟨o, e, r⟩ := R.obj
  exact ⟨⟨o, hS o e, r⟩, R.ents, R.tab, R.nd, keys, R.plain, R.led, R.room, R.few⟩
theorem update_loop {I : Addr} {fp wr : List Addr} {G : Array GenState → Array GenState → Prop} {n : Nat} {Pv : Nat → Value → Prop} {St : Nat → Shared → Prop} {R : Result → Shared → Prop} (W : WalksS P w A.in1 I fp wr G n Pv St) (S : Addr) (nS : S ∉ fp)
    (ks : List (Addr × NestedKey)) (en : n = ks.length) (few : ks.length < 64) (val : ∀ i v, Pv i v → ∃ p, ks[i]? = some p ∧ v = .ref p.1) (h0 : Heap) (keys : ∀ p ∈ ks, IsN h0 p.2 p.1) (hS : h0.get? S = none) (hw : ∀ b ∈ wr, h0.get? b = none) (hu : A.in1.units + 8 < cLine) :
    ∀ (k i : Nat) (s : Shared), n - i = k → i ≤ n → St i s → AfterN w h0 S ks i s.heap → (∀ s', Moved (S :: wr) G s s' → AfterN w h0 S ks n s'.heap → R (.ok (.ret .none)) s') →
      codeAny (model P w) A (.builtin "set.update.loop" ⟨[.ref S, .ref I], []⟩) R s := by
  have wS : S ∉ wr := fun h => nS (W.sub _ h)
  have sub : ∀ b ∈ wr, b ∈ S :: wr := fun b hb => List.mem_cons_of_mem _ hb
  have step : ∀ {i : Nat} {z z' : Shared}, Moved wr G z z' → AfterN w h0 S ks i z.heap → AfterN w h0 S ks i z'.heap := fun {i z z'} m ⟨kp, L, es, ep, t, Rz, g⟩ => by
    have kp' : Kp h0 z'.heap := fun b o e => m.heap b o (fun hb => by rw [hw b hb] at e; cases e) (kp b o e)
    exact ⟨kp', L, es, ep, t, Rz.moved (fun o e => m.heap S o wS e) fun p hp => (keys p (List.mem_of_mem_take (g.sub p hp))).kp kp', g⟩
  intro k
  induction k with
  | zero =>
    intro i s hk le st af fin
    obtain rfl : i = n := by omega
    refine codeAny_builtin F.entry_set_update_loop ?_
    rw [Around.under_plainId F.plain_set_update_loop _]
    show wpAny _ A.in1 (pyNext (.ref I) >>= _) _ _ s
    exact wpAny_bind (W.done s _ _ st fun s' m => wpAny_pure (fin s' (m.mono sub) (step m af)))
  | succ k ih =>
    intro i s hk le st af fin
    refine codeAny_builtin F.entry_set_update_loop ?_
    rw [Around.under_plainId F.plain_set_update_loop _]
    show wpAny _ A.in1 (pyNext (.ref I) >>= _) _ _ s
    refine wpAny_bind (W.item i s _ _ (by omega) st fun v s' pv st' m => ?_)
    obtain ⟨p, hp, rfl⟩ := val i v pv
    obtain ⟨kp', L, es, ep, t, R', g⟩ := step m af
    have hx : IsN s'.heap p.2 p.1 := (keys p (List.mem_of_getElem? hp)).kp kp'
    show wpAny _ A.in1 (holding [Value.ref p.1] (setAdd S (.ref p.1)) >>= _) _ _ s'
    refine wpAny_bind (wpAny_holding ?_)
    unfold setAdd
    refine wpAny_holding (wpAny_bind ((nestedKind P w).pyHash hu ⟨hx.1, hx.2.1⟩ ?_))
    refine add_on (s := { s' with toks := s'.toks + (nestedKind P w).draws p.2 }) R' hx hu (by have := g.len; omega) fun b h' L' es' ep' t' sb R2 c1 c2 => ?_
    have other : ∀ c, c ≠ S → h'.get? c = s'.heap.get? c := fun c n => sb.2 c n
    refine wpAny_pure ⟨plainId_quiet F.plain_set_update_loop _, ih (i + 1) _ (by omega) (by omega) (W.frame _ s' _ _ st' (Nat.le_add_right _ _) fun b hb o e => ?_) ⟨fun c o e => ?_, L', es', ep', t', R2, g.next hp c1 c2⟩ fun s2 m2 af2 => ?_⟩
    · exact (other b fun h => nS (h ▸ hb)).trans e
    · exact (other c fun h => by rw [h, hS] at e; cases e).trans (kp' c o e)
    · refine fin s2 (Moved.trans W.gtrans ((m.mono sub).then_heap (Nat.le_add_right _ _) fun b o nb e => ?_) m2) af2
      exact (other b fun h => nb (h ▸ List.mem_cons_self)).trans e
theorem set_new {h : Heap} {S : Addr} (e : h.get? S = some { cls := .type "set", dict := none, data := .set #[] 0 (.fresh 0 0 (!w.params.followText "set-order")) }) : SetN w h S [] #[] 0 (.fresh 0 0 (!w.params.followText "set-order")) where
  obj := ⟨_, e, ⟨rfl, rfl, rfl⟩, rfl⟩
  ents := rfl
  tab := ⟨List.Pairwise.nil, rfl, rfl, .inl rfl, fun x hx => (nomatch hx), fun i h j hi => by unfold hsN at hi; simp at hi⟩
  nd := List.nodup_nil
  keys := fun p hp => nomatch hp
  plain := rfl
  led := by
    show _ ∨ (!w.params.followText "set-order") = true
    cases w.params.followText "set-order" <;> simp
  room := by show 0 * 5 < 7 * 3; decide
  few := by show 0 < 64; decide
abbrev setO (w : World) : Obj := { cls := .type "set", dict := none, data := .set #[] 0 (.fresh 0 0 (!w.params.followText "set-order")) }
set_option maxHeartbeats 3200000 in
theorem call_setN {l : Addr} {items : Array Value} (ks : List (Addr × NestedKey)) {Q : Value → Shared → Prop} (hh : A.handled = none) (hl : s.heap.IsList l items) (hit : items.toList = ks.map fun p => Value.ref p.1)
    (keys : ∀ p ∈ ks, IsN s.heap p.2 p.1) (few : ks.length < 64) (hu : A.units + 16 < cLine)
    (q : ∀ (h' : Heap) (tk : Nat), AfterN w s.heap s.heap.objs.size ks ks.length h' → Q (.ref s.heap.objs.size) { s with heap := h', toks := tk }) : wpAny (model P w) A (call (.type "set") [.ref l]) Q E s := by
  have cnt : items.size = ks.length := by have z := congrArg List.length hit; rwa [Array.length_toList, List.length_map] at z
  obtain ⟨c, tl, hmro⟩ := F.called_set.mro
  have hmade := F.called_set.made; have hsub := F.called_set.sub
  refine wpAny_call (codeAny_of_tree ?_)
  show wpAny _ _ (callAny (.type "set") _) _ _ _
  refine wpAny_pure ⟨Code.quiet_builtin _ (by decide +kernel), codeAny_builtin F.entry_type_call ?_⟩
  rw [Around.under_plain (weight_type_call_type "set" [.ref l] []) rfl]
  have g1 := F.called_set.notType; have g2 := F.called_set.canCreate; have g3 := F.typeCall_set_1 (.ref l)
  repeat (any_goals (first | assumption | wp_step))
  refine codeAny_mono (code_set_led1 (.ref l) (E := E) (Q₁ := fun obj z => obj = .ref s.heap.objs.size ∧ z = { s with heap := s.heap.push (setO w) }) ⟨rfl, rfl⟩) fun r z hr => ?_
  cases r with
  | error e => exact hr
  | ok fl =>
    cases fl with
    | ret obj =>
      obtain ⟨rfl, rfl⟩ := hr
      have hS : (s.heap.push (setO w)).get? s.heap.objs.size = some (setO w) := Heap.get?_push_size _ rfl
      have hT : Shared.TypeIs { s with heap := s.heap.push (setO w) } (.ref s.heap.objs.size) "set" := ⟨_, hS, rfl⟩
      have hli := F.called_set.init.lookup; have hbi := F.called_set.init.bind (.ref s.heap.objs.size)
      repeat (any_goals (first | assumption | wp_step))
      refine codeAny_mono (codeAny_call_builtin (R := wants (fun r z => r = .none ∧ ∃ h' tk, z = { s with heap := h', toks := tk } ∧ AfterN w s.heap s.heap.objs.size ks ks.length h') E) F.called_set.init.plain F.entry_set_init (check_set_init_1 hT ?_)) fun r2 z2 hr2 => ?_
      · obtain ⟨⟨ocls, odict, odata, oslots⟩, hol, hcl, nl, hdl⟩ := hl
        simp only at hcl hdl
        subst hcl; subst hdl
        have hol' : (s.heap.push (setO w)).get? l = some { cls := .type "list", dict := odict, data := .seq items nl, slots := oslots } := Heap.get?_push_of_some _ hol
        have u1 := F.sub_list_set; have u2 := F.sub_list_frozenset
        have u3 : (Value.type "list" == Value.type "dict") = false := by decide
        have hl1 : (s.heap.push (setO w)).IsList l items := ⟨_, hol', rfl, nl, rfl⟩
        unfold Builtin.«set.__init__» noKeywords Builtin.Frozenset.updateFrom
        generalize hPI : pyIter = PI
        wp_walk
        subst hPI
        refine wpAny_pyIter_list hl1 (wpAny_bind (wpAny_runValue ?_))
        have hlS : l < s.heap.objs.size := Heap.lt_size hol
        have hh3 : A.in1.in1.in1.handled = none := by simp [hh]
        have hneI : l ≠ (s.heap.push (setO w)).objs.size := by rw [Heap.size_push]; exact Nat.ne_of_lt (Nat.lt_succ_of_lt hlS)
        have hSf : s.heap.objs.size ∉ [(s.heap.push (setO w)).objs.size, l] := fun z => by
          rw [Heap.size_push] at z
          rcases List.mem_cons.mp z with z | z
          · exact absurd z (Nat.ne_of_lt (Nat.lt_succ_self _))
          · exact absurd (List.mem_singleton.mp z) (Nat.ne_of_gt hlS)
        have hval : ∀ (i : Nat) (v : Value), items[i]? = some v → ∃ p, ks[i]? = some p ∧ v = .ref p.1 := fun i v hv => by
          have z : (ks.map fun p => Value.ref p.1)[i]? = some v := by rw [← hit, Array.getElem?_toList]; exact hv
          rw [List.getElem?_map] at z
          obtain ⟨p, hp, e⟩ := Option.map_eq_some_iff.mp z
          exact ⟨p, hp, e.symm⟩
        have fr : ∀ b, s.heap.objs.size ≤ b → s.heap.get? b = none := fun b hb => Heap.get?_none_of_le hb
        have room3 : A.in1.in1.in1.units + 8 < cLine := by
          have e : A.in1.in1.in1.units = A.units + 3 := by simp
          omega
        refine update_loop ((Walks.list hh3 _ l hneI items).toS) s.heap.objs.size hSf ks cnt few hval s.heap keys (fr _ (Nat.le_refl _)) (fun b hb => fr b (by rw [List.mem_singleton.mp hb, Heap.size_push]; exact Nat.le_succ _)) room3 (items.size - 0) 0 _ (by omega) (Nat.zero_le _)
          ⟨⟨_, Heap.get?_push_size _ rfl, rfl, rfl⟩, (hl1.push _)⟩ ⟨fun b o e => Heap.get?_push_of_some _ (Heap.get?_push_of_some _ e), [], #[], 0, _, set_new (Heap.get?_push_of_some _ hS), ⟨fun p h => (nomatch h), fun p h => by simp at h, Nat.le_refl _⟩⟩ ?_
        intro s' hm af
        obtain ⟨h', g2, d', tk', os'⟩ := s'
        obtain rfl : g2 = s.gens := hm.gens
        obtain rfl : d' = s.drawn := hm.drawn
        obtain rfl : os' = s.os := hm.os
        rw [cnt] at af
        show wpAny _ _ _ _ _ _
        refine wpAny_pure ?_
        show wpAny _ _ (ret Value.none) _ _ _
        exact wpAny_pure ⟨rfl, h', tk', rfl, af⟩
      · cases r2 with
        | error e => exact hr2
        | ok fl2 =>
          cases fl2 with
          | ret r =>
            obtain ⟨rfl, h', tk, rfl, af⟩ := hr2
            repeat (any_goals (first | assumption | wp_step))
            exact q _ _ af
          | _ => exact hr2.elim
    | _ => exact hr.elim
end

/-! ### sorted of the set; both as rules -/
section
open PySem.Spec PyProof.Rows PySem.Calls PySem.W
variable {P : Program} {w : World} {A : Around} {E : Value → Shared → Prop} {s : Shared}
mutual
theorem reads_key {h : Heap} : ∀ (k : NestedKey) (v : Value) (bs : List Addr), numK k = true → Reads h v k.data bs → bs = [] ∧ NestedIs h k v
  | .none, v, bs, _, x => by
    have x : Reads h v .none bs := x
    cases x; exact ⟨rfl, .none⟩
  | .num i, v, bs, _, x => by
    have x : Reads h v (.int i) bs := x
    cases x; exact ⟨rfl, .int _ _⟩
  | .text _, _, _, n, _ => by cases n
  | .tup ks, v, bs, n, x => by
    have x : Reads h v (.tuple (NestedKey.datas ks)) bs := x
    cases x with
    | tuple g c d all =>
      obtain ⟨e, z⟩ := readsAll_keys ks _ _ n all
      exact ⟨e, .tup g c d z⟩
theorem readsAll_keys {h : Heap} : ∀ (ks : List NestedKey) (vs : List Value) (bs : List Addr), numAll ks = true → ReadsAll h vs (NestedKey.datas ks) bs → bs = [] ∧ NestedAll h ks vs
  | [], vs, bs, _, x => by
    have x : ReadsAll h vs [] bs := x
    cases x; exact ⟨rfl, .nil⟩
  | k :: ks, vs, bs, n, x => by
    have x : ReadsAll h vs (k.data :: NestedKey.datas ks) bs := x
    simp only [numAll, Bool.and_eq_true] at n
    cases x with
    | cons a b =>
      obtain ⟨e1, z1⟩ := reads_key k _ _ n.1 a
      obtain ⟨e2, z2⟩ := readsAll_keys ks _ _ n.2 b
      exact ⟨by rw [e1, e2]; rfl, .cons z1 z2⟩
end
theorem refs_perm {α : Type} {f : α → Value} : ∀ {us vs : List Value} {L : List α}, vs.Perm us → us = L.map f → ∃ L1 : List α, vs = L1.map f ∧ L1.Perm L := by
  intro us vs L pm e
  have gen : ∀ {a b : List Value}, a.Perm b → ∀ {L : List α}, L.map f = b → ∃ L1 : List α, L1.Perm L ∧ a = L1.map f := by
    intro a b pm
    induction pm with
    | nil => exact fun {L} h => ⟨[], by rw [List.map_eq_nil_iff.mp h], rfl⟩
    | cons x _ ih =>
      intro L h
      obtain ⟨q, L', rfl, e1, e2⟩ := List.map_eq_cons_iff.mp h
      obtain ⟨L1, a, b⟩ := ih e2
      exact ⟨q :: L1, a.cons q, by rw [List.map_cons, e1, b]⟩
    | swap x y l =>
      intro L h
      obtain ⟨q, L', rfl, e1, e2⟩ := List.map_eq_cons_iff.mp h
      obtain ⟨r, L'', rfl, e3, e4⟩ := List.map_eq_cons_iff.mp e2
      exact ⟨r :: q :: L'', List.Perm.swap _ _ _, by rw [List.map_cons, List.map_cons, e1, e3, e4]⟩
    | trans _ _ ih1 ih2 =>
      intro L h
      obtain ⟨L1, a, b⟩ := ih2 h
      obtain ⟨L2, c, d⟩ := ih1 b.symm
      exact ⟨L2, c.trans a, d⟩
  obtain ⟨L1, a, b⟩ := gen pm e.symm
  exact ⟨L1, b, a⟩
theorem sorts_one {x : Addr} (r : Reads s.heap (.ref x) (.tuple []) []) : SortsAt P w A s (dataKind s.heap [.tuple []]) [.ref x] := by
  have open_ : ∀ {v : Value} {bs : List Addr}, Reads s.heap v (.tuple []) bs → ∃ (l : Addr) (o : Obj) (n : Nat), v = .ref l ∧ s.heap.get? l = some o ∧ o.data = .seq #[] n := fun {v bs} z => by
    cases z with
    | @tuple l o xs n _ _ h1 h2 h3 h4 =>
      have e : xs.toList = [] := by cases hx : xs.toList with
        | nil => rfl
        | cons a b => rw [hx] at h4; cases h4
      obtain rfl : xs = #[] := Array.toList_inj.mp e
      exact ⟨l, o, n, rfl, h1, h3⟩
  refine ⟨fun v hv => ?_, tuples' true, fun E x y ka kb Q ha hb hq => ?_, fun h2 => absurd h2 (by simp)⟩
  · rw [List.mem_singleton.mp hv]
    refine ⟨_, dataKind_some (fun d hd d' hd' => ?_) (List.mem_singleton.mpr rfl) r⟩
    rw [List.mem_singleton.mp hd, List.mem_singleton.mp hd']
    simp [alike, alikeAll]
  · obtain ⟨d, _, hd, ra, rfl⟩ := dataKind_inv ha
    obtain ⟨d', _, hd', rb, rfl⟩ := dataKind_inv hb
    obtain rfl := List.mem_singleton.mp hd
    obtain rfl := List.mem_singleton.mp hd'
    obtain ⟨l, o, n, rfl, h1, h2⟩ := open_ ra
    obtain ⟨l', o', n', rfl, k1, k2⟩ := open_ rb
    refine kat_lt h1 h2 k1 k2 ?_
    show Q _ s
    have e : (dataKind s.heap [.tuple []]).blt (keyToks (.tuple [])) (keyToks (.tuple [])) = decide ((#[] : Array Value).size < (#[] : Array Value).size) := by
      show dataLt (.tuple []) (.tuple []) = _
      rw [dataLt_tuple]
      exact lex_irrefl _
    rwa [e] at hq
theorem sorted_setN {S : Addr} {L : List (Addr × NestedKey)} {es : Array (Int × Value)} {ep : Nat} {t : SetTable} {Q : Value → Shared → Prop} (R : SetN w s.heap S L es ep t) (hh : A.handled = none) (hu : A.units + 64 < cLine)
    (rd : ∀ p ∈ L, Reads s.heap (.ref p.1) p.2.data []) (al : AllAlike (L.map fun p => p.2.data)) (so : (∀ p ∈ L, ∃ x r, p.2.data = .tuple (x :: r)) ∨ ∀ p ∈ L, p.2 = .tup []) (dp : ∀ p ∈ L, p.2.data.depth ≤ 32)
    (q : ∀ s' p (out : List Value) (c : Nat) (L1 : List (Addr × NestedKey)), Kp s.heap s'.heap → s'.gens = s.gens → s'.os = s.os → s.heap.objs.size ≤ p → L1.Perm L →
      s'.heap.get? p = some (seqObj "list" out.toArray c) → EachIs (fun v (z : Addr × NestedKey) => v = Value.ref z.1) out (L1.mergeSort (dataLe false fun z => z.2.data)) → Q (.ref p) s') : wpAny (model P w) A (call (.builtin "sorted") [.ref S]) Q E s := by
  obtain ⟨o, eo, ex, ed⟩ := R.obj
  have few := R.few
  have z := ents_len R.ents
  refine call_function_entry kind_sorted plain_sorted entry_sorted (args_sorted1 _) ?_
  unfold Builtin.«sorted»
  refine wpAny_bind (m := checkCount "sorted" 1 1 _) (wpAny_pure (wpAny_bind (collect_set (A := A.in1) hh ⟨o, eo, ex.1, ed⟩ (tab_fits R.tab z (.inl R.room)) (by unfold scanBound; omega) R.tab.ris R.led fun s1 vs k1 hz g1 o1 pm => ?_)))
  obtain ⟨L1, ev, pL⟩ := refs_perm (f := fun p : Addr × NestedKey => Value.ref p.1) (L := L) pm (by rw [R.ents]; unfold entsN; rw [List.map_map]; rfl)
  have mem : ∀ p ∈ L1, p ∈ L := fun p hp => pL.mem_iff.mp hp
  have cnt : vs.length = L1.length := by rw [ev, List.length_map]
  have few1 : L1.length < 64 := by rw [pL.length_eq]; exact few
  refine wpAny_bind (wpAny_newList ?_ (by rw [sizeLine_eq]; omega))
  have eL : (s1.heap.push (seqObj "list" vs.toArray 0)).get? s1.heap.objs.size = some (seqObj "list" vs.toArray 0) := Heap.get?_push_size _ rfl
  have el : EachIs (fun v (p : Addr × NestedKey) => v = Value.ref p.1) vs L1 := by
    rw [ev]
    clear ev pL mem cnt few1
    induction L1 with
    | nil => exact .nil
    | cons p L1 ih => exact .cons rfl ih
  have rd1 : ∀ (p : Addr × NestedKey), p ∈ L1 → Reads (sortingHeap (s1.heap.push (seqObj "list" vs.toArray 0)) s1.heap.objs.size vs) (.ref p.1) p.2.data [] := fun p hp => by
    refine PySem.W.Reads.keepBut (a := s1.heap.objs.size) (fun b u hb e => sortingHeap_old hb e) (fun u e => by rw [eL] at e; rw [← Option.some.inj e]) _ _ _ (al _ (List.mem_map.mpr ⟨p, mem p hp, rfl⟩) _ (List.mem_map.mpr ⟨p, mem p hp, rfl⟩)) ?_ fun w => nomatch w
    exact PyProof.Rows.Reads.keeps (fun b u e => Heap.get?_push_of_some _ (k1 b u e)) (rd p (mem p hp))
  have er : EachIs (fun v (p : Addr × NestedKey) => ∃ bs, Reads (sortingHeap (s1.heap.push (seqObj "list" vs.toArray 0)) s1.heap.objs.size vs) v p.2.data bs) vs L1 := each_and el fun v p hp e => ⟨[], e ▸ rd1 p hp⟩
  have al1 : AllAlike (L1.map fun p => p.2.data) := fun d hd d' hd' => by
    obtain ⟨p, hp, rfl⟩ := List.mem_map.mp hd
    obtain ⟨p', hp', rfl⟩ := List.mem_map.mp hd'
    exact al _ (List.mem_map.mpr ⟨p, mem p hp, rfl⟩) _ (List.mem_map.mpr ⟨p', mem p' hp', rfl⟩)
  have units : A.in1.in1.units = A.units + 2 := by simp
  have sorts : SortsAt P w A.in1.in1 { s1 with heap := sortingHeap (s1.heap.push (seqObj "list" vs.toArray 0)) s1.heap.objs.size vs } (dataKind (sortingHeap (s1.heap.push (seqObj "list" vs.toArray 0)) s1.heap.objs.size vs) (L1.map fun p => p.2.data)) vs := by
    by_cases hne : ∀ p ∈ L, ∃ x r, p.2.data = .tuple (x :: r)
    · refine SortsAt.data (s := { s1 with heap := sortingHeap (s1.heap.push (seqObj "list" vs.toArray 0)) s1.heap.objs.size vs }) (each_map (R := fun v d => ∃ bs, Reads (sortingHeap (s1.heap.push (seqObj "list" vs.toArray 0)) s1.heap.objs.size vs) v d bs) _ er) al1 (.inl fun d hd => ?_) fun d hd => ?_
      · obtain ⟨p, hp, rfl⟩ := List.mem_map.mp hd
        exact hne p (mem p hp)
      · obtain ⟨p, hp, rfl⟩ := List.mem_map.mp hd
        have := dp p (mem p hp)
        show A.in1.in1.units + _ < cLine
        omega
    · have nil := so.resolve_left hne
      have nd1 : (L1.map (·.2)).Nodup := (pL.map (·.2)).nodup_iff.mpr R.nd
      have one : ∃ x, L1 = [(x, NestedKey.tup [])] := by
        match L1, nd1, mem, pL with
        | [], _, _, pL => exact absurd (fun p hp => by have := pL.mem_iff.mpr hp; cases this) hne
        | [(x, k)], _, mem, _ => exact ⟨x, by rw [show k = .tup [] from nil (x, k) (mem _ List.mem_cons_self)]⟩
        | (x, k) :: (y, m) :: r, nd, mem, _ =>
          exfalso
          have e1 : k = .tup [] := nil (x, k) (mem _ List.mem_cons_self)
          have e2 : m = .tup [] := nil (y, m) (mem _ (List.mem_cons_of_mem _ List.mem_cons_self))
          rw [List.map_cons, List.map_cons, e1, e2] at nd
          exact (List.nodup_cons.mp nd).1 List.mem_cons_self
      obtain ⟨x, hx⟩ := one
      have e1 := rd1 (x, NestedKey.tup []) (by rw [hx]; exact List.mem_cons_self)
      subst hx
      subst ev
      exact sorts_one (s := { s1 with heap := sortingHeap (s1.heap.push (seqObj "list" [Value.ref x].toArray 0)) s1.heap.objs.size [Value.ref x] }) e1
  refine wpAny_bind (wpAny_holding (wpAny_call_entry slot_list_sort ⟨_, eL, rfl⟩ entry_list_sort (list_sort_vals (s := { s1 with heap := s1.heap.push (seqObj "list" vs.toArray 0) }) eL sorts (by rw [cnt, sizeLine_eq]; omega) ⟨.none, rfl, ?_⟩) (args_list_sort _)))
  have out := sortVals_data (R := fun v (p : Addr × NestedKey) => v = Value.ref p.1) false el er al1
  generalize sortVals (dataKind (sortingHeap (s1.heap.push (seqObj "list" vs.toArray 0)) s1.heap.objs.size vs) (L1.map fun p => p.2.data)) false vs vs = ws at out ⊢
  obtain ⟨c, hc⟩ := sortedHeap_at (vs := vs) (out := ws.toArray) eL
  refine wpAny_pure ⟨_, rfl, q _ s1.heap.objs.size ws c L1 (fun b u e => ?_) g1 o1 hz pL hc out⟩
  have e1 := k1 b u e
  have lt := Heap.lt_size e1
  show (sortedHeap (s1.heap.push (seqObj "list" vs.toArray 0)) s1.heap.objs.size vs ws.toArray).get? b = some u
  rw [sortedHeap_old (Nat.ne_of_lt lt) (by rw [size_push']; exact Nat.lt_succ_of_lt lt)]
  exact Heap.get?_push_of_some _ e1
end
section
open PySem.Spec PyProof.Rows PySem.W
variable {X : Cx}
/-- the set at a, without its items themselves -/
structure SetN0 (w : World) (h : Heap) (a : Addr) (L : List (Addr × NestedKey)) : Prop where
  ex : ∃ (es : Array (Int × Value)) (ep : Nat) (t : SetTable), (∃ o, h.get? a = some o ∧ o.ExactSet ∧ o.data = .set es ep t) ∧ es.toList = entsN w L ∧ TabOk t (hsN w L) ∧ (L.map (·.2)).Nodup ∧ t.plain = true ∧ (w.params.followText "set-order" = true ∨ t.led = true) ∧ L.length * 5 < t.mask * 3 ∧ L.length < 64
def SetNO (w : World) (a : Addr) (L : List (Addr × NestedKey)) : HO := .ext fun h => SetN0 w h a L
theorem setNO_new {P : Program} {w : World} {H : Hp} {h : Heap} {a : Addr} {L : List (Addr × NestedKey)} (R : SetN0 w h a L) : ObjOk P w H h a (SetNO w a L) := by
  obtain ⟨es, ep, t, ⟨o, e, r⟩, z⟩ := id R.ex
  refine ⟨R, ⟨o, e⟩, fun h1 h2 p k => ?_⟩
  obtain ⟨es', ep', t', ⟨o', e', r'⟩, z'⟩ := SetN0.ex p
  exact ⟨es', ep', t', ⟨o', k o' e', r'⟩, z'⟩
/-- the item reads as its key -/
def KeyAt (K : PySem.W.Frag) (H : Hp) (p : Addr × NestedKey) : Prop := Dp K H (.ref p.1) p.2.data ∧ p.2.depth ≤ 8 ∧ numK p.2 = true
theorem Inv.key {pins : List (Addr × Obj)} {σ : L2.St} {H : Hp} {s : Shared} {p : Addr × NestedKey} (I : L2.Inv X pins σ H s) (h : KeyAt X.K H p) : Reads s.heap (.ref p.1) p.2.data [] ∧ IsN s.heap p.2 p.1 := by
  obtain ⟨bs, z⟩ := Dp.reads I _ _ _ h.1 rfl
  obtain ⟨e, y⟩ := reads_key _ _ _ h.2.2 z
  subst e
  exact ⟨z, y, h.2⟩
/-- set(xs), xs a list of tuples of any depth -/
def rSetN (K : PySem.W.Frag) (w : World) : List V → Hp → VK → Prop := fun xs H Q => ∃ (l : Addr) (ks : List (Addr × NestedKey)), xs = [V.ref l] ∧ SqL K H l (ks.map fun p => V.ref p.1) ∧ (∀ p ∈ ks, KeyAt K H p) ∧ ks.length < 64 ∧
  ∀ a L, H a = none → (∀ p ∈ L, p ∈ ks) → (∀ p ∈ ks, p.2 ∈ L.map (·.2)) → (L.map (·.2)).Nodup → Q (.ref a) (upd H a (SetNO w a L))
theorem refs_vals {ks : List (Addr × NestedKey)} : ∀ {us : List Value}, Vals (ks.map fun p => V.ref p.1) us → us = ks.map fun p => Value.ref p.1 := by
  induction ks with
  | nil => intro us h; cases h; rfl
  | cons p ks ih =>
    intro us h
    cases h with
    | cons r t => cases r; rw [ih t]; rfl
theorem cr_setN (calm : X.calm = true) (hu : X.A.units + 64 < cLine) : CallR X (.type "set") (rSetN X.K X.w) := by
  intro pins s σ H xs us Q I r ⟨l, ks, ex, hl, hk, few, q⟩
  subst ex
  obtain rfl := Vals.ref1 r
  obtain ⟨its, rv, pl, _⟩ := I.list hl
  refine call_setN (P := X.prog) (w := X.w) ks (I.ok.hd calm) pl.isList (by simpa using refs_vals rv) (fun p hp => (Inv.key I (hk p hp)).2) few (by omega) fun h' tk ⟨kp, L, es, ep, t, R, g⟩ => ?_
  exact ⟨.ref s.heap.objs.size, _, I.laid (t' := tk) kp (Nat.le_refl _) (setNO_new ⟨es, ep, t, R.obj, R.ents, R.tab, R.nd, R.plain, R.led, R.room, R.few⟩), rfl, q _ L (I.hok.fresh (Nat.le_refl _)) (fun p hp => List.mem_of_mem_take (g.sub p hp)) (fun p hp => g.all p (by rw [List.take_length]; exact hp)) R.nd⟩
/-- sorted of such a set -/
def rSortedN (K : PySem.W.Frag) (w : World) : List V → Hp → VK → Prop := fun vs H Q => ∃ (a : Addr) (L : List (Addr × NestedKey)), vs = [V.ref a] ∧ H a = some (SetNO w a L) ∧ (∀ p ∈ L, KeyAt K H p) ∧ AllAlike (L.map fun p => p.2.data) ∧ ((∀ p ∈ L, ∃ x r, p.2.data = .tuple (x :: r)) ∨ ∀ p ∈ L, p.2 = .tup []) ∧ (∀ p ∈ L, p.2.data.depth ≤ 32) ∧
  ∀ (L1 : List (Addr × NestedKey)) (p : Addr), L1.Perm L → H p = none → Q (.ref p) (upd H p (.lst ((L1.mergeSort (dataLe false fun z => z.2.data)).map fun z => V.ref z.1)))
theorem cr_sortedN (calm : X.calm = true) (hu : X.A.units + 64 < cLine) : CallR X (.builtin "sorted") (rSortedN X.K X.w) := by
  intro pins s σ H vs us Q I r ⟨a, L, ev, ha, hk, al, so, dp, q⟩
  subst ev
  obtain rfl := Vals.ref1 r
  have R0 : SetN0 X.w s.heap a L := (I.hok a _ ha).1
  obtain ⟨es, ep, t, c1, c2, c3, c4, c5, c6, c7, c8⟩ := R0.ex
  refine sorted_setN (P := X.prog) (w := X.w) ⟨c1, c2, c3, c4, fun p hp => (Inv.key I (hk p hp)).2, c5, c6, c7, c8⟩ (I.ok.hd calm) hu (fun p hp => (Inv.key I (hk p hp)).1) al so dp fun s' p out c L1 kp g os hp pm hg ho => ?_
  have few : L1.length < 64 := by rw [pm.length_eq]; exact c8
  have len : ((L1.mergeSort (dataLe false fun z => z.2.data)).map fun z => V.ref z.1).length ≤ sizeLine := by rw [List.length_map, (List.mergeSort_perm _ _).length_eq, sizeLine_eq]; omega
  have none_ : H p = none := I.hok.fresh hp
  have vals : Vals ((L1.mergeSort (dataLe false fun z => z.2.data)).map fun z => V.ref z.1) out := vals_of_each (g := fun z : Addr × NestedKey => V.ref z.1) (each_and ho fun v z _ e => e)
  have J : L2.Inv X pins σ (upd H p (.lst ((L1.mergeSort (dataLe false fun z => z.2.data)).map fun z => V.ref z.1))) { s with heap := s'.heap, gens := s'.gens, drawn := s'.drawn, toks := s'.toks } :=
    I.call (ch := []) (Un.laid kp hp none_) (I.hok.laid kp hp ⟨len, out, c, vals, hg⟩) (by rw [g]; exact I.bare) (fun _ z => nomatch z)
  have es' : s' = { s with heap := s'.heap, gens := s'.gens, drawn := s'.drawn, toks := s'.toks } := by cases s'; cases s; cases os; rfl
  rw [es']
  exact ⟨.ref p, _, J, rfl, q L1 p pm none_⟩
end

/-! ### reading, step by step -/
theorem iteV {a b : Int} {A B : Prop} (h1 : a = b → A) (h2 : a ≠ b → B) : if decide (V.int a = V.int b) = true then A else B := by
  by_cases h : a = b
  · rw [if_pos (decide_eq_true (congrArg V.int h))]; exact h1 h
  · rw [if_neg (by rw [decide_eq_false (fun z => h (V.int.inj z))]; exact Bool.false_ne_true)]; exact h2 h
theorem iteVn {a b : Int} {A B : Prop} (h1 : a ≠ b → A) (h2 : a = b → B) : if (!decide (V.int a = V.int b)) = true then A else B := by
  by_cases h : a = b
  · rw [if_neg (by rw [decide_eq_true (congrArg V.int h)]; exact Bool.false_ne_true)]; exact h2 h
  · rw [if_pos (by rw [decide_eq_false (fun z => h (V.int.inj z))]; rfl)]; exact h1 h
theorem iteD {c A B : Prop} [Decidable c] (h1 : c → A) (h2 : ¬ c → B) : if decide c = true then A else B := by
  by_cases h : c
  · rw [if_pos (decide_eq_true h)]; exact h1 h
  · rw [if_neg (by rw [decide_eq_false h]; exact Bool.false_ne_true)]; exact h2 h
theorem iteDn {c A B : Prop} [Decidable c] (h1 : ¬ c → A) (h2 : c → B) : if (!decide c) = true then A else B := by
  by_cases h : c
  · rw [if_neg (by rw [decide_eq_true h]; exact Bool.false_ne_true)]; exact h2 h
  · rw [if_pos (by rw [decide_eq_false h]; rfl)]; exact h1 h
theorem iteB {b : Bool} {A B : Prop} (h1 : b = true → A) (h2 : b = false → B) : if b = true then A else B := by
  cases b with
  | true => exact iteT (h1 rfl)
  | false => exact iteF (h2 rfl)
theorem iteN0 {i : Int} {A B : Prop} (h1 : i ≠ 0 → A) (h2 : i = 0 → B) : if (i != 0) = true then A else B := by
  by_cases h : i = 0
  · rw [if_neg (by simp [h])]; exact h2 h
  · rw [if_pos (by simpa using h)]; exact h1 h
theorem vdec {a b : Int} : decide (V.int a = V.int b) = decide (a = b) := by
  by_cases h : a = b
  · subst h; simp
  · rw [decide_eq_false h, decide_eq_false (fun z => h (V.int.inj z))]
theorem sql_ne {K : PySem.W.Frag} {H : Hp} {r a : Addr} {o : HO} {xs : List V} (h : SqL K H a xs) (n : a ≠ r) : SqL K (upd H r o) a xs := by
  rcases h with (h | ⟨u, h⟩) | h
  · exact .inl (.inl (by rw [upd_ne n]; exact h))
  · exact .inl (.inr ⟨u, by rw [upd_ne n]; exact h⟩)
  · exact .inr h
theorem mulW64 {i j : Int} (hi : i.natAbs < 2 ^ 64) (hj : j.natAbs < 2 ^ 64) : CMulW i j := wide_mul hi hj (by decide) (by decide) (by decide)
section
variable {K : PySem.W.Frag}
theorem kit_int_int : PySem.W.kitOne K (.type "int") (.type "int") = some true := kit_ty (by decide +kernel)
theorem kit_int_bool : PySem.W.kitOne K (.type "int") (.type "bool") = some false := kit_ty (by decide +kernel)
theorem kit_int_str : PySem.W.kitOne K (.type "int") (.type "str") = some false := kit_ty (by decide +kernel)
theorem kit_int_tuple : PySem.W.kitOne K (.type "int") (.type "tuple") = some false := kit_ty (by decide +kernel)
theorem kit_int_list : PySem.W.kitOne K (.type "int") (.type "list") = some false := kit_ty (by decide +kernel)
theorem kit_tuple_tuple : PySem.W.kitOne K (.type "tuple") (.type "tuple") = some true := kit_ty (by decide +kernel)
theorem kit_tuple_list : PySem.W.kitOne K (.type "tuple") (.type "list") = some false := kit_ty (by decide +kernel)
theorem kit_tuple_str : PySem.W.kitOne K (.type "tuple") (.type "str") = some false := kit_ty (by decide +kernel)
theorem kit_tuple_int : PySem.W.kitOne K (.type "tuple") (.type "int") = some false := kit_ty (by decide +kernel)
theorem kit_tuple_bool : PySem.W.kitOne K (.type "tuple") (.type "bool") = some false := kit_ty (by decide +kernel)
theorem kitA_int : PySem.W.kitAny K (.type "int") [.type "tuple", .type "list"] = some false :=
  kitAny_cons kit_int_tuple (fun _ => kitAny_cons kit_int_list (fun _ => kitAny_nil) (fun z => nomatch z)) (fun z => nomatch z)
theorem kitA_tuple : PySem.W.kitAny K (.type "tuple") [.type "tuple", .type "list"] = some true :=
  kitAny_cons kit_tuple_tuple (fun z => nomatch z) (fun _ => rfl)
end
local macro_rules | `(tactic| walk_at "rd1") => `(tactic| first
  | refine ⟨_, rfl, ?_⟩
  | refine ⟨_, _, rfl, rfl, ?_⟩
  | refine ⟨_, _, rfl, ?_⟩
  | refine ⟨rfl, ?_⟩
  | refine ⟨(show (0 : Int) < _ by omega), ?_⟩
  | refine .inl ⟨_, rfl, ?_⟩
  | refine ⟨mulW64 (by omega) (by omega), ?_⟩
  | refine ⟨cdivZ (b := 64) (by omega) (by omega) (by decide) (by decide), ?_⟩
  | refine ⟨(show CPowW _ _ from ⟨by decide, by decide +kernel⟩), ?_⟩
  | refine ⟨_, _, rfl, .inr (.inl (.inl (by assumption))), ?_⟩
  | refine ⟨_, _, rfl, .inl (.inl (.inl (by assumption))), ?_⟩
  | refine ⟨_, _, rfl, .inl (.inl upd_same), rfl, ?_⟩
  | refine iteT ?_
  | refine iteF ?_
  | refine ⟨_, _, _, _, rfl, rfl, .inl (.inl (by assumption)), rfl, ?_⟩
  | refine ⟨_, _, _, _, rfl, rfl, .inl (.inl upd_same), rfl, ?_⟩
  | refine ⟨_, _, _, _, rfl, rfl, (by assumption), rfl, ?_⟩
  | refine ⟨_, _, _, _, rfl, rfl, upd_same, rfl, ?_⟩
  | refine ⟨_, _, _, _, _, rfl, .ty _, .base (.int _), kit_int_int, ?_⟩
  | refine ⟨_, _, _, _, _, rfl, .ty _, .base (.int _), kit_int_bool, ?_⟩
  | refine ⟨_, _, _, _, _, rfl, .ty _, .base (.int _), kit_int_str, ?_⟩
  | refine ⟨_, _, _, _, _, rfl, .ty _, .base (.tup (by assumption)), kit_tuple_tuple, ?_⟩
  | refine ⟨_, _, _, _, _, rfl, .ty _, .base (.tup (by assumption)), kit_tuple_list, ?_⟩
  | refine ⟨_, _, _, _, _, rfl, .ty _, .base (.tup (by assumption)), kit_tuple_str, ?_⟩)
local macro_rules | `(tactic| walk_at "rd") => `(tactic| repeat walk_at "rd1")

/-- a tuple of ints; a tuple of these -/
abbrev rD (r : List Int) : PyData := .tuple (r.map .int)
abbrev rsD (rs : List (List Int)) : PyData := .tuple (rs.map rD)
section
variable {K : PySem.W.Frag} {H H' : Hp}
theorem dpAll_of {α : Type} {f : α → V} {g : α → PyData} : ∀ {l : List α}, (∀ x ∈ l, Dp K H (f x) (g x)) → DpAll K H (l.map f) (l.map g)
  | [], _ => .nil
  | _ :: _, h => .cons (h _ List.mem_cons_self) (dpAll_of fun x hx => h x (List.mem_cons_of_mem _ hx))
theorem dpAll_ints (r : List Int) : DpAll K H (r.map V.int) (r.map .int) := dpAll_of fun x _ => .int x
theorem dp_ints {a : Addr} {r : List Int} (h : SqT K H a (r.map V.int)) : Dp K H (.ref a) (rD r) := .tup h (dpAll_ints r)
mutual
theorem Dp.same (s : Same H H') : ∀ (d : PyData) (v : V), Dp K H v d → Dp K H' v d
  | _, _, .non => .non
  | _, _, .bl b => .bl b
  | _, _, .int i => .int i
  | _, _, .str x => .str x
  | _, _, .lst h a => .lst (L2.Same.seq s h) (DpAll.same s _ _ a)
  | _, _, .tup h a => .tup (Toy.Same.tup s h) (DpAll.same s _ _ a)
theorem DpAll.same (s : Same H H') : ∀ (ds : List PyData) (vs : List V), DpAll K H vs ds → DpAll K H' vs ds
  | _, _, .nil => .nil
  | _, _, .cons h t => .cons (Dp.same s _ _ h) (DpAll.same s _ _ t)
end
end
/-! ### what stays: tuples; all but tables -/
/-- the tuples stay -/
def Tp (H H' : Hp) : Prop := ∀ b xs, Rd H b (.tup xs) → Rd H' b (.tup xs)
theorem Tp.refl (H : Hp) : Tp H H := fun _ _ h => h
theorem Tp.trans {H H1 H2 : Hp} (a : Tp H H1) (b : Tp H1 H2) : Tp H H2 := fun c xs h => b c xs (a c xs h)
theorem tp_ext {H H' : Hp} (e : LamX.ExtN H H') : Tp H H' := fun b xs h => by
  rcases h with h | ⟨o, h⟩
  · exact .inl (e _ _ h fun ps z => by cases z)
  · exact .inr ⟨o, e _ _ h fun ps z => by cases z⟩
theorem tp_same {H H' : Hp} (s : Same H H') : Tp H H' := tp_ext (LamX.ExtN.of s)
theorem tp_lst {H : Hp} {D : Addr} {xs ys : List V} (h : H D = some (.lst xs)) : Tp H (upd H D (.lst ys)) := fun b zs q => by
  have n : b ≠ D := fun e => by
    subst e
    rcases q with q | ⟨o, q⟩
    · rw [h] at q; cases q
    · rw [h] at q; cases q
  rcases q with q | ⟨o, q⟩
  · exact .inl ((upd_ne n).trans q)
  · exact .inr ⟨o, (upd_ne n).trans q⟩
theorem tp_new {H : Hp} {D : Addr} {o : HO} (h : H D = Option.none) : Tp H (upd H D o) := tp_same (same_upd h)
section
variable {K : PySem.W.Frag} {H H' : Hp}
theorem Tp.sqt {a : Addr} {xs : List V} (s : Tp H H') (h : SqT K H a xs) : SqT K H' a xs := by
  rcases h with h | h
  · exact .inl (s _ _ h)
  · exact .inr h
mutual
/-- ints, texts, tuples of such -/
def tOnly : PyData → Bool
  | .int _ => true
  | .str _ => true
  | .tuple xs => tOnlyAll xs
  | _ => false
def tOnlyAll : List PyData → Bool
  | [] => true
  | x :: xs => tOnly x && tOnlyAll xs
end
mutual
theorem Dp.tp (s : Tp H H') : ∀ (d : PyData) (v : V), tOnly d = true → Dp K H v d → Dp K H' v d
  | .int i, _, _, h => by cases h; exact .int i
  | .str x, _, _, h => by cases h; exact .str x
  | .tuple xs, _, t, h => by
    cases h with
    | tup h1 h2 => exact .tup (s.sqt h1) (DpAll.tp s xs _ (by simpa [tOnly] using t) h2)
  | .none, _, t, _ => by simp [tOnly] at t
  | .bool _, _, t, _ => by simp [tOnly] at t
  | .list _, _, t, _ => by simp [tOnly] at t
  | .dict _, _, t, _ => by simp [tOnly] at t
theorem DpAll.tp (s : Tp H H') : ∀ (ds : List PyData) (vs : List V), tOnlyAll ds = true → DpAll K H vs ds → DpAll K H' vs ds
  | [], _, _, h => by cases h; exact .nil
  | d :: ds, _, t, h => by
    cases h with
    | cons h1 h2 =>
      have t' : tOnly d = true ∧ tOnlyAll ds = true := by simpa [tOnlyAll] using t
      exact .cons (Dp.tp s d _ t'.1 h1) (DpAll.tp s ds _ t'.2 h2)
end
theorem tOnly_ints (r : List Int) : tOnlyAll (r.map .int) = true := by
  induction r with
  | nil => rfl
  | cons x xs ih => simp [tOnlyAll, tOnly, ih]
theorem tOnly_rD (r : List Int) : tOnly (rD r) = true := tOnly_ints r
theorem tOnly_rows (rs : List (List Int)) : tOnlyAll (rs.map rD) = true := by
  induction rs with
  | nil => rfl
  | cons x xs ih => simp [tOnlyAll, tOnly, ih, tOnly_ints]
/-! ### comprehensions that map -/
/-- i items are made at D, each as R says; all that was before stands -/
def MapAt (H1 : Hp) (D : Addr) (R : Nat → V → Hp → Prop) (i : Nat) (H : Hp) : Prop := ∃ ys, Same H1 H ∧ H D = some (.lst ys) ∧ ys.length = i ∧ ∀ (j : Nat) (y : V), ys[j]? = some y → R j y H
theorem mapAt_0 {H1 : Hp} {D : Addr} {R : Nat → V → Hp → Prop} (hD : H1 D = Option.none) : MapAt H1 D R 0 (upd H1 D (.lst [])) := ⟨[], same_upd hD, upd_same, rfl, fun j y h => by simp at h⟩
theorem mapAt_step {H1 H H4 : Hp} {D : Addr} {R : Nat → V → Hp → Prop} {i : Nat} {y : V} (h : MapAt H1 D R i H) (hD : H1 D = Option.none) (hz : i < sizeLine) (s : Same H H4) (hR : ∀ i v H H', R i v H → Tp H H' → R i v H') (r : R i y H4) :
    ∃ acc, H4 D = some (.lst acc) ∧ acc.length < sizeLine ∧ MapAt H1 D R (i + 1) (upd H4 D (.lst (acc ++ [y]))) := by
  obtain ⟨ys, h1, h2, h3, h4⟩ := h
  have e4 := s _ _ h2
  have t : Tp H4 (upd H4 D (.lst (ys ++ [y]))) := tp_lst e4
  refine ⟨ys, e4, by rw [h3]; exact hz, ys ++ [y], fun b o e => ?_, upd_same, by simp [h3], fun j z hz => ?_⟩
  · rw [upd_ne (ne_of_none e hD)]
    exact s _ _ (h1 _ _ e)
  · by_cases hj : j < ys.length
    · rw [List.getElem?_append_left hj] at hz
      exact hR _ _ _ _ (hR _ _ _ _ (h4 j z hz) (tp_same s)) t
    · rw [List.getElem?_append_right (by omega)] at hz
      have ej : j - ys.length = 0 := by
        by_cases q : j - ys.length = 0
        · exact q
        · rw [List.getElem?_eq_none (by simp; omega)] at hz; cases hz
      rw [ej] at hz
      simp at hz
      subst hz
      have : j = i := by omega
      subst this
      exact hR _ _ _ _ r t
/-- the items as a list, when each is told by its place -/
theorem items_eq {n : Nat} {ys : List V} {f : Nat → V} (h : ys.length = n) (e : ∀ (j : Nat) (y : V), ys[j]? = some y → y = f j) : ys = (List.range n).map f := by
  refine List.ext_getElem? fun i => ?_
  by_cases hi : i < n
  · have hi' : i < ys.length := by omega
    rw [List.getElem?_map, List.getElem?_range hi, List.getElem?_eq_getElem hi', e i _ (List.getElem?_eq_getElem hi')]
    rfl
  · rw [List.getElem?_eq_none (by omega), List.getElem?_eq_none (by simp; omega)]
/-- rows made one by one read as the rows -/
theorem dpAll_get {ys : List V} {ds : List PyData} (hl : ys.length = ds.length) (e : ∀ (j : Nat) (y : V) (d : PyData), ys[j]? = some y → ds[j]? = some d → Dp K H y d) : DpAll K H ys ds := by
  induction ys generalizing ds with
  | nil =>
    cases ds with
    | nil => exact .nil
    | cons d ds => simp at hl
  | cons y ys ih =>
    cases ds with
    | nil => simp at hl
    | cons d ds => exact .cons (e 0 y d rfl rfl) (ih (by simpa using hl) fun j y d h1 h2 => e (j + 1) y d (by simpa using h1) (by simpa using h2))
end
/-! ### a comprehension's scope, by its place -/
def rvOf : Stmt → Expr
  | .Return (some e) _ => e
  | .Assign _ e _ => e
  | _ => .Constant .none 0 ⟨0, 0, 0, 0⟩
def scOf : Expr → Scope
  | .ListComp _ _ s _ => s
  | _ => { kind := .function, names := [], isGenerator := false, isCoroutine := false }
theorem relabel_look {env : Env} {y : Str} : ∀ {names : List (Str × NameKind)}, names.lookup y = some .cell ∨ names.lookup y = some .free →
    (names.map fun (n, k) => if (k == NameKind.free && env.scope.kind == .function && env.kindOf n == some .cell) then (n, NameKind.cell) else (n, k)).lookup y = some .cell ∨
    (names.map fun (n, k) => if (k == NameKind.free && env.scope.kind == .function && env.kindOf n == some .cell) then (n, NameKind.cell) else (n, k)).lookup y = some .free
  | [], h => by simp at h
  | (n, k) :: r, h => by
    have ih := @relabel_look env y r
    by_cases e : y = n
    · subst e
      simp only [List.lookup_cons, beq_self_eq_true] at h
      simp only [List.map_cons]
      rcases h with h | h <;> (cases h; split <;> simp)
    · have e' : (y == n) = false := by simpa using e
      simp only [List.lookup_cons, e'] at h
      have q := ih h
      simp only [List.map_cons]
      split <;> simpa [List.lookup_cons, e'] using q
/-- a comprehension within a comprehension -/
theorem blkOk_in {N : List Str} {sc scope : Scope} {own : List (Str × Nat)} {env : Env} (h : blkC N sc scope own = true) : BlkOk N (relabel sc env) scope own := by
  have b := blkOk_by h
  exact ⟨b.kind, b.uniq, b.ix, fun y hy e => relabel_look (b.free y hy e), b.own⟩
/-- tuple(xs) -/
def rTupOf (K : PySem.W.Frag) : List V → Hp → VK → Prop := fun xs H Q => ∃ p ys, xs = [.ref p] ∧ ((SqL K H p ys ∧ ∀ l, H l = Option.none → Q (.ref l) (upd H l (.tup ys))) ∨ (SqT K H p ys ∧ Q (.ref p) H))
theorem dpAll_app {K : PySem.W.Frag} {H : Hp} : ∀ {xs ys : List V} {ds es : List PyData}, DpAll K H xs ds → DpAll K H ys es → DpAll K H (xs ++ ys) (ds ++ es)
  | _, _, _, _, .nil, h => h
  | _, _, _, _, .cons h t, h2 => .cons h (dpAll_app t h2)
theorem DpAll.len {K : PySem.W.Frag} {H : Hp} : ∀ {xs : List V} {ds : List PyData}, DpAll K H xs ds → xs.length = ds.length
  | _, _, .nil => rfl
  | _, _, .cons _ t => congrArg (· + 1) (DpAll.len t)
theorem dpAll_at {K : PySem.W.Frag} {H : Hp} : ∀ {xs : List V} {ds : List PyData} {i : Nat} {x : V} {d : PyData}, DpAll K H xs ds → xs[i]? = some x → ds[i]? = some d → Dp K H x d
  | _, _, _, _, _, .nil, h, _ => by simp at h
  | _, _, 0, _, _, .cons a _, h1, h2 => by
    simp at h1 h2
    subst h1 h2
    exact a
  | _, _, i + 1, _, _, .cons _ t, h1, h2 => dpAll_at (i := i) t (by simpa using h1) (by simpa using h2)
theorem dpAll_ints_eq {K : PySem.W.Frag} {H : Hp} : ∀ {xs : List V} {r : List Int}, DpAll K H xs (r.map .int) → xs = r.map V.int
  | _, [], h => by cases h; rfl
  | _, n :: r, h => by
    cases h with
    | cons a t =>
      cases a
      rw [dpAll_ints_eq t]
      rfl
section
variable {P : Program} {w : World} {K : PySem.W.Frag} {mg : Str → Option Value} {base : Heap}
/-- a tuple's items read as ints -/
theorem dpAll_ints_eq' {H : Hp} : ∀ {xs : List V} {ns : List Int}, DpAll K H xs (ns.map .int) → xs = ns.map V.int
  | [], [], _ => rfl
  | [], _ :: _, h => by cases h
  | _ :: _, [], h => by cases h
  | x :: xs, n :: ns, h => by
    cases h with
    | cons h1 h2 =>
      cases h1
      rw [dpAll_ints_eq' h2]
      rfl
theorem row_at {H : Hp} {xs : List V} {rs : List (List Int)} {i : Nat} {x : V} (h : DpAll K H xs (rs.map rD)) (hx : xs[i]? = some x) : ∃ a r, rs[i]? = some r ∧ x = .ref a ∧ SqT K H a (r.map V.int) := by
  have hi : i < rs.length := by
    have h1 := Toy.DpAll.len h
    have h2 := (List.getElem?_eq_some_iff.mp hx).1
    rw [List.length_map] at h1
    omega
  have dx2 : Dp K H x (rD rs[i]) := dpAll_at h hx (by rw [List.getElem?_map, List.getElem?_eq_getElem hi]; rfl)
  cases dx2 with
  | @tup b zs _ hb hbs =>
    have ez := dpAll_ints_eq' hbs
    subst ez
    exact ⟨b, rs[i], List.getElem?_eq_getElem hi, rfl, hb⟩
theorem rows_tup {H : Hp} {v : V} {rs : List (List Int)} (h : Dp K H v (rsD rs)) : ∃ a xs, v = .ref a ∧ SqT K H a xs ∧ DpAll K H xs (rs.map rD) := by
  cases h with
  | @tup b zs _ hb hbs => exact ⟨b, zs, rfl, hb, hbs⟩
end

theorem val3 {x y z : V} {us : List Value} (r : Vals [x, y, z] us) : ∃ a b c, us = [a, b, c] ∧ RelV x a ∧ RelV y b ∧ RelV z c := by
  cases r with
  | cons h1 t =>
    cases t with
    | cons h2 t =>
      cases t with
      | cons h3 t =>
        cases t
        exact ⟨_, _, _, rfl, h1, h2, h3⟩
section
variable {P : Program} {w : World} {K : PySem.W.Frag} {mg : Str → Option Value} {base : Heap} {Φ : Heap → Prop} {D U : Nat}
theorem isi_int {i : Int} {t : Tok} {T : String} {b : Bool} (h : PySem.W.kitOne K (.type "int") (.type T) = some b) : Isi K Φ (.int i t) T b :=
  ⟨.type "int", fun _ => True, PySem.W.kitx_int, fun _ _ => trivial, h, fun z => nomatch z⟩
theorem glo {cenv : Env} {sc : Scope} {x : Str} {k : NameKind} (e : cenv.scope = sc) (h : sc.names.lookup x = some k) : cenv.kindOf x = some k := by
  show cenv.scope.names.lookup x = _
  rw [e]
  exact h
theorem is_integer_pu (T : Txt K mg) (Sx : Stay K mg Φ) (hD : D < recursionLimit) (i : Int) (t : Tok) : PuG P w Φ D U T.is_integer.f T.is_integer.fd P_is_integer [.int i t] (· = .bool true) := by
  refine pf_of T.is_integer.F sc_is_integer Sx rfl rfl hD fun cenv ev hsc => ?_
  have hv : ∀ {pos : Pos}, PuE P w Φ cenv (bindL cenv.kindOf (P_is_integer.zip [Value.int i t]) fun _ => Option.none) (D + 1) (U + 3) (.Name "value" pos) (· = .int i t) := fun {pos} =>
    pu_name ev (by rw [hsc]; rfl) (bindL_get (i := 0) (by decide) rfl rfl (glo hsc rfl))
  exact pu_and Sx (x := true) (y := true) (pu_isi Sx ev (glo hsc rfl) T.n_isinstance (glo hsc rfl) T.n_int bo_int hv (isi_int kit_int_int))
    (fun _ => pu_not (x := false) (pu_isi Sx ev (glo hsc rfl) T.n_isinstance (glo hsc rfl) T.n_bool bo_bool hv (isi_int kit_int_bool)))
theorem is_integer_in_pu (T : Txt K mg) (Sx : Stay K mg Φ) (hD : D + 1 < recursionLimit) (i lo hi : Int) (t t2 t3 : Tok) :
    PuG P w Φ D U T.is_integer_in.f T.is_integer_in.fd P_is_integer_in [.int i t, .int lo t2, .int hi t3] (· = .bool (decide (lo ≤ i) && decide (i ≤ hi))) := by
  refine pf_of T.is_integer_in.F sc_is_integer_in Sx rfl rfl (by omega) fun cenv ev hsc => ?_
  have hv : ∀ {pos : Pos}, PuE P w Φ cenv (bindL cenv.kindOf (P_is_integer_in.zip [Value.int i t, .int lo t2, .int hi t3]) fun _ => Option.none) (D + 1) (U + 3) (.Name "value" pos) (· = .int i t) := fun {pos} =>
    pu_name ev (by rw [hsc]; rfl) (bindL_get (i := 0) (by decide) rfl rfl (glo hsc rfl))
  have hl : ∀ {pos : Pos}, PuE P w Φ cenv (bindL cenv.kindOf (P_is_integer_in.zip [Value.int i t, .int lo t2, .int hi t3]) fun _ => Option.none) (D + 1) (U + 3) (.Name "low" pos) (· = .int lo t2) := fun {pos} =>
    pu_name ev (by rw [hsc]; rfl) (bindL_get (i := 1) (by decide) rfl rfl (glo hsc rfl))
  have hh : ∀ {pos : Pos}, PuE P w Φ cenv (bindL cenv.kindOf (P_is_integer_in.zip [Value.int i t, .int lo t2, .int hi t3]) fun _ => Option.none) (D + 1) (U + 3) (.Name "high" pos) (· = .int hi t3) := fun {pos} =>
    pu_name ev (by rw [hsc]; rfl) (bindL_get (i := 2) (by decide) rfl rfl (glo hsc rfl))
  refine PuE.imp (pu_and Sx (x := true) (y := decide (lo ≤ i) && decide (i ≤ hi)) (pu_call (f := T.is_integer.f) (R := (· = .bool true)) Sx ev (glo hsc rfl) T.is_integer.g T.is_integer.F.kp (pua_cons Sx hv pua_nil) ?_)
    (fun _ => pu_chain Sx (PuE.imp hl fun y e => ⟨t2, e⟩) (PuE.imp hv fun y e => ⟨t, e⟩) (PuE.imp hh fun y e => ⟨t3, e⟩))) fun y e => ?_
  · rintro us ⟨u, vs, rfl, rfl, rfl⟩
    exact PuG.pos (is_integer_pu T Sx hD i t) Sx (b_is_integer T) rfl
  · rw [e, Bool.true_and]
/-- the two as promises -/
def sp_is_integer : Sp := fun vs H Q _ => ∃ i : Int, vs = [.int i] ∧ Q (.bl true) H
theorem ok_is_integer (T : Txt K mg) : FnOk P w K mg base CX0 1 T.is_integer.f T.is_integer.fd P_is_integer sp_is_integer := by
  refine fnOk_pu (fun vs H Q E h => ?_) (fun A outer s H us vs Q E hr he hv h => ?_)
  · obtain ⟨i, rfl, _⟩ := h; rfl
  · obtain ⟨i, rfl, q⟩ := h
    obtain ⟨u, rfl, ⟨t, rfl⟩⟩ := vals1 hv
    refine ⟨fun h => Kp s.heap h, _, fun _ _ e => e, is_integer_pu T (stay_all he.mod fun b o e => (he.bs b o e).1) (by have := hr.dp; omega) i t, ?_⟩
    rintro y rfl
    exact ⟨.bl true, rfl, q⟩
def sp_is_integer_in : Sp := fun vs H Q _ => ∃ i lo hi : Int, vs = [.int i, .int lo, .int hi] ∧ Q (.bl (decide (lo ≤ i) && decide (i ≤ hi))) H
theorem ok_is_integer_in (T : Txt K mg) : FnOk P w K mg base CX0 2 T.is_integer_in.f T.is_integer_in.fd P_is_integer_in sp_is_integer_in := by
  refine fnOk_pu (fun vs H Q E h => ?_) (fun A outer s H us vs Q E hr he hv h => ?_)
  · obtain ⟨i, lo, hi, rfl, _⟩ := h; rfl
  · obtain ⟨i, lo, hi, rfl, q⟩ := h
    obtain ⟨u, u2, u3, rfl, ⟨t, rfl⟩, ⟨t2, rfl⟩, ⟨t3, rfl⟩⟩ := val3 hv
    refine ⟨fun h => Kp s.heap h, _, fun _ _ e => e, is_integer_in_pu T (stay_all he.mod fun b o e => (he.bs b o e).1) (by have := hr.dp; omega) i lo hi t t2 t3, ?_⟩
    rintro y rfl
    exact ⟨.bl _, rfl, q⟩
/-- the element of is_order's and is_monomial's all(..) -/
theorem elt_in {X : Cx} {Tb : Addr} {sc : Scope} {x : Str} {xs : List Int} {H1 : Hp} {lo hi : Int} {g : Str} {p1 p2 p3 p4 p5 : Pos} {j : Nat} {th : Tok} (T : Txt X.K X.mg) (hr : Room 12 X.A) (hx : sc.names.lookup x = some .local) (hf : sc.names.lookup ("is_integer_in" : Str) = some .globalImplicit) (hg : sc.names.lookup g = some .globalImplicit)
    (mgh : X.mg g = some (.int hi th)) (hd : (x == ("__debug__" : Str)) = false) (hd2 : (g == ("__debug__" : Str)) = false) :
    EltT X Tb sc x (.Call (.Name "is_integer_in" p1) [.Name x p2, .Constant (.int lo) j p3, .Name g p4] [] p5) (xs.map V.int) (fun i => decide (lo ≤ xs.getD i 0) && decide (xs.getD i 0 ≤ hi)) H1 := by
  intro Φ pins σ t1 cenv m i v u Sx I hΦ ev hsc _ hi' rv hm
  have hlt : i < xs.length := by have := (List.getElem?_eq_some_iff.mp hi').1; simpa using this
  rw [List.getElem?_map, List.getElem?_eq_getElem hlt] at hi'
  obtain rfl := Option.some.inj hi'
  obtain ⟨t, rfl⟩ := rv
  have eg : xs.getD i 0 = xs[i] := by rw [List.getD_eq_getElem?_getD, List.getElem?_eq_getElem hlt]; rfl
  refine PuE.imp (R := (· = .bool (decide (lo ≤ xs[i]) && decide (xs[i] ≤ hi)))) ?_ (fun y e => by rw [e]; simp only [eg])
  refine pu_call (f := T.is_integer_in.f) Sx ev (glo hsc hf) T.is_integer_in.g T.is_integer_in.F.kp (pua_cons Sx (pu_name ev (by rw [hsc]; exact hx) hm hd) (pua_cons Sx pu_int (pua_cons Sx (pu_glob Sx ev (glo hsc hg) mgh hd2) pua_nil))) ?_
  rintro us ⟨u, vs, rfl, rfl, u2, vs2, rfl, ⟨t2, rfl⟩, u3, vs3, rfl, rfl, rfl⟩
  exact PuG.pos (is_integer_in_pu T Sx (by have := hr.dp; omega) _ _ _ t t2 th) Sx (b_is_integer_in T) rfl
end

section
variable {P : Program} {w : World} {K : PySem.W.Frag} {mg : Str → Option Value} {base : Heap}
theorem okC {x qual : Str} {st : Stmt} {f : Addr} {fd : FuncData} {N ps : List Str} {k : Nat} {sp : Sp} {c : Addr} (F : Fun K x qual st f fd) (hc : fd.code = .ref c) (S : FnScope N ps (defScope st)) (len : ∀ vs H Q E, sp vs H Q E → vs.length = ps.length)
    (hbody : ∀ (A : Around) (outer : List Env) (s : Shared) (H : Hp) (vs : List V) (Q : VK) (E : XK), Room k (A.deeper (PyProof.Rows.envOfC qual (defScope st) s.heap.objs.size f (.ref c))) → sp vs H Q E →
      ∃ t, PSs (cxOf CX0 P w K mg base N qual (defScope st) f (.ref c) A outer s H E).nox (defBody st) t ∧ t { nx := fun _ H' => Q .non H', rt := Q } (L2.start N vs) H) : FnOk P w K mg base CX0 (k + 1) f fd ps sp := by
  obtain ⟨oc, od, kV, doc, pm, an, cdv, ct, osl, rfl, lk, hcd⟩ := F.ex
  have e : cdv = .ref c := hc
  subst e
  refine fn_of lk hcd S len fun A outer s H vs Q E hr hsp => ?_
  obtain ⟨t, h, q⟩ := hbody A outer s H vs Q E hr hsp
  exact ⟨t, h.nox, q⟩
end

/-! ### tables of the defs that make generator expressions and lambdas -/
def gensL : List Str := ["is_row_of_integers"]
def lamsL : List Str := []
structure TabsAt where
  a : Str → Addr
  ne : ∀ x ∈ gensL ++ lamsL, ∀ y ∈ gensL ++ lamsL, x ≠ y → a x ≠ a y
def qLam (x : Str) : Str := x ++ ".<locals>." ++ "<lambda>"
def lamT (x : Str) (Pt : Addr) : List (Addr × Str) := [(Pt, qLam x)]
structure TS (t : TabsAt) (H : Hp) : Prop where
  g : ∀ x ∈ gensL, GxR.TabG H (t.a x)
  l : ∀ x ∈ lamsL, LamX.Tabs (lamT x (t.a x)) H
theorem tabG_eq {H H' : Hp} {p : Addr} (h : GxR.TabG H p) (e : H' p = H p) : GxR.TabG H' p := by
  obtain ⟨ps, h1, h2⟩ := h
  exact ⟨ps, e.trans h1, h2⟩
theorem TS.same {t : TabsAt} {H H' : Hp} (h : TS t H) (s : Same H H') : TS t H' := by
  have g : ∀ {p : Addr}, GxR.TabG H p → GxR.TabG H' p := fun {p} ⟨ps, h1, h2⟩ => ⟨ps, s _ _ h1, h2⟩
  exact ⟨fun x hx => g (h.g x hx), fun x hx => (h.l x hx).ext s⟩
theorem tabs_off {H H' : Hp} {x : Str} {l p : Addr} (h : LamX.Tabs (lamT x l) H) (hp : GxR.TabG H p) (n : p ≠ l) (e : ∀ b, b ≠ p → H' b = H b) : LamX.Tabs (lamT x l) H' := fun z hz => by
  unfold lamT at hz
  rw [List.mem_singleton] at hz
  subst hz
  obtain ⟨ps, a1, a2, a3⟩ := h (l, qLam x) List.mem_cons_self
  obtain ⟨ps', p1, _⟩ := hp
  refine ⟨ps, (e _ n.symm).trans a1, a2, fun pos cv hcv => ?_⟩
  obtain ⟨cz, q1, q2⟩ := a3 pos cv hcv
  refine ⟨cz, q1, (e _ fun z => ?_).trans q2⟩
  rw [z, p1] at q2
  unfold LamX.CodeO at q2
  cases q2
theorem ext_tab {H H' : Hp} {p : Addr} (hp : GxR.TabG H p) (e : GxR.Tabbed p H H') : LamX.ExtN H H' := fun b o h n => by
  obtain ⟨ps, p1, _⟩ := hp
  have nb : b ≠ p := fun z => by
    subst z
    rw [p1] at h
    exact n ps (Option.some.inj h).symm
  exact (e.2 b nb).trans h
/-- the tables when one of a generator expression has grown -/
theorem TS.tab {t : TabsAt} {H H' : Hp} (h : TS t H) {x : Str} (hx : x ∈ gensL) (hd : x ∉ lamsL) (e : GxR.Tabbed (t.a x) H H') : TS t H' := by
  refine ⟨fun y hy => ?_, fun y hy => ?_⟩
  · by_cases hxy : y = x
    · subst hxy; exact e.1
    · exact tabG_eq (h.g y hy) (e.2 _ (t.ne y (List.mem_append_left _ hy) x (List.mem_append_left _ hx) hxy))
  · have hxy : x ≠ y := fun z => hd (z ▸ hy)
    exact tabs_off (h.l y hy) (h.g x hx) (t.ne x (List.mem_append_left _ hx) y (List.mem_append_right _ hy) hxy) e.2
/-- the tables when a lambda's has grown -/
theorem TS.lam {t : TabsAt} {H H' : Hp} (h : TS t H) {x : Str} (hx : x ∈ lamsL) (hd : x ∉ gensL) (kb : ∀ b o, b ≠ t.a x → H b = some o → H' b = some o) (n : LamX.Tabs (lamT x (t.a x)) H') (hp : ∃ ps, H (t.a x) = some (.tbl ps)) : TS t H' := by
  refine ⟨fun y hy => ?_, fun y hy => ?_⟩
  · obtain ⟨ps, h1, h2⟩ := h.g y hy
    exact ⟨ps, kb _ _ (t.ne y (List.mem_append_left _ hy) x (List.mem_append_right _ hx) fun z => hd (z ▸ hy)) h1, h2⟩
  · by_cases hxy : y = x
    · subst hxy; exact n
    · intro z hz
      unfold lamT at hz
      rw [List.mem_singleton] at hz
      subst hz
      obtain ⟨ps, a1, a2, a3⟩ := h.l y hy (t.a y, qLam y) List.mem_cons_self
      obtain ⟨ps', p1⟩ := hp
      refine ⟨ps, kb _ _ (t.ne y (List.mem_append_right _ hy) x (List.mem_append_right _ hx) hxy) a1, a2, fun pos cv hcv => ?_⟩
      obtain ⟨cz, q1, q2⟩ := a3 pos cv hcv
      refine ⟨cz, q1, kb _ _ (fun z => ?_) q2⟩
      rw [z, p1] at q2
      unfold LamX.CodeO at q2
      cases q2
/-- all but tables stays, and the tables are in order -/
structure Ex (t : TabsAt) (H H' : Hp) : Prop where
  keep : LamX.ExtN H H'
  ts : TS t H'
theorem Ex.same {t : TabsAt} {H H1 H2 : Hp} (a : Ex t H H1) (s : Same H1 H2) : Ex t H H2 := ⟨fun b o e n => s _ _ (a.keep b o e n), a.ts.same s⟩
theorem Ex.trans {t : TabsAt} {H H1 H2 : Hp} (a : Ex t H H1) (b : Ex t H1 H2) : Ex t H H2 := ⟨a.keep.trans b.keep, b.ts⟩
theorem Ex.of {t : TabsAt} {H H1 : Hp} (h : TS t H) (s : Same H H1) : Ex t H H1 := ⟨LamX.ExtN.of s, h.same s⟩
theorem Ex.tab {t : TabsAt} {H H' : Hp} (h : TS t H) {x : Str} (hx : x ∈ gensL) (hd : x ∉ lamsL) (e : GxR.Tabbed (t.a x) H H') : Ex t H H' := ⟨ext_tab (h.g x hx) e, h.tab hx hd e⟩
/-! ### the generator expressions' scopes -/
def geSc : Expr → Scope
  | .GeneratorExp _ _ s _ => s
  | _ => { kind := .function, names := [], isGenerator := false, isCoroutine := false }
def ar0 : Expr → Expr
  | .Call _ (e :: _) _ _ => e
  | _ => .Constant .none 0 ⟨0, 0, 0, 0⟩
def bo0 : Expr → Expr
  | .BoolOp _ (e :: _) _ => e
  | _ => .Constant .none 0 ⟨0, 0, 0, 0⟩
def ifT : Stmt → Expr
  | .If e _ _ _ => e
  | _ => .Constant .none 0 ⟨0, 0, 0, 0⟩
def stN (s : Stmt) (i : Nat) : Stmt := (defBody s).getD i (.Pass ⟨0, 0, 0, 0⟩)
/-- the tables' owners -/
structure TBs {K : PySem.W.Frag} {mg : Str → Option Value} (T : Txt K mg) (base : Heap) (t : TabsAt) where
  c : Str → Addr
  h_is_row_of_integers : T.is_row_of_integers.fd.code = .ref (c "is_row_of_integers")
  b_is_row_of_integers : GxR.TabB base mg (c "is_row_of_integers") (t.a "is_row_of_integers")

def gI (l : List Int) (i : Nat) : Int := l.getD i 0
theorem gI_get {l : List Int} {i : Nat} (h : i < l.length) : l[i]? = some (gI l i) := by
  unfold gI; rw [List.getD_eq_getElem?_getD, List.getElem?_eq_getElem h]; rfl

/-! ### binomial coefficients -/
def ch : Nat → Nat → Nat
  | _, 0 => 1
  | 0, _ + 1 => 0
  | n + 1, k + 1 => ch n k + ch n (k + 1)
theorem ch_0 (n : Nat) : ch n 0 = 1 := by cases n <;> rfl
theorem ch_ss (n k : Nat) : ch (n + 1) (k + 1) = ch n k + ch n (k + 1) := rfl
theorem ch_lt : ∀ (n k : Nat), n < k → ch n k = 0
  | 0, 0, h => absurd h (by omega)
  | _ + 1, 0, h => absurd h (by omega)
  | 0, _ + 1, _ => rfl
  | n + 1, k + 1, h => by rw [ch_ss, ch_lt n k (by omega), ch_lt n (k + 1) (by omega)]
theorem ch_self : ∀ n : Nat, ch n n = 1
  | 0 => rfl
  | n + 1 => by rw [ch_ss, ch_self n, ch_lt n (n + 1) (by omega)]
theorem ch_step : ∀ (n k : Nat), ch n k ≤ ch (n + 1) k
  | n, 0 => by rw [ch_0, ch_0]; exact Nat.le_refl _
  | n, k + 1 => by rw [ch_ss]; omega
theorem ch_mono {m n : Nat} (k : Nat) (h : m ≤ n) : ch m k ≤ ch n k := by
  induction h with
  | refl => exact Nat.le_refl _
  | step _ ih => exact Nat.le_trans ih (ch_step _ _)
theorem ch_pos {n k : Nat} (h : k ≤ n) : 1 ≤ ch n k := by
  have := ch_mono k h
  rw [ch_self] at this
  exact this
theorem ch_strict {n k : Nat} (h : k ≤ n) : ch n (k + 1) < ch (n + 1) (k + 1) := by
  have := ch_pos h
  rw [ch_ss]; omega
theorem ch_lt_inv {m n k : Nat} (h : ch m k < ch n k) : m < n := by
  by_cases q : m < n
  · exact q
  · have := ch_mono k (show n ≤ m by omega)
    omega
theorem ch_ge {k : Nat} : ∀ (t : Nat), k + 1 ≤ t → t ≤ ch t (k + 1) + k
  | 0, h => absurd h (by omega)
  | t + 1, h => by
    by_cases q : k + 1 ≤ t
    · have := ch_ge t q
      have := ch_strict (n := t) (k := k) (by omega)
      omega
    · have e : t = k := by omega
      subst e
      rw [ch_self]; omega
theorem ch_le_pow : ∀ (n k : Nat), ch n k ≤ n ^ k
  | _, 0 => by rw [ch_0]; exact Nat.le_of_eq (Nat.pow_zero _).symm
  | 0, k + 1 => Nat.zero_le _
  | n + 1, k + 1 => by
    have h1 := ch_le_pow n k
    have h2 := ch_le_pow n (k + 1)
    have h3 : n ^ k ≤ (n + 1) ^ k := Nat.pow_le_pow_left (by omega) k
    rw [Nat.pow_succ] at h2
    rw [ch_ss, Nat.pow_succ, Nat.mul_succ]
    have h4 : n ^ k * n ≤ (n + 1) ^ k * n := Nat.mul_le_mul_right n h3
    omega
theorem ch_bound {n k : Nat} (hn : n < 2 ^ 21) (hk : k ≤ 16) : ch n k < 2 ^ 337 := by
  have h1 := ch_le_pow n k
  have h2 : n ^ k ≤ (2 ^ 21) ^ k := Nat.pow_le_pow_left (by omega) k
  have h3 : ((2 : Nat) ^ 21) ^ k ≤ (2 ^ 21) ^ 16 := Nat.pow_le_pow_right (by decide) hk
  have h4 : ((2 : Nat) ^ 21) ^ 16 < 2 ^ 337 := by decide +kernel
  omega
theorem ch_symm : ∀ (n a b : Nat), a + b = n → ch n a = ch n b
  | 0, a, b, h => by
    have ha : a = 0 := by omega
    have hb : b = 0 := by omega
    subst ha hb; rfl
  | n + 1, 0, b, h => by
    have e : b = n + 1 := by omega
    subst e
    rw [ch_0, ch_self]
  | n + 1, a + 1, 0, h => by
    have e : a = n := by omega
    subst e
    rw [ch_0, ch_self]
  | n + 1, a + 1, b + 1, h => by
    rw [ch_ss, ch_ss, ch_symm n a (b + 1) (by omega), ch_symm n (a + 1) b (by omega)]
    omega
theorem ch_mul : ∀ (n k : Nat), (ch n (k + 1) : Int) * ((k : Int) + 1) = (ch n k : Int) * ((n : Int) - k)
  | 0, 0 => by decide
  | 0, k + 1 => by
    show ((0 : Nat) : Int) * _ = ((0 : Nat) : Int) * _
    simp
  | n + 1, 0 => by
    have ih := ch_mul n 0
    rw [ch_0] at ih
    have e : ch (n + 1) (0 + 1) = 1 + ch n (0 + 1) := by rw [ch_ss, ch_0]
    rw [e, ch_0]
    simp at ih ⊢
    omega
  | n + 1, k + 1 => by
    have i1 := ch_mul n k
    have i2 := ch_mul n (k + 1)
    rw [ch_ss, ch_ss]
    simp only [Int.natCast_add, Int.natCast_one] at i1 i2 ⊢
    grind
/-- what math.comb gives -/
theorem fp_next (n : Int) : ∀ k : Nat, Builtin.Math.fallingProduct (n + 1) (k + 1) = (n + 1) * Builtin.Math.fallingProduct n k
  | 0 => by
    rw [PySem.W.mc_fp_succ, PySem.W.mc_fp_zero, PySem.W.mc_fp_zero]
    simp
  | k + 1 => by
    rw [PySem.W.mc_fp_succ, fp_next n k, PySem.W.mc_fp_succ]
    simp only [Int.natCast_add, Int.natCast_one]
    grind
theorem fp_ch (n : Nat) : ∀ k : Nat, Builtin.Math.fallingProduct (n : Int) k = (ch n k : Int) * Builtin.Math.fallingProduct (k : Int) k
  | 0 => by
    rw [PySem.W.mc_fp_zero, PySem.W.mc_fp_zero, ch_0]; rfl
  | k + 1 => by
    have h := ch_mul n k
    rw [PySem.W.mc_fp_succ, fp_ch n k]
    rw [show (((k + 1 : Nat)) : Int) = (k : Int) + 1 by omega, fp_next]
    grind
theorem comb_ch (n k : Nat) : PySem.W.mcComb (n : Int) (k : Int) = (ch n k : Int) := by
  by_cases h : k ≤ n
  · have go : ∀ m : Nat, m ≤ n → Builtin.Math.fallingProduct (n : Int) m / Builtin.Math.fallingProduct (m : Int) m = (ch n m : Int) := fun m _ => by
      have hp := PySem.W.mc_fp_pos (n := (m : Int)) m (Int.le_refl _)
      rw [fp_ch]
      exact Int.mul_ediv_cancel _ (by omega)
    by_cases hk : k ≤ n - k
    · rw [PySem.W.mcComb_at (m := (k : Int)) (by omega) (by omega) (by omega)]
      exact go k h
    · rw [PySem.W.mcComb_at (m := ((n - k : Nat) : Int)) (by omega) (by omega) (by omega), ch_symm n k (n - k) (by omega)]
      exact go (n - k) (by omega)
  · rw [PySem.W.mcComb_above (by omega), ch_lt n k (by omega)]
    rfl
/-! ### expansions -/
inductive Exn : Nat → Nat → List Nat → Prop
  | nil (d : Nat) : Exn d 0 []
  | cons {d n t : Nat} {as : List Nat} (h1 : d + 1 ≤ t) (h2 : ch t (d + 1) ≤ n) (h3 : n < ch (t + 1) (d + 1)) (h : Exn d (n - ch t (d + 1)) as) : Exn (d + 1) n (t :: as)
def sumC : Nat → List Nat → Nat
  | _, [] => 0
  | d, t :: as => ch t d + sumC (d - 1) as
def sumR : Nat → List Nat → Nat
  | _, [] => 0
  | d, t :: as => ch (t + 1) (d + 1) + sumR (d - 1) as
theorem Exn.len {d n : Nat} {as : List Nat} (h : Exn d n as) : as.length ≤ d := by
  induction h with
  | nil d => exact Nat.zero_le _
  | cons _ _ _ _ ih => simpa using ih
theorem Exn.sum {d n : Nat} {as : List Nat} (h : Exn d n as) : sumC d as = n := by
  induction h with
  | nil d => rfl
  | cons h1 h2 h3 _ ih =>
    show ch _ _ + sumC _ _ = _
    rw [Nat.add_sub_cancel, ih]
    omega
theorem Exn.bound {d n : Nat} {as : List Nat} (h : Exn d n as) : ∀ t ∈ as, t ≤ n + d := by
  induction h with
  | nil d => intro t h; simp at h
  | cons h1 h2 h3 _ ih =>
    intro t ht
    rcases List.mem_cons.mp ht with e | q
    · subst e
      have := ch_ge _ h1
      omega
    · have := ih t q
      omega
theorem Exn.ge {d n : Nat} {as : List Nat} (h : Exn d n as) : ∀ (i t : Nat), as[i]? = some t → d ≤ t + i := by
  induction h with
  | nil d => intro i t h; simp at h
  | cons h1 h2 h3 _ ih =>
    intro i t ht
    cases i with
    | zero => simp at ht; omega
    | succ i =>
      have := ih i t (by simpa using ht)
      omega
theorem Exn.head_lt {d n s t : Nat} {as : List Nat} (h : Exn d n (t :: as)) (hs : n < ch s d) : t < s := by
  cases h with
  | cons h1 h2 h3 _ => exact ch_lt_inv (Nat.lt_of_le_of_lt h2 hs)
theorem Exn.desc {d n : Nat} {as : List Nat} (h : Exn d n as) : ∀ (i s t : Nat), as[i]? = some s → as[i + 1]? = some t → t < s := by
  induction h with
  | nil d => intro i s t h; simp at h
  | @cons d n u as h1 h2 h3 hr ih =>
    intro i s t hs ht
    cases i with
    | zero =>
      simp at hs
      subst hs
      cases as with
      | nil => simp at ht
      | cons v as =>
        simp at ht
        subst ht
        refine hr.head_lt ?_
        rw [ch_ss] at h3
        omega
    | succ i => exact ih i s t (by simpa using hs) (by simpa using ht)
theorem Exn.raise_lt {d n : Nat} {as : List Nat} (h : Exn d n as) : ∀ s, n < ch (s + 1) d → sumR d as < ch (s + 2) (d + 1) := by
  induction h with
  | nil d =>
    intro s hs
    show 0 < _
    have : d ≤ s + 1 := by
      by_cases q : d ≤ s + 1
      · exact q
      · rw [ch_lt _ _ (by omega)] at hs; omega
    exact ch_pos (by omega)
  | @cons d n t as h1 h2 h3 hr ih =>
    intro s hs
    have ht : t < s + 1 := ch_lt_inv (Nat.lt_of_le_of_lt h2 hs)
    show ch (t + 1) (d + 1 + 1) + sumR (d + 1 - 1) as < _
    rw [Nat.add_sub_cancel]
    obtain ⟨u, rfl⟩ : ∃ u, t = u + 1 := ⟨t - 1, by omega⟩
    have h4 : n - ch (u + 1) (d + 1) < ch (u + 1) d := by rw [ch_ss (u + 1)] at h3; omega
    have h5 := ih u h4
    have h6 : ch (u + 2 + 1) (d + 1 + 1) ≤ ch (s + 2) (d + 1 + 1) := ch_mono _ (by omega)
    rw [ch_ss] at h6
    show ch (u + 2) (d + 1 + 1) + _ < _
    omega
theorem Exn.mono {d m : Nat} {as : List Nat} (h : Exn d m as) : ∀ {n : Nat} {bs : List Nat}, Exn d n bs → m < n → sumR d as < sumR d bs := by
  induction h with
  | nil d =>
    intro n bs hb hn
    cases hb with
    | nil => omega
    | @cons d n t bs h1 h2 h3 hr =>
      show 0 < ch (t + 1) (d + 1 + 1) + _
      have := ch_pos (show d + 1 + 1 ≤ t + 1 by omega)
      omega
  | @cons d m u as g1 g2 g3 gr ih =>
    intro n bs hb hn
    cases hb with
    | nil => omega
    | @cons d n t bs h1 h2 h3 hr =>
      have hut : u < t + 1 := ch_lt_inv (Nat.lt_of_le_of_lt g2 (Nat.lt_trans hn h3))
      show ch (u + 1) (d + 1 + 1) + sumR (d + 1 - 1) as < ch (t + 1) (d + 1 + 1) + sumR (d + 1 - 1) bs
      rw [Nat.add_sub_cancel]
      by_cases e : u = t
      · subst e
        have := ih hr (by omega)
        omega
      · obtain ⟨s, rfl⟩ : ∃ s, t = s + 1 := ⟨t - 1, by omega⟩
        have hm : m < ch (s + 1) (d + 1) := Nat.lt_of_lt_of_le g3 (ch_mono _ (by omega))
        have := (Exn.cons g1 g2 g3 gr).raise_lt s hm
        have e2 : sumR (d + 1) (u :: as) = ch (u + 1) (d + 1 + 1) + sumR (d + 1 - 1) as := rfl
        rw [Nat.add_sub_cancel] at e2
        rw [e2] at this
        show _ < ch (s + 2) (d + 1 + 1) + _
        omega
theorem Exn.one {d a : Nat} {as : List Nat} (h : Exn (d + 1) (ch a (d + 1)) as) (ha : d + 1 ≤ a) : sumR (d + 1) as = ch (a + 1) (d + 1 + 1) := by
  generalize hn : ch a (d + 1) = n at h
  cases h with
  | nil => have := ch_pos ha; omega
  | @cons d n t as h1 h2 h3 hr =>
    subst hn
    have h4 : a < t + 1 := ch_lt_inv h3
    have h5 : t ≤ a := by
      by_cases q : t ≤ a
      · exact q
      · have := ch_strict (n := a) (k := d) (by omega)
        have := ch_mono (d + 1) (show a + 1 ≤ t by omega)
        omega
    have e : t = a := by omega
    subst e
    rw [Nat.sub_self] at hr
    have e2 : as = [] := by
      cases as with
      | nil => rfl
      | cons v as =>
        generalize hz : 0 = z at hr
        cases hr with
        | cons q1 q2 q3 _ => have := ch_pos q1; omega
    subst e2
    rfl
theorem Exn.uniq {d n : Nat} {as : List Nat} (h : Exn d n as) : ∀ {bs : List Nat}, Exn d n bs → as = bs := by
  induction h with
  | nil d =>
    intro bs hb
    generalize hz : 0 = z at hb
    cases hb with
    | nil => rfl
    | cons q1 q2 q3 _ => have := ch_pos q1; omega
  | @cons d n t as h1 h2 h3 hr ih =>
    intro bs hb
    cases hb with
    | nil => have := ch_pos h1; omega
    | @cons _ _ u bs g1 g2 g3 gr =>
      have a1 : t < u + 1 := ch_lt_inv (Nat.lt_of_le_of_lt h2 g3)
      have a2 : u < t + 1 := ch_lt_inv (Nat.lt_of_le_of_lt g2 h3)
      have e : t = u := by omega
      subst e
      rw [ih gr]
theorem sumC_snoc : ∀ (d : Nat) (as : List Nat) (t : Nat), sumC d (as ++ [t]) = sumC d as + ch t (d - as.length)
  | d, [], t => by simp [sumC]
  | d, a :: as, t => by
    show ch a d + sumC (d - 1) (as ++ [t]) = ch a d + sumC (d - 1) as + _
    rw [sumC_snoc]
    simp only [List.length_cons]
    rw [show d - (as.length + 1) = d - 1 - as.length by omega]
    omega
theorem sumR_snoc : ∀ (d : Nat) (as : List Nat) (t : Nat), sumR d (as ++ [t]) = sumR d as + ch (t + 1) (d - as.length + 1)
  | d, [], t => by simp [sumR]
  | d, a :: as, t => by
    show ch (a + 1) (d + 1) + sumR (d - 1) (as ++ [t]) = ch (a + 1) (d + 1) + sumR (d - 1) as + _
    rw [sumR_snoc]
    simp only [List.length_cons]
    rw [show d - (as.length + 1) = d - 1 - as.length by omega]
    omega
theorem take_snoc {as : List Nat} {i t : Nat} (h : as[i]? = some t) : as.take (i + 1) = as.take i ++ [t] := by
  rw [List.take_add_one, h]; rfl
theorem small_comb : ∀ d, d < 13 → ∀ m, m < 6 → ch (d + m - 1) (m - 1) ≤ 1000000 := by decide +kernel

/-! ### enumerate(tuple) -/
section
open PySem.Spec PyProof.Rows
theorem meets_enumT {v : Value} {o : Obj} {H : Heap → Prop} (B : Begins v o H) :
    Meets (Builtin.«enumerate.__new__» ⟨[.type "enumerate", v], []⟩) (fun _ R s => H s.heap ∧
      R (.ok (.ret (.ref (s.heap.push o).objs.size))) { s with heap := (s.heap.push o).push { cls := .type "enumerate", data := .fields #[.none, .bool false, .ref s.heap.objs.size, rawInt 0, .none, .none] } }) :=
  .of_wp fun prog w A R s h => by
    obtain ⟨hp, g, d, tk, os⟩ := s
    obtain ⟨h1, h⟩ := h
    have hsub := sub_enumerate
    have q1 : ∀ {A' : Around} {E : Value → Shared → Prop} {Q : Value → Shared → Prop}, Q (.ref hp.objs.size) ⟨hp.push o, g, d, tk, os⟩ → wpAny (model prog w) A' (pyIter v) Q E ⟨hp, g, d, tk, os⟩ :=
      fun q => B.iter prog w _ _ ⟨hp, g, d, tk, os⟩ _ h1 q
    wp_walk using q1
    refine wpAny_stack_any fun st => wpAny_pure ?_
    split
    · rename_i c _ _ _ _ _
      cases (c == Value.type "enumerate")
      · wp_walk using q1
        exact ⟨_, rfl, h⟩
      · wp_walk using q1
        exact ⟨_, rfl, h⟩
    · wp_walk using q1
      exact ⟨_, rfl, h⟩
theorem enum_beginsT {prog : Program} {w : World} {A : Around} {E : Value → Shared → Prop} {s : Shared} {v : Value} {o : Obj} {H : Heap → Prop} {Q : Value → Shared → Prop} (B : Begins v o H) (h1 : H s.heap)
    (h : ∀ h', IsEnum h' (s.heap.objs.size + 1) s.heap.objs.size 0 .none → h'.get? s.heap.objs.size = some o → h'.objs.size = s.heap.objs.size + 2 →
      (∀ b o, s.heap.get? b = some o → h'.get? b = some o) → Q (.ref (s.heap.objs.size + 1)) { s with heap := h' }) :
    wpAny (model prog w) A (call (.type "enumerate") [v]) Q E s := by
  refine callType_new PySem.F.called_enumerate (by decide) (PySem.F.typeCall_enumerate_1 _) (PySem.F.newCall_enumerate_1 _) (fun obj => PySem.F.args_object_init_2 obj _) PySem.F.entry_enumerate_new (meets_enumT B) ⟨h1, ?_⟩
  have hz : (s.heap.push o).objs.size = s.heap.objs.size + 1 := Heap.size_push ..
  show _ ∧ _
  rw [hz]
  have he : IsEnum ((s.heap.push o).push { cls := .type "enumerate", data := .fields #[.none, .bool false, .ref s.heap.objs.size, rawInt 0, .none, .none] }) (s.heap.objs.size + 1) s.heap.objs.size 0 .none := by
    have := Heap.get?_push_size (s.heap.push o) (o := { cls := .type "enumerate", data := .fields #[.none, .bool false, .ref s.heap.objs.size, rawInt 0, .none, .none] }) rfl
    rw [hz] at this
    exact this
  refine ⟨⟨_, he, rfl⟩, h _ he (Heap.get?_push_of_some _ (Heap.get?_push_size _ B.free)) (by rw [Heap.size_push, hz]) fun b o x => Heap.get?_push_of_some _ (Heap.get?_push_of_some _ x)⟩
end
section
open PySem.Spec PyProof.Rows
/-- the tuple at a, each item in a new pair -/
def ItET (K : PySem.W.Frag) (a : Addr) : It :=
  ⟨fun i H => ∃ (xs : List V) (x : V), SqT K H a xs ∧ xs[i]? = some x, fun i H v H' => ∃ T x, v = .ref T ∧ H T = none ∧ H' = upd H T (.tup [.int (i : Nat), x]) ∧ ∀ xs, SqT K H a xs → xs[i]? = some x, fun i H => ∃ xs : List V, SqT K H a xs ∧ xs.length = i⟩
theorem turn_enumT {P : Program} {w : World} {K : PySem.W.Frag} {elts : List Expr} {kk : Nat} {tpos : Pos} (a e it : Addr) :
    Turn P w K (.Tuple elts kk tpos) (ItET K a) [e, it] e (fun i h => (∃ old, IsEnum h e it ((i : Nat) : Int) old) ∧ h.IsTupleIter it a i ∧ e ≠ it ∧ a ≠ it ∧ a ≠ e) where
  mem := by simp
  obj := fun i h st b hb => by
    obtain ⟨⟨old, he⟩, ⟨o, ho, hc, hd⟩, _⟩ := st
    have e' : b = e ∨ b = it := by simpa using hb
    rcases e' with z | z
    · rw [z]; exact ⟨_, he, fun v q => nomatch q⟩
    · rw [z]; exact ⟨o, ho, fun v q => by rw [hd] at q; cases q⟩
  keep := fun i h h' st k => let ⟨⟨old, he⟩, hi, hne⟩ := st; ⟨⟨old, k e (by simp) _ he⟩, hi.at fun o q => k it (by simp) o q, hne⟩
  item := by
    intro X hP hw hK hc i pins s σ H E I hf st hg
    subst hP hw hK
    obtain ⟨⟨old, he⟩, hit, hne, hai, hae⟩ := st
    obtain ⟨xs, x, hq, hx⟩ := hg
    obtain ⟨its, rv, htup, hz⟩ := I.tuple hq
    obtain ⟨u, hu, ru⟩ := rv.get hx
    have hlt : i < its.toArray.size := by simpa using (List.getElem?_eq_some_iff.mp hu).1
    have hel : e < s.heap.objs.size := Heap.lt_size he
    have hil : it < s.heap.objs.size := by obtain ⟨_, q, _⟩ := hit; exact Heap.lt_size q
    have hef : e ∉ [it, a] := by simp [hne, Ne.symm hae]
    refine wpAny_pyNext_enum_itemD (Draws.tuple (A := X.A.in1) (I.ok.hd hc) it a hai its.toArray) he ⟨hit, htup⟩ hlt hne hef fun x' h' tk hx' ho hst' hT hsz hk => ?_
    have ex : x' = u := by
      have q : its[i]? = some x' := by simpa using hx'
      rw [hu] at q
      exact (Option.some.inj q).symm
    subst ex
    refine ⟨_, rfl, wpAny_letOwnedTupleGo_enum (s := { s with heap := h', toks := tk + 1 }) ho fun h'' he' sb => ?_⟩
    have hT2 : h''.get? s.heap.objs.size = some { cls := .type "tuple", data := .seq #[.int i tk, x'] } := (sb.2 _ (Nat.ne_of_gt hel)).trans hT
    have new : ObjOk X.prog X.w (upd H s.heap.objs.size (.tup [.int (i : Nat), x])) h'' s.heap.objs.size (.tup [.int (i : Nat), x]) :=
      ⟨by show 2 ≤ sizeLine; decide, [.int i tk, x'], .cons ⟨_, rfl⟩ (.cons ru .nil), ⟨_, hT2, rfl, _, rfl⟩⟩
    have I1 : Inv X pins σ (upd H s.heap.objs.size (.tup [.int (i : Nat), x])) { s with heap := h'', toks := tk + 1 } :=
      I.turnedNew (ch := [e, it]) (fun b ob hb q => (sb.2 b (fun z => hb (by simp [z]))).trans (hk b ob (fun z => hb (by simp [z])) (fun z => hb (by simp [z])) q)) hf (Nat.le_refl _) new
    refine ⟨.ref s.heap.objs.size, _, I1, rfl, ⟨_, x, rfl, I.hok.fresh (Nat.le_refl _), rfl, fun ys hy => ?_⟩, ⟨⟨x', ?_⟩, hst'.1.at fun o q => (sb.2 it (Ne.symm hne)).trans q, hne, hai, hae⟩, fun b hb => ?_⟩
    · rw [I.tuple_inj hy hq]
      exact hx
    · have e1 : ((i + 1 : Nat) : Int) = (i : Int) + 1 := by omega
      rw [e1]; exact he'
    · have hb' : b < s.heap.objs.size := by
        have e' : b = e ∨ b = it := by simpa using hb
        rcases e' with z | z
        · rw [z]; exact hel
        · rw [z]; exact hil
      rw [upd_ne (Nat.ne_of_lt hb')]
      exact (hf b hb).1
  done := by
    intro X hP hw hK hc i pins s σ H E I hf st hg
    subst hP hw hK
    obtain ⟨⟨old, he⟩, hit, hne, hai, hae⟩ := st
    obtain ⟨xs, hq, hx⟩ := hg
    obtain ⟨its, rv, htup, hz⟩ := I.tuple hq
    obtain ⟨f0, f1, f2, f3, f4, f5⟩ := hf it (by simp)
    have hl : its.toArray.size = i := by rw [List.size_toArray, ← hx]; exact rv.length.symm
    refine wpAny_pyNext_enum_endD (Draws.tuple (A := X.A.in1) (I.ok.hd hc) it a hai its.toArray) he (by rw [hl]; exact ⟨hit, htup⟩) fun h' eb => ⟨rfl, I.turned (t' := s.toks) (fun b o hb q => eb b o hb q) f0 f1 f3 f4 f5⟩
  self := fun A i s Q E st h => let ⟨⟨_, he⟩, _⟩ := st; wpAny_pyIter_enum he h
def iEnumT (K : PySem.W.Frag) (ta : TA) : TI := fun σ H R => ta σ H fun vs H1 => ∃ a xs, vs = [.ref a] ∧ SqT K H1 a xs ∧ R (ItET K a) H1
theorem pi_enumT {X : Cx} {e : Expr} {ta : TA} {p pos tpos : Pos} {elts : List Expr} {kk : Nat} (hg : Gl X "enumerate") (hm : X.mg "enumerate" = none) (ha : PA X [e] ta) (hs : starEach [e] X.env = [(false, eval e X.env)] := by rfl) :
    PI X (.Tuple elts kk tpos) (.Call (.Name "enumerate" p) [e] [] pos) (iEnumT X.K ta) := by
  refine ⟨fun pins s σ H R I h => ?_⟩
  refine Call_ (ld_blt I hg hm boot_enumerate (PyProof.Rows.callWith_type1 (thn (ha.run pos pins s σ H _ I h) fun us s1 ⟨vs, H1, I1, r1, q1⟩ => ?_) hs rfl))
  obtain ⟨a, xs, ex, hq, q⟩ := q1
  subst ex
  cases r1 with
  | cons r rr =>
    cases rr
    cases r
    obtain ⟨its, rv, htup, hz⟩ := I1.tuple hq
    have htup' : s1.heap.IsTuple a its.toArray := htup
    have la : a < s1.heap.objs.size := by obtain ⟨o, e, _⟩ := htup; exact Heap.lt_size e
    refine enum_beginsT (begins_tuple a its.toArray) htup' fun h' he hit hsz hk => wpAny_pyIter_enum he ?_
    have I2 : Inv X pins σ H1 { s1 with heap := h' } := I1.kept (t' := s1.toks) hk
    refine ⟨s1.heap.objs.size + 1, [s1.heap.objs.size + 1, s1.heap.objs.size], _, _, H1, rfl, I2, turn_enumT a (s1.heap.objs.size + 1) s1.heap.objs.size, ⟨⟨.none, he⟩, ⟨_, hit, rfl, rfl⟩, Nat.succ_ne_self _, Nat.ne_of_lt la, Nat.ne_of_lt (Nat.lt_succ_of_lt la)⟩, fun b hb => ?_, q⟩
    have e' : b = s1.heap.objs.size + 1 ∨ b = s1.heap.objs.size := by simpa using hb
    have hle : s1.heap.objs.size ≤ b := by
      rcases e' with z | z
      · rw [z]; exact Nat.le_add_right _ _
      · rw [z]; exact Nat.le_refl _
    exact I1.fpOk hle (I1.hok.fresh hle)
theorem walk_enumT {K : PySem.W.Frag} {a : Addr} {xs : List V} : Walk (ItET K a) xs.length (fun H => SqT K H a xs) (YPair (fun i => some (.int (i : Nat))) (fun i => xs[i]?)) := by
  refine ⟨fun i _ hi q => ⟨xs, xs[i], q, by simp [hi]⟩, fun _ q => ⟨xs, q, rfl⟩, fun i H v H' _ q y => ?_⟩
  obtain ⟨T, x, h1, h2, h3, h4⟩ := y
  exact ⟨T, .int (i : Nat), x, h1, h2, h3, rfl, h4 xs q⟩
end

theorem pg_tupK {X : Cx} {K : PySem.W.Frag} {es : List Expr} {k : Nat} {pos : Pos} {t : TGs} {n : Nat} (hK : X.K = K) (hc : X.calm = true) (h : PGs X es t)
    (hn : (assignEach es X.env).length = n := by rfl) (hst : (assignEach es X.env).findIdx? (·.1) = none := by rfl) : PG X (.Tuple es k pos) (gTup K n t) := by
  subst hK
  exact pg_tup hc h hn hst
theorem walk_zipTT {K : PySem.W.Frag} {a b : Addr} {xs ys : List V} {n : Nat} (hn : n = min xs.length ys.length) : Walk (RZ.ItzT K a b) n (fun H => SqT K H a xs ∧ SqT K H b ys) (YPair (fun i => xs[i]?) (fun i => ys[i]?)) := by
  refine ⟨fun i H hi h => ?_, fun H h => ?_, fun i H x H' hi h q => ?_⟩
  · have h1 : i < xs.length := by omega
    have h2 : i < ys.length := by omega
    exact ⟨xs, ys, _, _, h.1, h.2, List.getElem?_eq_getElem h1, List.getElem?_eq_getElem h2⟩
  · exact ⟨xs, ys, h.1, h.2, by omega⟩
  · obtain ⟨T, x1, y1, e1, e2, e3, e4, e5⟩ := q
    exact ⟨T, x1, y1, e1, e2, e3, e4 _ h.1, e5 _ h.2⟩

section
variable {g : TG} {te : TE} {σ : L2.St} {vs : List Nat} {c : Bool} {Fi Fl : Hp → Prop} {H1 : Hp} {J : It} {n : Nat} {G : Hp → Prop} {Y : Nat → Hp → V → Hp → Prop}
/-- over any walk -/
theorem gx_it (w : Walk J n G Y) (Pv : Nat → Hp → Prop) (h0 : Pv 0 H1) (hG : ∀ i H, i ≤ n → Pv i H → G H)
    (hs : ∀ i x H H', i < n → Pv i H → Y i H x H' → g x σ H' fun σ2 H2 => wipe σ2 vs = σ ∧ te σ2 H2 fun y H3 => ∃ b, y = .bl b ∧ (b = c → Fl H3) ∧ (b = !c → Pv (i + 1) H3)) (hd : ∀ H, Pv n H → Fi H) :
    ∃ W : Nat → Nat → Hp → Prop, (∃ m, W 0 m H1) ∧ GxTurn J g te σ vs c Fi Fl W := by
  refine ⟨fun i m H => m = n - i ∧ i ≤ n ∧ Pv i H, ⟨n, by simp, Nat.zero_le _, h0⟩, ?_⟩
  rintro i m H ⟨rfl, hi, p⟩
  have q := hG i H hi p
  by_cases hlt : i < n
  · exact .inr ⟨w.goes i H hlt q, Pv (i + 1), fun H' p' => ⟨n - (i + 1), by omega, rfl, hlt, p'⟩, fun x H' y => hs i x H H' hlt p (w.yields i H x H' hlt q y)⟩
  · have e : i = n := by omega
    subst e
    exact .inl ⟨w.stops H q, hd H p⟩
end
theorem at_gI {ns : List Int} {i : Nat} (h : i < ns.length) : (ns.map V.int)[i]? = some (.int (gI ns i)) := by rw [List.getElem?_map, gI_get h]; rfl
theorem gI_of {ns : List Int} {i : Nat} {x : V} (h : (ns.map V.int)[i]? = some x) : i < ns.length ∧ x = .int (gI ns i) := by
  have hi : i < ns.length := by have := (List.getElem?_eq_some_iff.mp h).1; simpa using this
  rw [at_gI hi] at h
  exact ⟨hi, (Option.some.inj h).symm⟩
theorem pi_tupK {X : Cx} {K : PySem.W.Frag} {tg l : Expr} {tl : TE} (hK : X.K = K) (hl : PE X l tl) : PI X tg l (iTup K tl) := by
  subst hK
  exact pi_tup hl
theorem pi_listK {X : Cx} {K : PySem.W.Frag} {tg l : Expr} {tl : TE} (hK : X.K = K) (hl : PE X l tl) : PI X tg l (iList K tl) := by
  subst hK
  exact pi_list hl
theorem two_line : 2 ≤ sizeLine := by decide
/-- t + u, tuples: one of them, or a new one -/
theorem catA {K : PySem.W.Frag} {H : Hp} {a b : Addr} {xs ys : List V} {Q : VK} (ha : SqT K H a xs) (hb : SqT K H b ys) (hz : xs.length + ys.length ≤ sizeLine) (h : ∀ p H', Same H H' → SqT K H' p (xs ++ ys) → Q (.ref p) H') : rCatA K (.ref a) (.ref b) H Q := by
  refine ⟨a, b, xs, ys, rfl, rfl, ha, hb, hz, fun e => ?_, fun _ e => ?_, fun _ _ p hp => h p _ (same_upd hp) (.inl (.inl upd_same))⟩
  · subst e; exact h b H (Same.refl _) hb
  · subst e; exact h a H (Same.refl _) (by rw [List.append_nil]; exact ha)
/-- (x,) * n -/
theorem repA {K : PySem.W.Frag} {H : Hp} {a : Addr} {x : V} {n : Nat} {Q : VK} (ha : SqT K H a [x]) (hn : 1 ≤ n) (hz : n ≤ 1000) (h : ∀ p H', Same H H' → SqT K H' p (List.replicate n x) → Q (.ref p) H') : rRepA K (.ref a) (.int n) H Q := by
  by_cases e : n = 1
  · subst e
    exact .inr ⟨a, _, rfl, rfl, ha, h a H (Same.refl _) ha⟩
  · refine .inl ⟨a, n, [x], rfl, rfl, ha, by simp, by omega, by omega, by simp, fun p hp => h p _ (same_upd hp) (.inl (.inl ?_))⟩
    have ef : ∀ k : Nat, (List.replicate k [x]).flatten = List.replicate k x := fun k => by
      induction k with
      | zero => rfl
      | succ k ih => rw [List.replicate_succ, List.flatten_cons, ih]; rfl
    rw [upd_same, Int.toNat_natCast, ef]
theorem TS.lst {t : TabsAt} {H : Hp} {p : Addr} {ys zs : List V} (h : TS t H) (hp : H p = some (.lst ys)) : TS t (upd H p (.lst zs)) := by
  refine ⟨fun x hx => ?_, fun x hx => ?_⟩
  · obtain ⟨ps, h1, h2⟩ := h.g x hx
    exact ⟨ps, (upd_ne fun z => by rw [z, hp] at h1; cases h1).trans h1, h2⟩
  · have : x ∈ ([] : List Str) := hx
    cases this
/-- nothing but a table stood there -/
def NewP (H : Hp) (p : Addr) : Prop := ∀ o, H p = some o → ∃ ps, o = .tbl ps
theorem NewP.of {H : Hp} {p : Addr} (h : H p = none) : NewP H p := fun o e => by rw [h] at e; cases e
theorem NewP.ex {t : TabsAt} {H H' : Hp} {p : Addr} (x : Ex t H H') (h : NewP H' p) : NewP H p := fun o e => Classical.byContradiction fun n => n (h o (x.keep p o e fun ps z => n ⟨ps, z⟩))
theorem NewP.ne {H : Hp} {p b : Addr} {o : HO} (h : NewP H p) (e : H b = some o) (n : ∀ ps, o ≠ .tbl ps) : b ≠ p := fun z => by
  subst z
  obtain ⟨ps, q⟩ := h o e
  exact n ps q
theorem Ex.lst {t : TabsAt} {H H' : Hp} {p : Addr} {ys zs : List V} (x : Ex t H H') (h0 : NewP H p) (hp : H' p = some (.lst ys)) : Ex t H (upd H' p (.lst zs)) :=
  ⟨fun b o e n => (upd_ne (h0.ne e n)).trans (x.keep b o e n), x.ts.lst hp⟩

/-! ### the model: growth; monomials, layers, the most that a layer lets follow -/
def topN (n d : Nat) : Nat := (List.range (n + d + 1)).foldl (fun a t => if ch t d ≤ n then t else a) 0
def exL : Nat → Nat → List Nat
  | 0, _ => []
  | d + 1, n => if n = 0 then [] else topN n (d + 1) :: exL d (n - ch (topN n (d + 1)) (d + 1))
def exB : Nat → Nat → List Nat → Bool
  | _, n, [] => decide (n = 0)
  | 0, _, _ :: _ => false
  | d + 1, n, t :: as => decide (d + 1 ≤ t) && decide (ch t (d + 1) ≤ n) && decide (n < ch (t + 1) (d + 1)) && exB d (n - ch t (d + 1)) as
theorem exB_of : ∀ {as : List Nat} {d n : Nat}, exB d n as = true → Exn d n as
  | [], d, n, h => by
    have e : n = 0 := by unfold exB at h; simpa using h
    subst e
    exact .nil d
  | t :: as, 0, n, h => by unfold exB at h; cases h
  | t :: as, d + 1, n, h => by
    unfold exB at h
    simp only [Bool.and_eq_true, decide_eq_true_eq] at h
    exact .cons h.1.1.1 h.1.1.2 h.1.2 (exB_of h.2)
def growN (d n : Nat) : Nat := sumR d (exL d n)
theorem ex_small {d n : Nat} (hd : d ≤ 8) (hn : n ≤ 12) (h1 : 1 ≤ d) : Exn d n (exL d n) := by
  have key : ((List.range 9).all fun d => (List.range 13).all fun n => decide (d = 0) || exB d n (exL d n)) = true := by decide +kernel
  have := List.all_eq_true.mp (List.all_eq_true.mp key d (List.mem_range.mpr (by omega))) n (List.mem_range.mpr (by omega))
  rcases Bool.or_eq_true_iff.mp this with z | z
  · have := of_decide_eq_true z
    omega
  · exact exB_of z
def mostAt (many : Nat) (vs : List Nat) (i : Nat) : Nat := if i = 0 then 1 else if i = 1 then many * vs.getD 0 0 else growN (i - 1) (vs.getD (i - 1) 0)
def gapL (many : Nat) (vs : List Nat) : Option Nat := (List.range vs.length).find? fun i => decide (mostAt many vs i < vs.getD i 0)
-- monomials
def extM (size : Nat) (m : List Int) : List (List Int) := (List.range ((size : Int) + 1 - m.sum).toNat).map fun (e : Nat) => m ++ [(e : Int)]
def monosL (many size : Nat) : List (List Int) := ((List.range (many - 1)).foldl (fun f _ => f.flatMap (extM size)) [[]]).map fun m => m ++ [(size : Int) - m.sum]
def partM (many : Nat) (m : List Int) (j : Nat) : List Int := (List.range many).map fun k => gI m k - if k = j then 1 else 0
def partsL (many : Nat) (m : List Int) : List (List Int) := ((List.range many).filter fun j => decide (0 < gI m j)).map (partM many m)
def nextL (many : Nat) (layer : List (List Int)) (size : Nat) : List (List Int) := (monosL many (size + 1)).filter fun m => (partsL many m).all fun p => decide (p ∈ layer)
def choL (ms : List (List Int)) : List (List (List Int)) := ms.foldl (fun c m => c ++ c.map fun t => t ++ [m]) [[]]
def pickL (many : Nat) (layer : List (List Int)) (size v : Nat) : List (List (List Int)) := (choL (nextL many layer size)).filter fun t => decide (t.length = v)
def dedL : List (List (List Int)) → List (List (List Int))
  | [] => []
  | a :: l => if a ∈ dedL l then dedL l else a :: dedL l
def layS (many : Nat) (vs : List Nat) (i : Nat) (s : List (List (List Int))) : Option (List (List (List Int))) :=
  if (s.all fun a => decide ((nextL many a i).length ≤ 8)) && decide ((s.flatMap fun a => pickL many a i (vs.getD (i + 1) 0)).length < 64) then some (dedL (s.flatMap fun a => pickL many a i (vs.getD (i + 1) 0))) else none
def layO (many : Nat) (vs : List Nat) : Nat → Option (List (List (List Int)))
  | 0 => some [[List.replicate many 0]]
  | i + 1 => (layO many vs i).bind (layS many vs i)
def maxI : List Int → Int
  | [] => -1
  | a :: l => if maxI l < a then a else maxI l
def mostO (many : Nat) (vs : List Nat) : Option Int := (layO many vs (vs.length - 1)).map fun s => maxI (s.map fun a => ((nextL many a (vs.length - 1)).length : Int))
/-- all that the law asks from here on, in so many turns -/
def okS : Nat → Nat → List Nat → Bool
  | 0, _, _ => true
  | f + 1, many, vs => match mostO many vs with
    | none => false
    | some m => decide (0 ≤ m) && decide (m ≤ 8) && (gapL many (vs ++ [m.toNat])).isNone && decide (gapL many (vs ++ [m.toNat + 1]) = some vs.length) &&
      (List.range (m.toNat + 1)).all fun v => (gapL many (vs ++ [v])).isNone && ((List.range 3).all fun a => (List.range 3).all fun b => match gapL many (vs ++ [v] ++ [a, b]) with
        | none => true
        | some g => decide (vs.length + 1 ≤ g)) && okS f many (vs ++ [v])
theorem ok_one : okS 5 1 [1] = true := by decide +kernel
theorem ok_two : okS 4 2 [1] = true := by decide +kernel
theorem ok_three : okS 2 3 [1] = true := by decide +kernel

/-- a tuple's kind -/
theorem ty_tup {K : PySem.W.Frag} {H : Hp} {a : Addr} {xs : List V} (h : SqT K H a xs) : TyX K H (.ref a) (.type "tuple") := by
  rcases h with (h | ⟨o, h⟩) | ⟨o, its, n, e1, e2, _⟩
  · exact .base (.tup h)
  · exact .fTuple h
  · exact .kTuple e1 e2
theorem gx_row : ("is_row_of_integers" : Str) ∈ gensL := by decide
theorem lx_row : ("is_row_of_integers" : Str) ∉ lamsL := by decide
section
variable {P : Program} {w : World} {K : PySem.W.Frag} {mg : Str → Option Value} {base : Heap}
/-- for a tuple: has it so many items -/
def sp_is_tuple_of (K : PySem.W.Frag) : Sp := fun vs H Q _ => ∃ (a : Addr) (m : Int) (xs : List V), vs = [.ref a, .int m] ∧ SqT K H a xs ∧ Q (.bl (decide ((xs.length : Int) = m))) H
theorem ok_is_tuple_of (T : Txt K mg) : FnOk P w K mg base CX0 1 T.is_tuple_of.f T.is_tuple_of.fd P_is_tuple_of (sp_is_tuple_of K) := by
  refine T.is_tuple_of.F.ok sc_is_tuple_of (fun vs H Q E h => ?_) (fun cdv A outer s H vs Q E hr h => ?_)
  · obtain ⟨a, m, xs, rfl, _⟩ := h; rfl
  · obtain ⟨a, m, xs, rfl, hT, k⟩ := h
    refine ⟨_, (pss_one (ps_ret (pe_and (pe_callB (r := rIsi K) call_isi rfl T.n_isinstance bo_isinstance (pa_cons (pv 0) (pa_cons (pe_bltn (v := .ty "tuple") rfl T.n_tuple bo_tuple rfl) pa_nil))) (pe_one (pe_cmpR op_eq (pe_callB (r := rLenS K) call_len_seq rfl T.n_len bo_len (pa_cons (pv 0) pa_nil)) (pv 1) (nomark _)))))), ?_⟩
    walk_at "rd"
    refine ⟨_, _, _, _, _, rfl, .ty _, ty_tup hT, kit_tuple_tuple, ?_⟩
    walk_at "rd"
    refine ⟨_, _, rfl, .inr hT, ?_⟩
    walk_at "rd"
    rw [vdec]
    exact k
def rowB (m lo hi : Int) (ns : List Int) : Bool := decide ((ns.length : Int) = m) && ns.all fun i => decide (lo ≤ i) && decide (i ≤ hi)
def sp_is_row_of_integers (t : TabsAt) (K : PySem.W.Frag) : Sp := fun vs H Q _ => ∃ (a : Addr) (m lo hi : Int) (ns : List Int), vs = [.ref a, .int m, .int lo, .int hi] ∧ SqT K H a (ns.map V.int) ∧ TS t H ∧ ∀ H', Ex t H H' → Q (.bl (rowB m lo hi ns)) H'
theorem ok_is_row_of_integers (T : Txt K mg) {t : TabsAt} (B : TBs T base t) : FnOk P w K mg base CX0 10 T.is_row_of_integers.f T.is_row_of_integers.fd P_is_row_of_integers (sp_is_row_of_integers t K) := by
  refine okC T.is_row_of_integers.F B.h_is_row_of_integers sc_is_row_of_integers (fun vs H Q E h => ?_) (fun A outer s H vs Q E hr h => ?_)
  · obtain ⟨a, m, lo, hi, ns, rfl, _⟩ := h; rfl
  · obtain ⟨a, m, lo, hi, ns, rfl, hT, ts, k⟩ := h
    refine ⟨_, (pss_one (ps_ret (pe_and (pe_call (ok_is_tuple_of T) (hr.mono (by decide)) rfl T.is_tuple_of.g T.is_tuple_of.F.kp (b_is_tuple_of T) .nil pass0 (pa_cons (pv 0) (pa_cons (pv 1) pa_nil))) (pe_one (pe_allR (ys := (["number"] : List Str)) (own := []) (vs := [4]) sc_is_row_of_integers.nd (by decide) hr rfl T.n_all bo_all B.b_is_row_of_integers rfl (gxOk_by (N := N_is_row_of_integers) (sc := defScope s_is_row_of_integers) (own := []) (by decide +kernel)) (pi_tup (pv 0)) (fun _ _ _ _ _ _ _ _ hr => (pg_name (i := 4) (show List.Nodup (N_is_row_of_integers ++ (["number"] : List Str)) by decide +kernel) rfl (Or.inl rfl))) (fun _ _ _ _ _ _ _ _ hr => (pe_call (ok_is_integer_in T) (hr.mono (by decide)) rfl T.is_integer_in.g T.is_integer_in.F.kp (b_is_integer_in T) .nil pass0 (pa_cons (pv 4) (pa_cons (pv 2) (pa_cons (pv 3) pa_nil))))) (fun _ => rfl)))))), ?_⟩
    walk_at "rd"
    refine ⟨_, _, _, rfl, hT, ?_⟩
    by_cases hl : (ns.length : Int) = m
    · rw [List.length_map, decide_eq_true hl]
      walk_at "rd"
      refine ⟨⟨_, hT⟩, ts.g _ gx_row, fun H2 e2 => ?_⟩
      have x2 : Ex t H H2 := Ex.tab ts gx_row lx_row e2
      refine gx_tup (Pv := fun i H' => Ex t H H' ∧ (ns.take i).all (fun i => decide (lo ≤ i) && decide (i ≤ hi)) = true) ⟨x2, rfl⟩ (fun i H' _ x => (tp_ext x.1.keep).sqt hT) (fun i v H' hv x => ?_) (fun H3 x3 => ?_)
      · rw [List.getElem?_map] at hv
        obtain ⟨n, hn, rfl⟩ := Option.map_eq_some_iff.mp hv
        walk_at "rd"
        refine ⟨_, _, _, rfl, ?_⟩
        refine ⟨_, rfl, fun z => ?_, fun z => ⟨x.1, ?_⟩⟩
        · have e : rowB m lo hi ns = false := by
            unfold rowB
            rw [decide_eq_true hl, Bool.true_and, List.all_eq_false]
            exact ⟨n, List.mem_of_getElem? hn, by rw [z]; exact Bool.false_ne_true⟩
          rw [← e]
          exact k _ x.1
        · rw [List.take_add_one, hn]
          simp only [Option.toList_some, List.all_append, x.2, List.all_cons, List.all_nil, Bool.and_true, Bool.true_and]
          exact z
      · have e : rowB m lo hi ns = true := by
          unfold rowB
          have := x3.2
          rw [List.length_map, List.take_length] at this
          rw [decide_eq_true hl, this]; rfl
        rw [← e]
        exact k _ x3.1
    · rw [List.length_map, decide_eq_false hl]
      have e : rowB m lo hi ns = false := by unfold rowB; rw [decide_eq_false hl]; rfl
      walk_at "rd"
      rw [← e]
      exact k _ (Ex.of ts (Same.refl _))
theorem row_true {m lo hi : Int} {ns : List Int} (h1 : (ns.length : Int) = m) (h2 : ∀ i ∈ ns, lo ≤ i ∧ i ≤ hi) : rowB m lo hi ns = true := by
  unfold rowB
  rw [decide_eq_true h1, Bool.true_and, List.all_eq_true]
  intro i hi'
  simp only [Bool.and_eq_true, decide_eq_true_eq]
  exact h2 i hi'
end

/-! ### checks -/
section
variable {P : Program} {w : World} {K : PySem.W.Frag} {mg : Str → Option Value} {base : Heap}
def sp_is_tuple_up_to (K : PySem.W.Frag) : Sp := fun vs H Q _ => ∃ (a : Addr) (m : Int) (xs : List V), vs = [.ref a, .int m] ∧ SqT K H a xs ∧ Q (.bl (decide ((xs.length : Int) ≤ m))) H
theorem ok_is_tuple_up_to (T : Txt K mg) : FnOk P w K mg base CX0 1 T.is_tuple_up_to.f T.is_tuple_up_to.fd P_is_tuple_up_to (sp_is_tuple_up_to K) := by
  refine T.is_tuple_up_to.F.ok sc_is_tuple_up_to (fun vs H Q E h => ?_) (fun cdv A outer s H vs Q E hr h => ?_)
  · obtain ⟨a, m, xs, rfl, _⟩ := h; rfl
  · obtain ⟨a, m, xs, rfl, hT, k⟩ := h
    refine ⟨_, (pss_one (ps_ret (pe_and (pe_callB (r := rIsi K) call_isi rfl T.n_isinstance bo_isinstance (pa_cons (pv 0) (pa_cons (pe_bltn (v := .ty "tuple") rfl T.n_tuple bo_tuple rfl) pa_nil))) (pe_one (pe_cmpR op_le (pe_callB (r := rLenS K) call_len_seq rfl T.n_len bo_len (pa_cons (pv 0) pa_nil)) (pv 1) (nomark _)))))), ?_⟩
    walk_at "rd"
    refine ⟨_, _, _, _, _, rfl, .ty _, ty_tup hT, kit_tuple_tuple, ?_⟩
    walk_at "rd"
    refine ⟨_, _, rfl, .inr hT, ?_⟩
    walk_at "rd"
    exact k
def sp_check_integer_in : Sp := fun vs H Q _ => ∃ n lo hi, vs = [.int n, .int lo, .int hi] ∧ (lo ≤ n ∧ n ≤ hi) ∧ Q .non H
theorem ok_check_integer_in (T : Txt K mg) : FnOk P w K mg base CX0 3 T.check_integer_in.f T.check_integer_in.fd P_check_integer_in sp_check_integer_in := by
  refine T.check_integer_in.F.ok sc_check_integer_in (fun vs H Q E h => ?_) (fun cdv A outer s H vs Q E hr h => ?_)
  · obtain ⟨n, lo, hi, rfl, _⟩ := h; rfl
  · obtain ⟨n, lo, hi, rfl, hb, k⟩ := h
    refine ⟨_, (pss_one (ps_if (pt_not (pt_val (pe_call (ok_is_integer_in T) (hr.mono (by decide)) rfl T.is_integer_in.g T.is_integer_in.F.kp (b_is_integer_in T) .nil pass0 (pa_cons (pv 0) (pa_cons (pv 1) (pa_cons (pv 2) pa_nil)))))) (pss_one ps_never) pss_nil)), ?_⟩
    walk_at "rd"
    refine ⟨_, _, _, rfl, ?_⟩
    rw [decide_eq_true hb.1, decide_eq_true hb.2]
    walk_at "rd"
    exact k
def sp_check_values (t : TabsAt) (K : PySem.W.Frag) : Sp := fun vs H Q _ => ∃ (a : Addr) (ns : List Int), vs = [.ref a] ∧ SqT K H a (ns.map V.int) ∧ 1 ≤ ns.length ∧ ns.length ≤ 13 ∧ (∀ i ∈ ns, 0 ≤ i ∧ i ≤ 1000000) ∧ TS t H ∧ ∀ H', Ex t H H' → Q .non H'
theorem ok_check_values (T : Txt K mg) {t : TabsAt} (B : TBs T base t) : FnOk P w K mg base CX0 11 T.check_values.f T.check_values.fd P_check_values (sp_check_values t K) := by
  refine T.check_values.F.ok sc_check_values (fun vs H Q E h => ?_) (fun cdv A outer s H vs Q E hr h => ?_)
  · obtain ⟨a, ns, rfl, _⟩ := h; rfl
  · obtain ⟨a, ns, rfl, hT, h1, h13, hb, ts, k⟩ := h
    refine ⟨_, (pss_cons (ps_if (PW.pt (pw_or (pt_not (pt_val (pe_call (ok_is_tuple_up_to T) (hr.mono (by decide)) rfl T.is_tuple_up_to.g T.is_tuple_up_to.F.kp (b_is_tuple_up_to T) .nil pass0 (pa_cons (pv 0) (pa_cons (pe_glob rfl T.g_MOST_VALUES (v := .int 13) ⟨_, rfl⟩) pa_nil))))) (pw_or1 (pt_cmpR op_eq (pe_callB (r := rLenS K) call_len_seq rfl T.n_len bo_len (pa_cons (pv 0) pa_nil)) pe_int (nomark _))))) (pss_one ps_never) pss_nil)
  (pss_one (ps_if (pt_not (pt_val (pe_call (ok_is_row_of_integers T B) (hr.mono (by decide)) rfl T.is_row_of_integers.g T.is_row_of_integers.F.kp (b_is_row_of_integers T) .nil pass0 (pa_cons (pv 0) (pa_cons (pe_callB (r := rLenS K) call_len_seq rfl T.n_len bo_len (pa_cons (pv 0) pa_nil)) (pa_cons pe_int (pa_cons (pe_glob rfl T.g_MOST_VALUE (v := .int 1000000) ⟨_, rfl⟩) pa_nil))))))) (pss_one ps_never) pss_nil))), ?_⟩
    walk_at "rd"
    refine ⟨a, 13, _, rfl, hT, ?_⟩
    rw [List.length_map, decide_eq_true (show (ns.length : Int) ≤ 13 by omega)]
    refine ⟨_, rfl, ?_⟩
    walk_at "rd"
    refine ⟨a, _, rfl, .inr hT, ?_⟩
    rw [List.length_map]
    walk_at "rd"
    refine iteV (fun z => absurd z (by omega)) (fun _ => ?_)
    walk_at "rd"
    refine ⟨a, _, rfl, .inr hT, ?_⟩
    rw [List.length_map]
    walk_at "rd"
    refine ⟨a, _, 0, 1000000, ns, rfl, hT, ts, fun H2 x2 => ?_⟩
    rw [row_true rfl hb]
    refine ⟨_, rfl, ?_⟩
    walk_at "rd"
    exact k _ x2
end

/-! ### math.comb -/
section
variable {X : Cx}
def rComb : List V → Hp → VK → Prop := fun vs H Q => ∃ i j : Int, vs = [.int i, .int j] ∧ 0 ≤ i ∧ i < 2 ^ 64 ∧ 0 ≤ j ∧ j ≤ 9000 ∧ Q (.int ((ch i.toNat j.toNat : Nat) : Int)) H
theorem cr_comb : CallR X (.builtin "math.comb") rComb := by
  intro pins s σ H vs us Q I r h
  obtain ⟨a, b, rfl, h1, h2, h3, h4, q⟩ := h
  obtain ⟨t, u, rfl⟩ := Vals.int2 r
  obtain ⟨m, rfl⟩ := Int.eq_ofNat_of_zero_le h1
  obtain ⟨n, rfl⟩ := Int.eq_ofNat_of_zero_le h3
  exact PySem.W.mc_comb_v (c := ((ch m n : Nat) : Int)) h1 h3 h2 (.inl h4) (comb_ch m n) ⟨.int _, H, I.tok _, ⟨_, rfl⟩, q⟩
end

/-! ### expansions, as the program makes them -/
def IsTop (n b t : Nat) : Prop := b ≤ t ∧ ch t b ≤ n ∧ n < ch (t + 1) b ∧ t ≤ n + b
section
variable {P : Program} {w : World} {K : PySem.W.Frag} {mg : Str → Option Value} {base : Heap}
def sp_greatest_top : Sp := fun vs H Q _ => ∃ n b : Nat, vs = [.int n, .int (b + 1 : Nat)] ∧ 1 ≤ n ∧ n ≤ 1000000 ∧ b ≤ 12 ∧ ∀ t : Nat, IsTop n (b + 1) t → Q (.int t) H
theorem ok_greatest_top (T : Txt K mg) : FnOk P w K mg base CX0 1 T.greatest_top.f T.greatest_top.fd P_greatest_top sp_greatest_top := by
  refine T.greatest_top.F.ok sc_greatest_top (fun vs H Q E h => ?_) (fun cdv A outer s H vs Q E hr h => ?_)
  · obtain ⟨n, b, rfl, _⟩ := h; rfl
  · obtain ⟨n, b, rfl, hn1, hn2, hb, k⟩ := h
    refine ⟨_, (pss_cons (ps_par rfl sc_greatest_top.nd (i := 2) (j := 3) rfl rfl (by decide) rfl rfl (pa_cons (pv 1) (pa_cons (pe_op op_add (pv 1) (pv 0)) pa_nil)) rfl)
  (pss_cons (ps_while PassesOwn.never (pt_cmpR op_lt (pv 2) (pv 3) (nomark _)) (pss_cons (ps_set (i := 4) sc_greatest_top.nd rfl (Or.inl rfl) (pe_op op_fdivZ (pe_op op_add (pe_op op_add (pv 2) (pv 3)) pe_int) pe_int))
  (pss_one (ps_if (pt_cmpR op_le (pe_callBfun cr_comb rfl T.g_comb (pa_cons (pv 4) (pa_cons (pv 1) pa_nil))) (pv 0) (nomark _)) (pss_one (ps_set (i := 2) sc_greatest_top.nd rfl (Or.inl rfl) (pv 4))) (pss_one (ps_set (i := 3) sc_greatest_top.nd rfl (Or.inl rfl) (pe_op op_sub (pv 4) pe_int)))))))
  (pss_one (ps_ret (pv 2))))), ?_⟩
    walk_at "rd"
    refine while_by (fun σ H' => H' = H ∧ ∃ (lo hi : Nat) (v : Option V), σ = [some (.int n), some (.int ((b + 1 : Nat) : Int)), some (.int lo), some (.int hi), v] ∧ b + 1 ≤ lo ∧ lo ≤ hi ∧ hi ≤ n + (b + 1) ∧ ch lo (b + 1) ≤ n ∧ n < ch (hi + 1) (b + 1))
      (fun σ _ => match σ with | [_, _, some (.int lo), some (.int hi), _] => (hi - lo).toNat | _ => 0) ?_ ?_ ?_
    · refine ⟨rfl, b + 1, n + (b + 1), none, ?_, Nat.le_refl _, by omega, Nat.le_refl _, ?_, ?_⟩
      · simp only [L2.start, List.set]
        rw [show ((b + 1 : Nat) : Int) + (n : Int) = ((n + (b + 1) : Nat) : Int) by omega]
        rfl
      · rw [ch_self]; exact hn1
      · have := ch_ge (k := b) (n + (b + 1) + 1) (by omega)
        omega
    · rintro σ H' ⟨rfl, lo, hi, v, rfl, h1, h2, h3, h4, h5⟩
      walk_at "rd"
      refine iteD (fun hlt => ?_) (fun hlt => ?_)
      · walk_at "rd"
        have hm : ((lo : Int) + hi + 1).fdiv 2 = (((lo + hi + 1) / 2 : Nat) : Int) := by
          rw [Int.fdiv_eq_ediv_of_nonneg _ (by decide)]; omega
        dsimp only
        rw [hm]
        generalize hq : (lo + hi + 1) / 2 = m
        have m1 : lo < m := by omega
        have m2 : m ≤ hi := by omega
        refine ⟨by omega, by omega, by omega, by omega, ?_⟩
        rw [show ((m : Int)).toNat = m by omega, show ((b + 1 : Nat) : Int).toNat = b + 1 by omega]
        walk_at "rd"
        refine iteD (fun hc => ?_) (fun hc => ?_)
        · walk_at "rd"
          exact ⟨⟨rfl, m, hi, _, rfl, by omega, m2, h3, by omega, h5⟩, by simp; omega⟩
        · walk_at "rd"
          refine ⟨⟨rfl, lo, m - 1, some (.int m), ?_, h1, by omega, by omega, h4, ?_⟩, ?_⟩
          · simp only [List.set]
            rw [show (m : Int) - 1 = ((m - 1 : Nat) : Int) by omega]
          · rw [show m - 1 + 1 = m by omega]; omega
          · simp; omega
      · walk_at "rd"
        have e : lo = hi := by omega
        subst e
        exact k lo ⟨h1, h4, h5, by omega⟩
    · intro σ H Q Q' hQ h
      obtain ⟨x, e, y, f, i, j, a, b, k, c, d⟩ := h
      exact ⟨x, e, y, f, i, j, a, b, k, c, hQ _ _ d⟩
end
def iD (as : List Nat) : List V := as.map fun t => V.int ((t : Nat) : Int)
section
variable {P : Program} {w : World} {K : PySem.W.Frag} {mg : Str → Option Value} {base : Heap}
def sp_upper_numbers : Sp := fun vs H Q _ => ∃ n d : Nat, True ∧ vs = [.int n, .int d] ∧ n ≤ 1000000 ∧ 1 ≤ d ∧ d ≤ 13 ∧ ∀ (as : List Nat) (p : Addr) H', Exn d n as → Same H H' → H p = none → H' p = some (.lst (iD as)) → Q (.ref p) H'
theorem ok_upper_numbers (T : Txt K mg) : FnOk P w K mg base CX0 2 T.upper_numbers.f T.upper_numbers.fd P_upper_numbers sp_upper_numbers := by
  refine T.upper_numbers.F.ok sc_upper_numbers (fun vs H Q E h => ?_) (fun cdv A outer s H vs Q E hr h => ?_)
  · obtain ⟨n, d, -, rfl, _⟩ := h; rfl
  · obtain ⟨n, d, -, rfl, hn, hd1, hd, k⟩ := h
    refine ⟨_, (pss_cons (ps_set (i := 2) sc_upper_numbers.nd rfl (Or.inl rfl) (pe_lst pa_nil))
  (pss_cons (ps_set (i := 3) sc_upper_numbers.nd rfl (Or.inl rfl) (pv 0))
  (pss_cons (ps_while PassesOwn.never (pt_cmpR op_gt (pv 3) pe_int (nomark _)) (pss_cons (ps_set (i := 4) sc_upper_numbers.nd rfl (Or.inl rfl) (pe_call (ok_greatest_top T) (hr.mono (by decide)) rfl T.greatest_top.g T.greatest_top.F.kp (b_greatest_top T) .nil pass0 (pa_cons (pv 3) (pa_cons (pe_op op_sub (pv 1) (pe_callB (r := rLenS K) call_len_seq rfl T.n_len bo_len (pa_cons (pv 2) pa_nil))) pa_nil))))
  (pss_cons (ps_aug (i := 3) sc_upper_numbers.nd rfl (Or.inl rfl) (pe_callBfun cr_comb rfl T.g_comb (pa_cons (pv 4) (pa_cons (pe_op op_sub (pv 1) (pe_callB (r := rLenS K) call_len_seq rfl T.n_len bo_len (pa_cons (pv 2) pa_nil))) pa_nil))) ip_sub)
  (pss_one (ps_expr (pe_bm PySem.F.plainAttrs_list PySem.F.slot_list_append PySem.F.type_list_append mt_append (pv 2) (pa_cons (pv 4) pa_nil)))))))
  (pss_one (ps_ret (pv 2)))))), ?_⟩
    walk_at "rd"
    refine ⟨by decide, fun p hp => ?_⟩
    walk_at "rd"
    refine while_by (fun σ H' => ∃ (as : List Nat) (left : Nat) (v : Option V), σ = [some (.int n), some (.int d), some (.ref p), some (.int left), v] ∧ Same H H' ∧ H' p = some (.lst (iD as)) ∧ left ≤ n ∧ as.length ≤ d ∧ (as.length = d → left = 0) ∧ ∀ bs, Exn (d - as.length) left bs → Exn d n (as ++ bs))
      (fun σ _ => match σ with | [_, _, _, some (.int left), _] => left.toNat | _ => 0) ?_ ?_ ?_
    · exact ⟨[], n, none, rfl, same_upd hp, upd_same, Nat.le_refl _, Nat.zero_le _, fun z => by simp at z; omega, fun bs h => h⟩
    · rintro σ H' ⟨as, left, v, rfl, hs, hl, hle, hlen, h0, hE⟩
      walk_at "rd"
      refine iteD (fun hpos => ?_) (fun hpos => ?_)
      · walk_at "rd"
        obtain ⟨b, hb⟩ : ∃ b, d - as.length = b + 1 := ⟨d - as.length - 1, by omega⟩
        have hlen2 : (iD as).length = as.length := by simp [iD]
        dsimp only
        rw [hlen2, show (d : Int) - ((as.length : Nat) : Int) = ((b + 1 : Nat) : Int) by omega]
        refine ⟨left, b, rfl, by omega, by omega, by omega, fun t ht => ?_⟩
        obtain ⟨t1, t2, t3, t4⟩ := ht
        walk_at "rd"
        dsimp only
        rw [hlen2, show (d : Int) - ((as.length : Nat) : Int) = ((b + 1 : Nat) : Int) by omega]
        refine ⟨by omega, by omega, by omega, by omega, ?_⟩
        rw [show ((t : Int)).toNat = t by omega, show ((b + 1 : Nat) : Int).toNat = b + 1 by omega]
        walk_at "rd"
        refine ⟨.inl ⟨rfl, _, .inl (.inl hl)⟩, ?_⟩
        walk_at "rd"
        refine ⟨_, _, _, rfl, rfl, hl, ?_, ?_⟩
        · rw [hlen2]
          have : (13 : Nat) < sizeLine := by decide
          omega
        have hch := ch_pos t1
        refine ⟨⟨as ++ [t], left - ch t (b + 1), some (.int t), ?_, fun q o e => ?_, ?_, by omega, by simp; omega, fun z => ?_, fun bs hbs => ?_⟩, ?_⟩
        · simp only [List.set]
          rw [show (left : Int) - ((ch t (b + 1) : Nat) : Int) = ((left - ch t (b + 1) : Nat) : Int) by omega]
        · rw [upd_ne (ne_of_none e hp)]
          exact hs _ _ e
        · rw [upd_same]
          simp [iD]
        · simp at z
          have e : b = 0 := by omega
          subst e
          rw [ch_ss, ch_0] at t3
          omega
        · simp at hbs
          rw [show d - (as.length + 1) = b by omega] at hbs
          rw [List.append_assoc]
          refine hE _ ?_
          rw [hb]
          exact .cons t1 t2 t3 hbs
        · simp
          omega
      · walk_at "rd"
        have e : left = 0 := by omega
        subst e
        have := hE [] (.nil _)
        rw [List.append_nil] at this
        exact k as p H' this hs hp hl
    · intro σ H Q Q' hQ h
      obtain ⟨x, e, i, j, a, b, k, c, d⟩ := h
      exact ⟨x, e, i, j, a, b, k, c, hQ _ _ d⟩
end
section
variable {P : Program} {w : World} {K : PySem.W.Frag} {mg : Str → Option Value} {base : Heap}
theorem sumR_get : ∀ (d : Nat) (as : List Nat) (ys : List Int), ys.length = as.length → (∀ j t, as[j]? = some t → ys[j]? = some ((ch (t + 1) (d - j + 1) : Nat) : Int)) → ys.sum = ((sumR d as : Nat) : Int)
  | _, [], ys, h, _ => by
    have : ys = [] := List.eq_nil_of_length_eq_zero h
    subst this; rfl
  | d, a :: as, [], h, _ => by simp at h
  | d, a :: as, y :: ys, h, g => by
    have h0 := g 0 a rfl
    simp at h0
    have ih := sumR_get (d - 1) as ys (by simpa using h) fun j t ht => by
      have := g (j + 1) t (by simpa using ht)
      rw [List.getElem?_cons_succ] at this
      rw [this, show d - 1 - j = d - (j + 1) by omega]
    rw [List.sum_cons, ih, h0]
    show _ = ((ch (a + 1) (d + 1) + sumR (d - 1) as : Nat) : Int)
    omega
def sp_raised_sum : Sp := fun vs H Q _ => ∃ n d : Nat, True ∧ vs = [.int n, .int d] ∧ n ≤ 1000000 ∧ 1 ≤ d ∧ d ≤ 13 ∧ ∀ (as : List Nat) H', Exn d n as → Same H H' → Q (.int ((sumR d as : Nat) : Int)) H'
theorem ok_raised_sum (T : Txt K mg) : FnOk P w K mg base CX0 3 T.raised_sum.f T.raised_sum.fd P_raised_sum sp_raised_sum := by
  refine T.raised_sum.F.ok sc_raised_sum (fun vs H Q E h => ?_) (fun cdv A outer s H vs Q E hr h => ?_)
  · obtain ⟨n, d, -, rfl, _⟩ := h; rfl
  · obtain ⟨n, d, -, rfl, hn, hd1, hd, k⟩ := h
    refine ⟨_, (pss_one (ps_ret (pe_callB (r := rSum K) (cr_sum rfl) rfl T.n_sum bo_sum (pa_cons (pe_lc (own := [("index", 2), ("top", 3)]) rfl sc_raised_sum.nd (pi_enum rfl T.n_enumerate (pa_cons (pe_call (ok_upper_numbers T) (hr.mono (by decide)) rfl T.upper_numbers.g T.upper_numbers.F.kp (b_upper_numbers T) .nil pass0 (pa_cons (pv 0) (pa_cons (pv 1) pa_nil))) pa_nil)) (blkOk_by (own := [("index", 2), ("top", 3)]) (N := N_raised_sum) (sc := defScope s_raised_sum) (by decide +kernel)) (fun _ _ _ _ _ => (pg_tupK (K := K) (n := 2) rfl rfl (pgs_cons (pg_name (i := 2) sc_raised_sum.nd rfl (Or.inl rfl)) (pgs_cons (pg_name (i := 3) sc_raised_sum.nd rfl (Or.inl rfl)) pgs_nil)))) (fun _ _ _ _ _ => pts_nil) (fun _ _ _ _ _ => (pe_callBfun cr_comb rfl T.g_comb (pa_cons (pe_op op_add (pv 3) pe_int) (pa_cons (pe_op op_add (pe_op op_sub (pv 1) (pv 2)) pe_int) pa_nil))))) pa_nil)))), ?_⟩
    walk_at "rd"
    refine ⟨n, d, trivial, rfl, hn, hd1, hd, fun as p H1 hE s1 np hp => ?_⟩
    have hz : (iD as).length = as.length := by simp [iD]
    walk_at "rd"
    refine ⟨p, iD as, rfl, .inl (.inl hp), fun D hD => ?_⟩
    have hlen := hE.len
    refine lc_it (walk_enum (K := K) (a := p) (xs := iD as)) (fun i H' => ∃ ys : List Int, Same H1 H' ∧ H' D = some (.lst (ys.map V.int)) ∧ ys.length = i ∧ i ≤ as.length ∧ ∀ j t, j < i → as[j]? = some t → ys[j]? = some ((ch (t + 1) (d - j + 1) : Nat) : Int))
      ⟨[], same_upd hD, upd_same, rfl, Nat.zero_le _, fun j t h => by omega⟩ (fun i H' _ q => ?_) (fun i x H2 H3 hi q y => ?_) (fun H2 q => ?_)
    · obtain ⟨ys, q, _⟩ := q
      exact .inl (.inl (q _ _ hp))
    · obtain ⟨ys, q1, q2, q3, q4, q5⟩ := q
      obtain ⟨T1, x1, y1, rfl, nT, rfl, ex, ey⟩ := y
      rw [hz] at hi
      cases ex
      have hy : y1 = V.int ((as[i] : Nat) : Int) := by
        have ey : (iD as)[i]? = some y1 := ey
        unfold iD at ey
        rw [List.getElem?_map, List.getElem?_eq_getElem hi] at ey
        simpa using ey.symm
      subst hy
      have ha := hE.bound as[i] (List.getElem_mem hi)
      refine ⟨T1, _, rfl, .inl (.inl upd_same), rfl, ?_⟩
      walk_at "rd"
      generalize ht : as[i] = t at *
      have hti : as[i]? = some t := by rw [List.getElem?_eq_getElem hi, ht]
      refine ⟨by omega, by omega, by omega, by omega, ?_⟩
      rw [show ((t : Int) + 1).toNat = t + 1 by omega, show ((d : Int) - (i : Int) + 1).toNat = d - i + 1 by omega]
      have nD : T1 ≠ D := fun z => by rw [z, q2] at nT; cases nT
      refine ⟨ys.map V.int, ?_, ?_, ys ++ [((ch (t + 1) (d - i + 1) : Nat) : Int)], fun b o e => ?_, ?_, by simp; omega, by omega, fun j u hj hu => ?_⟩
      · rw [upd_ne (Ne.symm nD)]; exact q2
      · rw [List.length_map]
        have : (13 : Nat) < sizeLine := by decide
        omega
      · have e2 := q1 _ _ e
        rw [upd_ne (ne_of_none e hD), upd_ne (ne_of_none e2 nT)]
        exact e2
      · rw [upd_same]; simp
      · by_cases hji : j < i
        · rw [List.getElem?_append_left (by omega)]
          exact q5 j u hji hu
        · have e : j = i := by omega
          subst e
          rw [List.getElem?_append_right (by omega), q3, Nat.sub_self]
          rw [hti] at hu
          cases hu
          rfl
    · obtain ⟨ys, q1, q2, q3, q4, q5⟩ := q
      rw [hz] at q3
      walk_at "rd"
      refine ⟨D, ys, rfl, .inl (.inl q2), ?_⟩
      rw [sumR_get d as ys q3 fun j t ht => q5 j t (by rw [hz]; exact (List.getElem?_eq_some_iff.mp ht).1) ht]
      exact k as H2 hE (Same.trans s1 q1)
end

/-! ### gaps -/
theorem find_take {α : Type} {p : α → Bool} : ∀ {l : List α} {i : Nat} {x : α}, l[i]? = some x → (∀ y ∈ l.take i, p y = false) → p x = true → l.find? p = some x
  | a :: l, 0, x, h, _, hp => by
    simp at h
    subst h
    rw [List.find?_cons, hp]
  | a :: l, i + 1, x, h, hn, hp => by
    rw [List.find?_cons, hn a (by rw [List.take_succ_cons]; exact List.mem_cons_self)]
    exact find_take (by simpa using h) (fun y hy => hn y (by rw [List.take_succ_cons]; exact List.mem_cons_of_mem _ hy)) hp
theorem gap_at {many : Nat} {ns : List Nat} {j : Nat} (hj : j < ns.length) (no : ∀ i, i < j → decide (mostAt many ns i < ns.getD i 0) = false) (h : mostAt many ns j < ns.getD j 0) : gapL many ns = some j := by
  unfold gapL
  refine find_take (List.getElem?_range hj) (fun i hi => ?_) (decide_eq_true h)
  rw [List.take_range] at hi
  have := List.mem_range.mp hi
  exact no i (by omega)
def nsV (vs : List Nat) : List V := vs.map fun (n : Nat) => V.int (n : Int)
def gapV (o : Option Nat) : V := match o with
  | none => .non
  | some i => .int (i : Int)
section
variable {P : Program} {w : World} {K : PySem.W.Frag} {mg : Str → Option Value} {base : Heap}
def sp_first_gap (K : PySem.W.Frag) : Sp := fun vs H Q _ => ∃ (many : Nat) (a : Addr) (ns : List Nat), vs = [.int many, .ref a] ∧ SqT K H a (nsV ns) ∧ many ≤ 6 ∧ ns.length ≤ 9 ∧ (∀ n ∈ ns, n ≤ 12) ∧ ∀ H', Same H H' → Q (gapV (gapL many ns)) H'
theorem ok_first_gap (T : Txt K mg) : FnOk P w K mg base CX0 4 T.first_gap.f T.first_gap.fd P_first_gap (sp_first_gap K) := by
  refine T.first_gap.F.ok sc_first_gap (fun vs H Q E h => ?_) (fun cdv A outer s H vs Q E hr h => ?_)
  · obtain ⟨many, a, ns, rfl, _⟩ := h; rfl
  · obtain ⟨many, a, ns, rfl, hT, hm, hl, hb, k⟩ := h
    refine ⟨_, (pss_cons (ps_for PassesOwn.never rfl (pi_enumT rfl T.n_enumerate (pa_cons (pv 1) pa_nil)) (pg_tup rfl (pgs_cons (pg_name (i := 2) sc_first_gap.nd rfl (Or.inl rfl)) (pgs_cons (pg_name (i := 3) sc_first_gap.nd rfl (Or.inl rfl)) pgs_nil))) (pss_cons (ps_if (pt_cmpR op_eq (pv 2) pe_int (nomark _)) (pss_one (ps_set (i := 4) sc_first_gap.nd rfl (Or.inl rfl) pe_int)) (pss_one (ps_if (pt_cmpR op_eq (pv 2) pe_int (nomark _)) (pss_one (ps_set (i := 4) sc_first_gap.nd rfl (Or.inl rfl) (pe_op op_mulW (pv 0) (pe_ix (r := rIxT K) ix_tup (pv 1) pe_int (fun _ _ => rfl))))) (pss_one (ps_set (i := 4) sc_first_gap.nd rfl (Or.inl rfl) (pe_call (ok_raised_sum T) (hr.mono (by decide)) rfl T.raised_sum.g T.raised_sum.F.kp (b_raised_sum T) .nil pass0 (pa_cons (pe_ix (r := rIxT K) ix_tup (pv 1) (pe_op op_sub (pv 2) pe_int) (fun _ _ => rfl)) (pa_cons (pe_op op_sub (pv 2) pe_int) pa_nil))))))))
  (pss_one (ps_if (pt_cmpR op_gt (pv 3) (pv 4) (nomark _)) (pss_one (ps_ret (pv 2))) pss_nil))))
  (pss_one (ps_ret pe_non))), ?_⟩
    have hnl : (nsV ns).length = ns.length := List.length_map ..
    have hat : ∀ {i : Nat}, i < ns.length → (nsV ns)[i]? = some (V.int ((ns.getD i 0 : Nat) : Int)) := fun {i} hi => by
      unfold nsV
      rw [List.getElem?_map, List.getElem?_eq_getElem hi, List.getD_eq_getElem?_getD, List.getElem?_eq_getElem hi]; rfl
    have hbd : ∀ i, ns.getD i 0 ≤ 12 := fun i => by
      rw [List.getD_eq_getElem?_getD]
      cases c : ns[i]? with
      | none => exact Nat.zero_le _
      | some n => exact hb n (List.mem_of_getElem? c)
    walk_at "rd"
    refine ⟨a, _, rfl, hT, ?_⟩
    refine for_it (walk_enumT (K := K) (a := a) (xs := nsV ns)) (fun j σ H' => ∃ y2 y3 y4 : Option V, σ = [some (.int many), some (.ref a), y2, y3, y4] ∧ Same H H' ∧ ∀ i, i < j → decide (mostAt many ns i < ns.getD i 0) = false) ⟨none, none, none, rfl, Same.refl _, fun i hi => absurd hi (Nat.not_lt_zero _)⟩ (fun j σ H' _ q => ?_) (fun j x σ H' H2 hj q y => ?_) (fun σ H' q => ?_)
    · obtain ⟨_, _, _, rfl, s', _⟩ := q
      exact Toy.Same.tup s' hT
    · obtain ⟨y2, y3, y4, rfl, s', hno⟩ := q
      obtain ⟨Tt, kx, vx, rfl, q1, rfl, e1, e2⟩ := y
      cases e1
      rw [hnl] at hj
      have e2 : (nsV ns)[j]? = some vx := e2
      rw [hat hj] at e2
      cases e2
      have s6 := same_upd (o := .tup [V.int (j : Nat), V.int ((ns.getD j 0 : Nat) : Int)]) q1
      have hT6 := Toy.Same.tup (Same.trans s' s6) hT
      have hbj := hbd j
      refine ⟨Tt, _, rfl, .inl (.inl upd_same), rfl, ?_⟩
      have sT := Same.trans s' s6
      clear q1 s6
      generalize upd H' Tt (.tup [V.int (j : Nat), V.int ((ns.getD j 0 : Nat) : Int)]) = H3 at *
      walk_at "rd"
      refine iteV (fun h0 => ?_) (fun h0 => ?_)
      · have em : mostAt many ns j = 1 := by unfold mostAt; rw [if_pos (by omega)]
        walk_at "rd"
        refine iteD (fun hgt => ?_) (fun hgt => ?_)
        · walk_at "rd"
          have e : gapL many ns = some j := gap_at hj hno (by rw [em]; omega)
          rw [e] at k
          exact k _ sT
        · walk_at "rd"
          exact ⟨_, _, _, rfl, sT, fun i hi => by
            by_cases c : i = j
            · subst c
              exact decide_eq_false (by rw [em]; omega)
            · exact hno i (by omega)⟩
      · walk_at "rd"
        refine iteV (fun h1 => ?_) (fun h1 => ?_)
        · have em : mostAt many ns j = many * ns.getD 0 0 := by unfold mostAt; rw [if_neg (by omega), if_pos (by omega)]
          have hb0 := hbd 0
          walk_at "rd"
          refine ⟨_, _, _, _, rfl, rfl, hT6, atI_nat (j := 0) (hat (by omega)), ?_⟩
          walk_at "rd"
          have ec : (many : Int) * ((ns.getD 0 0 : Nat) : Int) = ((many * ns.getD 0 0 : Nat) : Int) := by rw [Int.natCast_mul]
          dsimp only
          rw [ec]
          walk_at "rd"
          refine iteD (fun hgt => ?_) (fun hgt => ?_)
          · walk_at "rd"
            have e : gapL many ns = some j := gap_at hj hno (by rw [em]; omega)
            rw [e] at k
            exact k _ sT
          · walk_at "rd"
            exact ⟨_, _, _, rfl, sT, fun i hi => by
              by_cases c : i = j
              · subst c
                exact decide_eq_false (by rw [em]; omega)
              · exact hno i (by omega)⟩
        · have em : mostAt many ns j = growN (j - 1) (ns.getD (j - 1) 0) := by unfold mostAt; rw [if_neg (by omega), if_neg (by omega)]
          have hb1 := hbd (j - 1)
          walk_at "rd"
          refine ⟨_, _, _, _, rfl, rfl, hT6, at_of (show (j : Int) - 1 = ((j - 1 : Nat) : Int) by omega) (hat (by omega)), ?_⟩
          walk_at "rd"
          refine ⟨ns.getD (j - 1) 0, j - 1, trivial, congrArg (fun z => [V.int ((ns.getD (j - 1) 0 : Nat) : Int), z]) (congrArg V.int (show (j : Int) - 1 = ((j - 1 : Nat) : Int) by omega)), by omega, by omega, by omega, fun as H4 hE s4 => ?_⟩
          have eas : as = exL (j - 1) (ns.getD (j - 1) 0) := hE.uniq (ex_small (by omega) hb1 (by omega))
          have eg : sumR (j - 1) as = growN (j - 1) (ns.getD (j - 1) 0) := by rw [eas]; rfl
          rw [eg]
          have sU := Same.trans sT s4
          walk_at "rd"
          refine iteD (fun hgt => ?_) (fun hgt => ?_)
          · walk_at "rd"
            have e : gapL many ns = some j := gap_at hj hno (by rw [em]; omega)
            rw [e] at k
            exact k _ sU
          · walk_at "rd"
            exact ⟨_, _, _, rfl, sU, fun i hi => by
              by_cases c : i = j
              · subst c
                exact decide_eq_false (by rw [em]; omega)
              · exact hno i (by omega)⟩
    · obtain ⟨y2, y3, y4, rfl, s', hno⟩ := q
      rw [hnl] at hno
      have e : gapL many ns = none := by
        unfold gapL
        rw [List.find?_eq_none]
        intro i hi
        rw [hno i (List.mem_range.mp hi)]
        exact Bool.false_ne_true
      rw [e] at k
      walk_at "rd"
      exact k _ s'
def sp_growth_gap (t : TabsAt) (K : PySem.W.Frag) : Sp := fun vs H Q _ => ∃ (many : Nat) (a : Addr) (ns : List Nat), vs = [.int many, .ref a] ∧ SqT K H a (nsV ns) ∧ 1 ≤ many ∧ many ≤ 6 ∧ 1 ≤ ns.length ∧ ns.length ≤ 9 ∧ (∀ n ∈ ns, n ≤ 12) ∧ TS t H ∧ ∀ H', Ex t H H' → Q (gapV (gapL many ns)) H'
theorem ok_growth_gap (T : Txt K mg) {t : TabsAt} (B : TBs T base t) : FnOk P w K mg base CX0 12 T.growth_gap.f T.growth_gap.fd P_growth_gap (sp_growth_gap t K) := by
  refine T.growth_gap.F.ok sc_growth_gap (fun vs H Q E h => ?_) (fun cdv A outer s H vs Q E hr h => ?_)
  · obtain ⟨many, a, ns, rfl, _⟩ := h; rfl
  · obtain ⟨many, a, ns, rfl, hT, h1, h6, hl1, hl, hb, ts, k⟩ := h
    refine ⟨_, (pss_cons (ps_expr (pe_call (ok_check_integer_in T) (hr.mono (by decide)) rfl T.check_integer_in.g T.check_integer_in.F.kp (b_check_integer_in T) .nil pass0 (pa_cons (pv 0) (pa_cons pe_int (pa_cons (pe_glob rfl T.g_MOST_MANY (v := .int 6) ⟨_, rfl⟩) pa_nil)))))
  (pss_cons (ps_expr (pe_call (ok_check_values T B) (hr.mono (by decide)) rfl T.check_values.g T.check_values.F.kp (b_check_values T) .nil pass0 (pa_cons (pv 1) pa_nil)))
  (pss_one (ps_ret (pe_call (ok_first_gap T) (hr.mono (by decide)) rfl T.first_gap.g T.first_gap.F.kp (b_first_gap T) .nil pass0 (pa_cons (pv 0) (pa_cons (pv 1) pa_nil))))))), ?_⟩
    walk_at "rd"
    refine ⟨many, 1, 6, rfl, ⟨by omega, by omega⟩, ?_⟩
    walk_at "rd"
    have en : nsV ns = (ns.map fun (n : Nat) => (n : Int)).map V.int := by unfold nsV; rw [List.map_map]; rfl
    refine ⟨a, ns.map fun (n : Nat) => (n : Int), rfl, en ▸ hT, by rw [List.length_map]; exact hl1, by rw [List.length_map]; omega, fun i hi => ?_, ts, fun H2 x2 => ?_⟩
    · obtain ⟨n, hn, rfl⟩ := List.mem_map.mp hi
      have := hb n hn
      omega
    · walk_at "rd"
      exact ⟨many, a, ns, rfl, (tp_ext x2.keep).sqt hT, h6, hl, hb, fun H3 s3 => k _ (x2.same s3)⟩
end

/-! ### comprehensions over a model's items -/
/-- the values of a list fit its model -/
def Fits {β : Type} (R : β → V → Prop) (bs : List β) (zs : List V) : Prop := zs.length = bs.length ∧ ∀ (i : Nat) b v, bs[i]? = some b → zs[i]? = some v → R b v
theorem Fits.nil {β : Type} {R : β → V → Prop} : Fits R [] [] := ⟨rfl, fun i b v h _ => by simp at h⟩
theorem Fits.snoc {β : Type} {R : β → V → Prop} {bs : List β} {zs : List V} {b : β} {v : V} (h : Fits R bs zs) (r : R b v) : Fits R (bs ++ [b]) (zs ++ [v]) := by
  obtain ⟨h1, h2⟩ := h
  refine ⟨by simp [h1], fun i b' v' hb hv => ?_⟩
  by_cases hi : i < zs.length
  · rw [List.getElem?_append_left (by omega)] at hb
    rw [List.getElem?_append_left hi] at hv
    exact h2 i b' v' hb hv
  · rw [List.getElem?_append_right (by omega)] at hb hv
    have hi0 : i - zs.length = 0 := by
      have := (List.getElem?_eq_some_iff.mp hv).1
      simp at this
      omega
    rw [hi0] at hv
    rw [show i - bs.length = 0 by omega] at hb
    simp at hb hv
    subst hb hv
    exact r
theorem Fits.mono {β : Type} {R S : β → V → Prop} {bs : List β} {zs : List V} (h : Fits R bs zs) (r : ∀ b v, R b v → S b v) : Fits S bs zs := ⟨h.1, fun i b v hb hv => r b v (h.2 i b v hb hv)⟩
theorem Fits.map {β : Type} {g : β → V} {bs : List β} {zs : List V} (h : Fits (fun b v => v = g b) bs zs) : zs = bs.map g := by
  refine List.ext_getElem? fun i => ?_
  rw [List.getElem?_map]
  by_cases hi : i < zs.length
  · have hib : i < bs.length := by rw [← h.1]; exact hi
    rw [List.getElem?_eq_getElem hi, List.getElem?_eq_getElem hib, h.2 i _ _ (List.getElem?_eq_getElem hib) (List.getElem?_eq_getElem hi)]
    rfl
  · rw [List.getElem?_eq_none (by omega), List.getElem?_eq_none (by have := h.1; omega)]
    rfl
/-- a row's own tuple -/
def Plain (H : Hp) (r : List Int) (v : V) : Prop := ∃ b, v = .ref b ∧ H b = some (.tup (r.map V.int))
theorem Plain.same {H H' : Hp} {r : List Int} {v : V} (s : Same H H') (h : Plain H r v) : Plain H' r v := by
  obtain ⟨b, e, hb⟩ := h
  exact ⟨b, e, s _ _ hb⟩
theorem Plain.lst {H : Hp} {D : Addr} {xs ys : List V} {r : List Int} {v : V} (hD : H D = some (.lst xs)) (h : Plain H r v) : Plain (upd H D (.lst ys)) r v := by
  obtain ⟨b, e, hb⟩ := h
  exact ⟨b, e, by rw [upd_ne fun z => by rw [z, hD] at hb; cases hb]; exact hb⟩
theorem Fits.pairs {β : Type} {R : β → V → Prop} {bs : List β} {zs : List V} (h : Fits R bs zs) : ∀ e ∈ zs.zip bs, R e.2 e.1 := fun e he => by
  obtain ⟨i, hi, rfl⟩ := List.getElem_of_mem he
  rw [List.length_zip] at hi
  rw [List.getElem_zip]
  exact h.2 i _ _ (List.getElem?_eq_getElem (by omega)) (List.getElem?_eq_getElem (by omega))
theorem Fits.ofPairs {β : Type} {R : β → V → Prop} {l : List (V × β)} (h : ∀ e ∈ l, R e.2 e.1) : Fits R (l.map (·.2)) (l.map (·.1)) := ⟨by simp, fun i b v hb hv => by
  rw [List.getElem?_map] at hb hv
  obtain ⟨e, he, rfl⟩ := Option.map_eq_some_iff.mp hb
  rw [he] at hv
  cases hv
  exact h e (List.mem_of_getElem? he)⟩
/-- all but a list's own items stay -/
def Keep (D : Addr) (H H' : Hp) : Prop := (∀ b o, b ≠ D → H b = some o → H' b = some o) ∧ ∃ xs ys, H D = some (.lst xs) ∧ H' D = some (.lst ys)
theorem Keep.tp {D : Addr} {H H' : Hp} (k : Keep D H H') : Tp H H' := fun b xs h => by
  obtain ⟨k1, x, y, hx, hy⟩ := k
  have nb : b ≠ D := fun z => by
    subst z
    rcases h with h | ⟨u, h⟩ <;> rw [hx] at h <;> cases h
  rcases h with h | ⟨u, h⟩
  · exact .inl (k1 _ _ nb h)
  · exact .inr ⟨u, k1 _ _ nb h⟩
section
variable {P : Program} {w : World} {K : PySem.W.Frag} {mg : Str → Option Value} {base : Heap}
/-- a comprehension of one loop: items of a model, those that a test keeps, and what is made of them -/
theorem lc_gen {α β : Type} {J : It} {n : Nat} {G : Hp → Prop} {Y : Nat → Hp → V → Hp → Prop} {g : TG} {tt : TT} {te : TE} {vs : List Nat} {σ : L2.St} {H1 : Hp} {D : Addr} {Qd : Hp → Prop}
    (w : Walk J n G Y) (as : List α) (p : α → Bool) (f : α → β) (R : β → V → Hp → Prop) (hn : as.length = n) (hG : ∀ H', Same H1 H' → G H') (hD : H1 D = none) (hl : n ≤ 100000)
    (hR : ∀ b v H H', Keep D H H' → R b v H → R b v H')
    (hs : ∀ i a x Ha Hb (Qn : Hp → Prop) (Qy : V → Hp → Prop), as[i]? = some a → Same H1 Ha → Y i Ha x Hb → (p a = false → ∀ H4, Same Ha H4 → Qn H4) → (p a = true → ∀ y H4, Same Ha H4 → R (f a) y H4 → Qy y H4) →
      g x (wipe σ vs) Hb fun σ2 H2 => wipe σ2 vs = wipe σ vs ∧ tt σ2 H2 fun b H3 => if b = true then te σ2 H3 Qy else Qn H3)
    (hend : ∀ H' zs, Same H1 H' → H' D = some (.lst zs) → Fits (fun b v => R b v H') ((as.filter p).map f) zs → Qd H') :
    ∃ W : Nat → Nat → Hp → Prop, (∃ m, W 0 m (upd H1 D (.lst []))) ∧ ∀ i m H, W i m H →
      (J.stop i H ∧ Qd H) ∨ (J.go i H ∧ ∃ Nx : Hp → Prop, (∀ H', Nx H' → ∃ m', m' < m ∧ W (i + 1) m' H') ∧ ∀ x H', J.yld i H x H' → g x (wipe σ vs) H' fun σ2 H2 => wipe σ2 vs = wipe σ vs ∧ tt σ2 H2 fun b H3 =>
        if b = true then te σ2 H3 fun y H4 => ∃ acc, H4 D = some (.lst acc) ∧ acc.length < sizeLine ∧ Nx (upd H4 D (.lst (acc ++ [y]))) else Nx H3) := by
  have hbig : 100000 < sizeLine := by decide
  refine lc_it w (tt := tt) (fun i H' => ∃ zs : List V, Same H1 H' ∧ H' D = some (.lst zs) ∧ zs.length ≤ i ∧ Fits (fun b v => R b v H') (((as.take i).filter p).map f) zs) ⟨[], same_upd hD, upd_same, Nat.le_refl _, .nil⟩ (fun i H' _ q => hG _ q.choose_spec.1) (fun i x Ha Hb hi q y => ?_) (fun H' q => ?_)
  · obtain ⟨zs, q1, q2, q3, q4⟩ := q
    have ha : as[i]? = some as[i] := List.getElem?_eq_getElem (by omega)
    have et : as.take (i + 1) = as.take i ++ [as[i]] := by rw [List.take_add_one, ha]; rfl
    refine hs i _ x Ha Hb _ _ ha q1 y (fun pf H4 s4 => ?_) (fun pt y H4 s4 r4 => ?_)
    · refine ⟨zs, Same.trans q1 s4, s4 _ _ q2, by omega, ?_⟩
      rw [et, List.filter_append, List.filter_cons, if_neg (by rw [pf]; exact Bool.false_ne_true), List.filter_nil, List.append_nil]
      exact q4.mono fun b v r => hR b v _ _ ⟨fun x o _ e => s4 _ _ e, zs, zs, q2, s4 _ _ q2⟩ r
    · have z4 := s4 _ _ q2
      have k4 : Keep D H4 (upd H4 D (.lst (zs ++ [y]))) := ⟨fun x o nx e => (upd_ne nx).trans e, _, _, z4, upd_same⟩
      refine ⟨zs, z4, by omega, zs ++ [y], fun b' v e => ?_, upd_same, by simp; omega, ?_⟩
      · rw [upd_ne (ne_of_none e hD)]
        exact s4 _ _ (q1 _ _ e)
      · rw [et, List.filter_append, List.filter_cons, if_pos pt, List.filter_nil, List.map_append]
        refine Fits.snoc (q4.mono fun b v r => hR b v _ _ k4 (hR b v _ _ ⟨fun x o _ e => s4 _ _ e, zs, zs, q2, z4⟩ r)) (hR _ _ _ _ k4 r4)
  · obtain ⟨zs, q1, q2, q3, q4⟩ := q
    rw [← hn, List.take_length] at q4
    exact hend H' zs q1 q2 q4
theorem Plain.dp {H : Hp} {r : List Int} {v : V} (h : Plain H r v) : Dp K H v (rD r) := by
  obtain ⟨b, rfl, hb⟩ := h
  exact dp_ints (.inl (.inl hb))
theorem fits_rows {H : Hp} {rs : List (List Int)} {zs : List V} (h : Fits (fun r v => Dp K H v (rD r)) rs zs) : DpAll K H zs (rs.map rD) := by
  refine dpAll_get (by rw [List.length_map]; exact h.1) fun j y d h1 h2 => ?_
  rw [List.getElem?_map] at h2
  obtain ⟨r, hr, rfl⟩ := Option.map_eq_some_iff.mp h2
  exact h.2 j r y hr h1
theorem filterT {α : Type} (l : List α) : l.filter (fun _ => true) = l := List.filter_eq_self.mpr fun _ _ => rfl
theorem rows_list {H : Hp} {xs : List V} {rs : List (List Int)} (h : DpAll K H xs (rs.map rD)) : xs.length = rs.length := by
  have := Toy.DpAll.len h
  rwa [List.length_map] at this
theorem same_none {H H' : Hp} {d : Addr} (s : Same H H') (h : H' d = none) : H d = none := by
  cases c : H d with
  | none => rfl
  | some o => rw [s _ _ c] at h; cases h
theorem sql_sm {H H' : Hp} {a : Addr} {xs : List V} (h : SqL K H a xs) (s : Same H H') : SqL K H' a xs := by
  rcases h with (h | ⟨u, h⟩) | h
  · exact .inl (.inl (s _ _ h))
  · exact .inl (.inr ⟨u, s _ _ h⟩)
  · exact .inr h
theorem dpAll_snoc {H : Hp} {xs : List V} {ds : List PyData} {x : V} {d : PyData} (h : DpAll K H xs ds) (hx : Dp K H x d) : DpAll K H (xs ++ [x]) (ds ++ [d]) := dpAll_app h (.cons hx .nil)
end
theorem Fits.app {β : Type} {R : β → V → Prop} {bs cs : List β} {ys zs : List V} (h : Fits R bs ys) (k : Fits R cs zs) : Fits R (bs ++ cs) (ys ++ zs) := by
  refine ⟨by rw [List.length_append, List.length_append, h.1, k.1], fun i b v hb hv => ?_⟩
  have e := h.1
  by_cases c : i < ys.length
  · rw [List.getElem?_append_left (by omega)] at hb
    rw [List.getElem?_append_left c] at hv
    exact h.2 i b v hb hv
  · rw [List.getElem?_append_right (by omega)] at hb hv
    rw [e] at hv
    exact k.2 _ b v hb hv
theorem fst_range {n i : Nat} {a : Nat} (h : (List.range n)[i]? = some a) : i < n ∧ a = i := by
  obtain ⟨h1, h2⟩ := List.getElem?_eq_some_iff.mp h
  rw [List.getElem_range] at h2
  rw [List.length_range] at h1
  exact ⟨h1, h2.symm⟩

/-! ### monomials -/
def monF (size j : Nat) : List (List Int) := (List.range j).foldl (fun f _ => f.flatMap (extM size)) [[]]
theorem monF_succ (size j : Nat) : monF size (j + 1) = (monF size j).flatMap (extM size) := by
  unfold monF
  rw [List.range_succ, List.foldl_append]; rfl
theorem monF_ok {size j : Nat} (hs : size ≤ 8) (hj : j ≤ 2) : (monF size j).length ≤ 100 ∧ ∀ m ∈ monF size j, 0 ≤ m.sum ∧ m.sum ≤ size ∧ m.length ≤ 3 := by
  have key : ((List.range 9).all fun size => (List.range 3).all fun j => decide ((monF size j).length ≤ 100) && (monF size j).all fun m => decide (0 ≤ m.sum ∧ m.sum ≤ (size : Int) ∧ m.length ≤ 3)) = true := by decide +kernel
  have h1 := List.all_eq_true.mp (List.all_eq_true.mp key size (List.mem_range.mpr (by omega))) j (List.mem_range.mpr (by omega))
  simp only [Bool.and_eq_true, decide_eq_true_eq, List.all_eq_true] at h1
  exact h1
theorem none_back {H H' : Hp} {p : Addr} (s : Same H H') (h : H' p = none) : H p = none := by
  cases c : H p with
  | none => rfl
  | some o => rw [s _ _ c] at h; cases h
theorem flat_len {α β : Type} {f : α → List β} {l : List α} (i : Nat) : ((l.take i).flatMap f).length ≤ (l.flatMap f).length := by
  have e : l.flatMap f = (l.take i).flatMap f ++ (l.drop i).flatMap f := by rw [← List.flatMap_append, List.take_append_drop]
  rw [e, List.length_append]
  omega
section
variable {P : Program} {w : World} {K : PySem.W.Frag} {mg : Str → Option Value} {base : Heap}
def sp_law_monos (K : PySem.W.Frag) : Sp := fun vs H Q _ => ∃ many size : Nat, vs = [.int many, .int size] ∧ 1 ≤ many ∧ many ≤ 3 ∧ size ≤ 8 ∧ ∀ p H' ys, H p = none → H' p = some (.lst ys) → DpAll K H' ys ((monosL many size).map rD) → Same H H' → Q (.ref p) H'
theorem ok_law_monos (T : Txt K mg) : FnOk P w K mg base CX0 1 T.law_monos.f T.law_monos.fd P_law_monos (sp_law_monos K) := by
  refine T.law_monos.F.ok sc_law_monos (fun vs H Q E h => ?_) (fun cdv A outer s H vs Q E hr h => ?_)
  · obtain ⟨many, size, rfl, _⟩ := h; rfl
  · obtain ⟨many, size, rfl, hm1, hm3, hz, k⟩ := h
    refine ⟨_, (pss_cons (ps_set (i := 2) sc_law_monos.nd rfl (Or.inl rfl) (pe_lst (pa_cons (pe_tup pa_nil) pa_nil)))
  (pss_cons (ps_for PassesOwn.never rfl (pi_range1 rfl T.n_range (pa_cons (pe_op op_sub (pv 0) pe_int) pa_nil)) (pg_name (i := 3) sc_law_monos.nd rfl (Or.inl rfl)) (pss_cons (ps_set (i := 4) sc_law_monos.nd rfl (Or.inl rfl) (pe_lst pa_nil))
  (pss_cons (ps_for PassesOwn.never rfl (pi_list (pv 2)) (pg_name (i := 5) sc_law_monos.nd rfl (Or.inr rfl)) (pss_one (ps_set (i := 4) sc_law_monos.nd rfl (Or.inl rfl) (pe_op op_cat (pv 4) (pe_lc (own := [("e", 6)]) rfl sc_law_monos.nd (pi_range1 rfl T.n_range (pa_cons (pe_op op_sub (pe_op op_add (pv 1) pe_int) (pe_callB (r := rSumS K) (cr_sumS rfl) rfl T.n_sum bo_sum (pa_cons (pv 5) pa_nil))) pa_nil)) (blkOk_by (own := [("e", 6)]) (N := N_law_monos) (sc := defScope s_law_monos) (by decide +kernel)) (fun _ _ _ _ _ => (pg_name (i := 6) sc_law_monos.nd rfl (Or.inl rfl))) (fun _ _ _ _ _ => pts_nil) (fun _ _ _ _ _ => (pe_op (r := rCatA K) op_catA (pv 5) (pe_tup (pa_cons (pv 6) pa_nil)))))))))
  (pss_one (ps_set (i := 2) sc_law_monos.nd rfl (Or.inl rfl) (pv 4))))))
  (pss_one (ps_ret (pe_lc (own := [("mono", 5)]) rfl sc_law_monos.nd (pi_list (pv 2)) (blkOk_by (own := [("mono", 5)]) (N := N_law_monos) (sc := defScope s_law_monos) (by decide +kernel)) (fun _ _ _ _ _ => (pg_name (i := 5) sc_law_monos.nd rfl (Or.inl rfl))) (fun _ _ _ _ _ => pts_nil) (fun _ _ _ _ _ => (pe_op (r := rCatA K) op_catA (pv 5) (pe_tup (pa_cons (pe_op op_sub (pv 1) (pe_callB (r := rSumS K) (cr_sumS rfl) rfl T.n_sum bo_sum (pa_cons (pv 5) pa_nil))) pa_nil))))))))), ?_⟩
    have hline : 1000 ≤ sizeLine := by decide
    refine ⟨Nat.zero_le _, fun t0 ht0 => ⟨(show 1 ≤ sizeLine by decide), fun f0 hf0 => ?_⟩⟩
    have s1 := same_upd (o := .tup []) ht0
    have s2 := same_upd (o := .lst [.ref t0]) hf0
    have e2 : (upd (upd H t0 (.tup [])) f0 (.lst [.ref t0])) f0 = some (.lst [.ref t0]) := upd_same
    have d2 : DpAll K (upd (upd H t0 (.tup [])) f0 (.lst [.ref t0])) [.ref t0] ((monF size 0).map rD) := .cons (.tup (.inl (.inl (s2 _ _ upd_same))) .nil) .nil
    have s12 := Same.trans s1 s2
    generalize upd (upd H t0 (.tup [])) f0 (.lst [.ref t0]) = H2 at *
    walk_at "rd"
    refine ⟨by omega, by omega, ?_⟩
    rw [show ((many : Int) - 1).toNat = many - 1 by omega]
    refine for_it walk_range (fun j σ H' => ∃ (fa : Addr) (ys : List V) (y3 y4 y5 : Option V), σ = [some (.int many), some (.int size), some (.ref fa), y3, y4, y5, none] ∧ Same H H' ∧ H' fa = some (.lst ys) ∧ DpAll K H' ys ((monF size j).map rD)) ⟨f0, _, none, none, none, rfl, s12, e2, d2⟩ (fun j σ H' _ q => trivial) (fun j x σ H' H3 hj q y => ?_) (fun σ H' q => ?_)
    · obtain ⟨fa, ys, y3, y4, y5, rfl, s', ef, df⟩ := q
      obtain ⟨rfl, rfl⟩ := y
      obtain ⟨o1, o2⟩ := monF_ok hz (show j ≤ 2 by omega)
      obtain ⟨o3, _⟩ := monF_ok hz (show j + 1 ≤ 2 by omega)
      rw [monF_succ] at o3 ⊢
      have hyl := rows_list df
      refine ⟨Nat.zero_le _, fun la hla => ?_⟩
      have s4 := same_upd (o := .lst []) hla
      have e4 : (upd H3 la (.lst [])) la = some (.lst []) := upd_same
      have s34 := Same.trans s' s4
      have ef4 := s4 _ _ ef
      have df4 := DpAll.same s4 _ _ df
      generalize upd H3 la (.lst []) = H4 at *
      walk_at "rd"
      refine ⟨⟨_, .inl (.inl ef4)⟩, ?_⟩
      refine for_list (K := K) (a := fa) (xs := ys) (fun i σ H' => ∃ (lb : Addr) (zs : List V) (y5 : Option V), σ = [some (.int many), some (.int size), some (.ref fa), some (.int (0 + (j : Nat))), some (.ref lb), y5, none] ∧ Same H4 H' ∧ H' lb = some (.lst zs) ∧ DpAll K H' zs ((((monF size j).take i).flatMap (extM size)).map rD)) ⟨la, [], _, rfl, Same.refl _, e4, .nil⟩ (fun i σ H' _ q => ?_) (fun i x σ H5 hi q => ?_) (fun σ H5 q => ?_)
      · obtain ⟨lb, zs, y5, rfl, s5, e5, d5⟩ := q
        exact .inl (.inl (s5 _ _ ef4))
      · obtain ⟨lb, zs, y5, rfl, s5, e5, d5⟩ := q
        obtain ⟨am, m, hm, rfl, ham⟩ := row_at df4 hi
        have hmm := o2 m (List.mem_of_getElem? hm)
        have ham5 := Toy.Same.tup s5 ham
        have et : (monF size j).take (i + 1) = (monF size j).take i ++ [m] := by rw [List.take_add_one, hm]; rfl
        have hlen := flat_len (f := extM size) (l := monF size j) (i + 1)
        rw [et, List.flatMap_append, List.flatMap_singleton] at hlen ⊢
        have hzl := rows_list d5
        rw [List.length_append] at hlen
        walk_at "rd"
        refine ⟨am, m, rfl, .inr ham5, ?_⟩
        walk_at "rd"
        refine ⟨by omega, by omega, fun D hD => ?_⟩
        refine lc_gen walk_range (List.range ((size : Int) + 1 - m.sum).toNat) (fun _ => true) (fun (e : Nat) => m ++ [(e : Int)]) (fun b v H => Dp K H v (rD b)) (by rw [List.length_range]) (fun _ _ => trivial) hD (by omega) (fun b v Ha Hb k h => Dp.tp k.tp _ _ (tOnly_ints b) h) (fun e x y Ha Hb Qn Qy he sa yy _ ht => ?_) (fun H' zs' s' e' fz => ?_)
        · obtain ⟨rfl, rfl⟩ := yy
          obtain rfl : x = e := by
            have := List.getElem?_eq_some_iff.mp he
            obtain ⟨_, h⟩ := this
            rw [List.getElem_range] at h
            exact h.symm
          walk_at "rd"
          dsimp only [tNil]
          refine ⟨Nat.le_trans (show 1 ≤ 1000 by decide) hline, fun q hq => ?_⟩
          have sq := same_upd (o := .tup [V.int (0 + (x : Nat))]) hq
          refine catA (Toy.Same.tup (Same.trans sa sq) ham5) (.inl (.inl upd_same)) (by rw [List.length_map]; simp; omega) fun r H9 s9 t9 => ht rfl _ _ (Same.trans sq s9) (dp_ints ?_)
          rw [List.map_append]
          rw [show (0 : Int) + (x : Nat) = x by omega] at t9
          exact t9
        · rw [filterT] at fz
          have dz := fits_rows fz
          have e5' := s' _ _ e5
          refine ⟨lb, D, zs, zs', rfl, rfl, e5', e', ?_, fun q hq => ?_⟩
          · have := fz.1
            have hb : 1000 ≤ sizeLine := by decide
            rw [List.length_map] at this
            have hx : (extM size m).length = (List.range ((size : Int) + 1 - m.sum).toNat).length := List.length_map ..
            omega
          · have sq := same_upd (o := .lst (zs ++ zs')) hq
            walk_at "rd"
            refine ⟨q, zs ++ zs', _, rfl, Same.trans s5 (Same.trans s' sq), upd_same, ?_⟩
            rw [List.map_append]
            exact dpAll_app (DpAll.same (Same.trans s' sq) _ _ d5) (DpAll.same sq _ _ dz)
      · obtain ⟨lb, zs, y5, rfl, s5, e5, d5⟩ := q
        rw [hyl, List.take_length] at d5
        walk_at "rd"
        exact ⟨lb, zs, _, _, _, rfl, Same.trans s34 s5, e5, d5⟩
    · obtain ⟨fa, ys, y3, y4, y5, rfl, s', ef, df⟩ := q
      obtain ⟨o1, o2⟩ := monF_ok hz (show many - 1 ≤ 2 by omega)
      have hyl := rows_list df
      walk_at "rd"
      refine ⟨⟨_, .inl (.inl ef)⟩, fun D hD => ?_⟩
      refine lc_gen (walk_list (K := K) (a := fa) (xs := ys)) (monF size (many - 1)) (fun _ => true) (fun m => m ++ [(size : Int) - m.sum]) (fun b v H => Dp K H v (rD b)) (by rw [hyl]) (fun H' s => .inl (.inl (s _ _ ef))) hD (by omega) (fun b v Ha Hb k h => Dp.tp k.tp _ _ (tOnly_ints b) h) (fun i m x Ha Hb Qn Qy hm sa yy _ ht => ?_) (fun H2 zs s2 e2 fz => ?_)
      · obtain ⟨rfl, ey⟩ := yy
        obtain ⟨am, m', hm', rfl, ham⟩ := row_at df ey
        rw [hm] at hm'
        cases hm'
        have hmm := o2 m (List.mem_of_getElem? hm)
        have ham5 := Toy.Same.tup sa ham
        walk_at "rd"
        dsimp only [tNil]
        refine ⟨am, m, rfl, .inr ham5, ?_⟩
        walk_at "rd"
        walk_at "rd"
        dsimp only [tNil]
        refine ⟨Nat.le_trans (show 1 ≤ 1000 by decide) hline, fun q hq => ?_⟩
        have sq := same_upd (o := .tup [V.int ((size : Int) - m.sum)]) hq
        refine catA (Toy.Same.tup sq ham5) (.inl (.inl upd_same)) (by rw [List.length_map]; simp; omega) fun r H9 s9 t9 => ht rfl _ _ (Same.trans sq s9) (dp_ints ?_)
        rw [List.map_append]
        exact t9
      · rw [filterT] at fz
        exact k D H2 zs (none_back s' hD) e2 (fits_rows fz) (Same.trans s' s2)
end

/-! ### emptiness of lists; the law's small defs -/
theorem can_ints : ∀ l : List Int, PyData.canLayAll0 (l.map .int) = true
  | [] => rfl
  | x :: l => by
    show (PyData.canLay0 (.int x) && PyData.canLayAll0 (l.map .int)) = true
    rw [can_ints l]; rfl
theorem can_rows : ∀ l : List (List Int), PyData.canLayAll0 (l.map rD) = true
  | [] => rfl
  | x :: l => by
    show (PyData.canLayAll0 (x.map .int) && PyData.canLayAll0 (l.map rD)) = true
    rw [can_rows l, can_ints x]; rfl
theorem depth_rD (c : List Int) : (rD c).depth ≤ 1 := by
  simp only [PyData.depth, PySem.W.depth_ints]
  omega
theorem depth_rows : ∀ l : List (List Int), PyData.depthAll (l.map rD) ≤ 1
  | [] => by simp [PyData.depthAll]
  | x :: l => by
    have h1 := depth_rows l
    have h2 := depth_rD x
    show PyData.depthAll (rD x :: l.map rD) ≤ 1
    rw [PyData.depthAll]
    omega
theorem sh_rows (l : List (List Int)) : SeqAt.shaped (.list (l.map rD)) = true := by
  unfold SeqAt.shaped
  have h := depth_rows l
  rw [show PyData.canLay0 (.list (l.map rD)) = true from can_rows l, Bool.true_and, decide_eq_true_eq]
  simp only [PyData.depth]
  omega
theorem sh_li (l : List Int) : SeqAt.shaped (.list (l.map .int)) = true := by
  unfold SeqAt.shaped
  rw [show PyData.canLay0 (.list (l.map .int)) = true from can_ints l, Bool.true_and, decide_eq_true_eq]
  simp only [PyData.depth, PySem.W.depth_ints]
  omega
theorem eqv_nil (ds : List PyData) : PyData.eqv (.list ds) (.list []) = ds.isEmpty := by
  cases ds <;> simp [PyData.eqv, PyData.eqvAll]
section
variable {K : PySem.W.Frag} {H : Hp} {a b : Addr} {xs : List V} {ds : List PyData} {Q : VK}
theorem eqNil (ha : SqL K H a xs) (hb : H b = some (.lst [])) (hd : DpAll K H xs ds) (hs : SeqAt.shaped (.list ds) = true) (q : Q (.bl xs.isEmpty) H) : rEqD K (.ref a) (.ref b) H Q := by
  refine ⟨_, _, .lst ha hd, .lst (.inl (.inl hb)) .nil, hs, by decide, ?_⟩
  rw [eqv_nil]
  have e : ds.isEmpty = xs.isEmpty := by cases hd <;> rfl
  rw [e]
  exact q
theorem neNil (ha : SqL K H a xs) (hb : H b = some (.lst [])) (hd : DpAll K H xs ds) (hs : SeqAt.shaped (.list ds) = true) (q : Q (.bl (!xs.isEmpty)) H) : rNeD K (.ref a) (.ref b) H Q := by
  refine ⟨_, _, .lst ha hd, .lst (.inl (.inl hb)) .nil, hs, by decide, ?_⟩
  rw [eqv_nil]
  have e : ds.isEmpty = xs.isEmpty := by cases hd <;> rfl
  rw [e]
  exact q
end

/-! ### equal rows -/
theorem eqv_intsL : ∀ a b : List Int, PyData.eqvAll (a.map .int) (b.map .int) = decide (a = b)
  | [], [] => rfl
  | [], _ :: _ => by simp [PyData.eqvAll]
  | _ :: _, [] => by simp [PyData.eqvAll]
  | x :: a, y :: b => by
    show (PyData.eqv (.int x) (.int y) && PyData.eqvAll (a.map .int) (b.map .int)) = _
    rw [eqv_intsL a b]
    show (x == y && decide (a = b)) = _
    by_cases h1 : x = y <;> by_cases h2 : a = b <;> simp [h1, h2]
theorem eqv_rowsL : ∀ a b : List (List Int), PyData.eqvAll (a.map rD) (b.map rD) = decide (a = b)
  | [], [] => rfl
  | [], _ :: _ => by simp [PyData.eqvAll]
  | _ :: _, [] => by simp [PyData.eqvAll]
  | x :: a, y :: b => by
    show (PyData.eqvAll (x.map .int) (y.map .int) && PyData.eqvAll (a.map rD) (b.map rD)) = _
    rw [eqv_rowsL a b, eqv_intsL]
    by_cases h1 : x = y <;> by_cases h2 : a = b <;> simp [h1, h2]
theorem sh_rD (l : List Int) : SeqAt.shaped (rD l) = true := by
  unfold SeqAt.shaped
  rw [show PyData.canLay0 (rD l) = true from can_ints l, Bool.true_and, decide_eq_true_eq]
  simp only [PyData.depth, PySem.W.depth_ints]
  omega
theorem sh_rsD (l : List (List Int)) : SeqAt.shaped (rsD l) = true := by
  unfold SeqAt.shaped
  have h := depth_rows l
  rw [show PyData.canLay0 (rsD l) = true from can_rows l, Bool.true_and, decide_eq_true_eq]
  simp only [PyData.depth]
  omega
section
variable {K : PySem.W.Frag} {H : Hp} {a b : Addr} {l m : List Int} {ls ks : List (List Int)} {Q : VK}
theorem eqRow (ha : SqT K H a (l.map V.int)) (hb : SqT K H b (m.map V.int)) (q : Q (.bl (decide (l = m))) H) : rEqD K (.ref a) (.ref b) H Q := by
  refine ⟨_, _, dp_ints ha, dp_ints hb, sh_rD l, sh_rD m, ?_⟩
  show Q (.bl (PyData.eqvAll (l.map .int) (m.map .int))) H
  rw [eqv_intsL]
  exact q
theorem neRow (ha : SqT K H a (l.map V.int)) (hb : SqT K H b (m.map V.int)) (q : Q (.bl (!decide (l = m))) H) : rNeD K (.ref a) (.ref b) H Q := by
  refine ⟨_, _, dp_ints ha, dp_ints hb, sh_rD l, sh_rD m, ?_⟩
  show Q (.bl (!PyData.eqvAll (l.map .int) (m.map .int))) H
  rw [eqv_intsL]
  exact q
theorem eqRows {u v : V} (ha : Dp K H u (rsD ls)) (hb : Dp K H v (rsD ks)) (q : Q (.bl (decide (ls = ks))) H) : rEqD K u v H Q := by
  refine ⟨_, _, ha, hb, sh_rsD ls, sh_rsD ks, ?_⟩
  show Q (.bl (PyData.eqvAll (ls.map rD) (ks.map rD))) H
  rw [eqv_rowsL]
  exact q
end

/-! ### x in a tuple of data, x not in one -/
section
open PySem PySem.Spec PyProof.Rows
variable {X : Cx}
def rInT (K : PySem.W.Frag) : R2 := fun x y H Q => ∃ d ds, Dp K H x d ∧ Dp K H y (.tuple ds) ∧ SeqAt.shaped d = true ∧ SeqAt.shaped (.tuple ds) = true ∧ Q (.bl (ds.any fun z => PyData.eqv z d)) H
theorem op_inT (hu : X.A.units + 65 < cLine) : OpR X (compareOp .In) (rInT X.K) := by
  intro pins s σ H x y v u Q I rx ry h
  obtain ⟨d, ds, hd, he, sd, se, q⟩ := h
  obtain ⟨as, r1⟩ := Dp.reads I d x v hd rx
  obtain ⟨bs, r2⟩ := Dp.reads I (.tuple ds) y u he ry
  exact SeqAt.in_tuple_reads r2 r1 (SeqAt.canLay_of_shaped se) (SeqAt.canLay_of_shaped sd) (room_in_shaped sd hu) ⟨.bl _, H, I, rfl, q⟩
def rNotInT (K : PySem.W.Frag) : R2 := fun x y H Q => ∃ d ds, Dp K H x d ∧ Dp K H y (.tuple ds) ∧ SeqAt.shaped d = true ∧ SeqAt.shaped (.tuple ds) = true ∧ Q (.bl (!ds.any fun z => PyData.eqv z d)) H
theorem op_notInT (hu : X.A.units + 65 < cLine) : OpR X (compareOp .NotIn) (rNotInT X.K) := by
  intro pins s σ H x y v u Q I rx ry h
  obtain ⟨d, ds, hd, he, sd, se, q⟩ := h
  obtain ⟨as, r1⟩ := Dp.reads I d x v hd rx
  obtain ⟨bs, r2⟩ := Dp.reads I (.tuple ds) y u he ry
  exact SeqAt.notIn_tuple_reads r2 r1 (SeqAt.canLay_of_shaped se) (SeqAt.canLay_of_shaped sd) (room_in_shaped sd hu) ⟨.bl _, H, I, rfl, q⟩
end
theorem any_rows (l : List Int) (ls : List (List Int)) : ((ls.map rD).any fun z => PyData.eqv z (rD l)) = decide (l ∈ ls) := by
  induction ls with
  | nil => rfl
  | cons y ls ih =>
    rw [List.map_cons, List.any_cons, ih, show PyData.eqv (rD y) (rD l) = decide (y = l) from eqv_intsL y l]
    by_cases h1 : y = l
    · subst h1; simp
    · have h2 : ¬ l = y := fun z => h1 z.symm
      simp [h1, h2]
theorem inRows {K : PySem.W.Frag} {H : Hp} {a : Addr} {v : V} {l : List Int} {ls : List (List Int)} {Q : VK} (ha : SqT K H a (l.map V.int)) (hv : Dp K H v (rsD ls)) (q : Q (.bl (decide (l ∈ ls))) H) : rInT K (.ref a) v H Q := by
  refine ⟨_, _, dp_ints ha, hv, sh_rD l, sh_rsD ls, ?_⟩
  rw [any_rows]; exact q
theorem notInRows {K : PySem.W.Frag} {H : Hp} {a : Addr} {v : V} {l : List Int} {ls : List (List Int)} {Q : VK} (ha : SqT K H a (l.map V.int)) (hv : Dp K H v (rsD ls)) (q : Q (.bl (!decide (l ∈ ls))) H) : rNotInT K (.ref a) v H Q := by
  refine ⟨_, _, dp_ints ha, hv, sh_rD l, sh_rsD ls, ?_⟩
  rw [any_rows]; exact q
theorem room65 {k : Nat} {A : Around} (r : Room k A) : A.units + 65 < cLine := by have := r.un; omega

/-! ### what may follow a layer -/
theorem monos_ok {many size : Nat} (h1 : 1 ≤ many) (h3 : many ≤ 3) (hs : size ≤ 8) : (monosL many size).length ≤ 100 ∧ ∀ m ∈ monosL many size, m.length = many ∧ ∀ x ∈ m, 0 ≤ x ∧ x ≤ 8 := by
  have key : ((List.range 4).all fun many => (List.range 9).all fun size => decide (many = 0) || decide ((monosL many size).length ≤ 100) && (monosL many size).all fun m => decide (m.length = many) && m.all fun x => decide (0 ≤ x ∧ x ≤ 8)) = true := by decide +kernel
  have h := List.all_eq_true.mp (List.all_eq_true.mp key many (List.mem_range.mpr (by omega))) size (List.mem_range.mpr (by omega))
  rcases Bool.or_eq_true_iff.mp h with z | z
  · have := of_decide_eq_true z
    omega
  · simp only [Bool.and_eq_true, decide_eq_true_eq, List.all_eq_true] at z
    exact z
theorem dpAll_emptyR {K : PySem.W.Frag} {H : Hp} {zs : List V} {ls : List (List Int)} (h : DpAll K H zs (ls.map rD)) : zs.isEmpty = ls.isEmpty := by
  cases ls with
  | nil => cases h; rfl
  | cons a l => cases h; rfl
theorem filter_emptyR {α : Type} {p : α → Bool} {l : List α} : (l.filter p).isEmpty = l.all fun x => !p x := by
  induction l with
  | nil => rfl
  | cons a l ih =>
    rw [List.filter_cons, List.all_cons]
    cases h : p a <;> simp [ih]
section
variable {P : Program} {w : World} {K : PySem.W.Frag} {mg : Str → Option Value} {base : Heap}
def sp_law_next (K : PySem.W.Frag) : Sp := fun vs H Q _ => ∃ (many size : Nat) (la : Addr) (L : List (List Int)), vs = [.int many, .ref la, .int size] ∧ 1 ≤ many ∧ many ≤ 3 ∧ size ≤ 7 ∧ Dp K H (.ref la) (rsD L) ∧ ∀ p H' ys, H p = none → H' p = some (.lst ys) → DpAll K H' ys ((nextL many L size).map rD) → Same H H' → Q (.ref p) H'
theorem ok_law_next (T : Txt K mg) : FnOk P w K mg base CX0 2 T.law_next.f T.law_next.fd P_law_next (sp_law_next K) := by
  refine T.law_next.F.ok sc_law_next (fun vs H Q E h => ?_) (fun cdv A outer s H vs Q E hr h => ?_)
  · obtain ⟨many, size, la, L, rfl, _⟩ := h; rfl
  · obtain ⟨many, size, la, L, rfl, hm1, hm3, hz, hL, k⟩ := h
    refine ⟨_, (pss_cons (ps_set (i := 3) sc_law_next.nd rfl (Or.inl rfl) (pe_lst pa_nil))
  (pss_cons (ps_for PassesOwn.never rfl (pi_list (pe_call (ok_law_monos T) (hr.mono (by decide)) rfl T.law_monos.g T.law_monos.F.kp (b_law_monos T) .nil pass0 (pa_cons (pv 0) (pa_cons (pe_op op_add (pv 2) pe_int) pa_nil)))) (pg_name (i := 4) sc_law_next.nd rfl (Or.inr rfl)) (pss_cons (ps_setLc (i := 5) (own := [("at", 7)]) rfl sc_law_next.nd rfl rfl (sw_true rfl rfl rfl (by decide +kernel)) (pi_range1 rfl T.n_range (pa_cons (pv 0) pa_nil)) (blkOk_by (own := [("at", 7)]) (N := N_law_next) (sc := defScope s_law_next) (by decide +kernel)) (fun _ _ _ _ _ => (pg_name (i := 7) sc_law_next.nd rfl (Or.inr rfl))) (fun _ _ _ _ _ => pts_one (pt_cmpR op_gt (pe_ix (r := rIxT K) ix_tup (pv 4) (pv 7) (fun _ _ => rfl)) pe_int (nomark _))) (fun _ _ _ _ _ => (pe_callTy (r := rTupOf K) call_tuple_of rfl T.n_tuple bo_tuple (pa_cons (pe_lc (own := [("k", 6)]) rfl sc_law_next.nd (pi_range1 rfl T.n_range (pa_cons (pv 0) pa_nil)) (blkOk_in (own := [("k", 6)]) (N := N_law_next) (sc := _) (by decide +kernel)) (fun _ _ _ _ _ => (pg_name (i := 6) sc_law_next.nd rfl (Or.inl rfl))) (fun _ _ _ _ _ => pts_nil) (fun _ _ _ _ _ => (pe_op op_sub (pe_ix (r := rIxT K) ix_tup (pv 4) (pv 6) (fun _ _ => rfl)) (pe_callTy call_int1 rfl T.n_int bo_int (pa_cons (pe_cmpR op_eq (pv 6) (pv 7) (nomark _)) pa_nil))))) pa_nil))))
  (pss_one (ps_if (pt_cmpR (r := rEqD K) (op_eqD hr.units) (pe_lc (own := [("part", 8)]) rfl sc_law_next.nd (pi_list (pv 5)) (blkOk_by (own := [("part", 8)]) (N := N_law_next) (sc := defScope s_law_next) (by decide +kernel)) (fun _ _ _ _ _ => (pg_name (i := 8) sc_law_next.nd rfl (Or.inl rfl))) (fun _ _ _ _ _ => pts_one (pt_cmpR (r := rNotInT K) (op_notInT (room65 hr)) (pv 8) (pv 1) (by rfl))) (fun _ _ _ _ _ => (pv 8))) (pe_lst pa_nil) (nomark _)) (pss_one (ps_expr (pe_bm PySem.F.plainAttrs_list PySem.F.slot_list_append PySem.F.type_list_append mt_append (pv 3) (pa_cons (pv 4) pa_nil)))) pss_nil))))
  (pss_one (ps_ret (pv 3))))), ?_⟩
    have hline : 1000 ≤ sizeLine := by decide
    obtain ⟨hMl, hM⟩ := monos_ok hm1 hm3 (show size + 1 ≤ 8 by omega)
    refine ⟨Nat.zero_le _, fun f0 hf0 => ?_⟩
    have s1 := same_upd (o := .lst []) hf0
    have e1 : (upd H f0 (.lst [])) f0 = some (.lst []) := upd_same
    generalize upd H f0 (.lst []) = H1 at *
    walk_at "rd"
    refine ⟨hm1, hm3, (show size + 1 ≤ 8 by omega), fun q H2 ms nq eq dq s2 => ?_⟩
    walk_at "rd"
    refine ⟨⟨_, .inl (.inl eq)⟩, ?_⟩
    have hml : ms.length = (monosL many (size + 1)).length := rows_list dq
    have nqf : q ≠ f0 := fun z => by rw [z, e1] at nq; cases nq
    refine for_list (K := K) (a := q) (xs := ms) (fun i σ H' => ∃ (ys : List V) (y4 y5 : Option V), σ = [some (.int many), some (.ref la), some (.int size), some (.ref f0), y4, y5, none, none, none] ∧ Same H H' ∧ H' q = some (.lst ms) ∧ DpAll K H' ms ((monosL many (size + 1)).map rD) ∧ H' f0 = some (.lst ys) ∧ ys.length ≤ i ∧ DpAll K H' ys ((((monosL many (size + 1)).take i).filter fun m => (partsL many m).all fun p => decide (p ∈ L)).map rD)) ?_ (fun i σ H' _ h => ?_) (fun i x σ H3 hi h => ?_) (fun σ H3 h => ?_)
    · exact ⟨[], none, none, rfl, Same.trans s1 s2, eq, dq, s2 _ _ e1, Nat.le_refl _, .nil⟩
    · obtain ⟨_, _, _, _, _, h, _⟩ := h
      exact .inl (.inl h)
    · obtain ⟨ys, y4, y5, rfl, s3, eq3, dq3, ef3, hyl, df3⟩ := h
      obtain ⟨am, m, hm, rfl, ham⟩ := row_at dq3 hi
      obtain ⟨hmm1, hmm2⟩ := hM m (List.mem_of_getElem? hm)
      have hil : i < ms.length := (List.getElem?_eq_some_iff.mp hi).1
      have et : (monosL many (size + 1)).take (i + 1) = (monosL many (size + 1)).take i ++ [m] := by rw [List.take_add_one, hm]; rfl
      rw [et, List.filter_append, List.map_append]
      have hg : ∀ j : Nat, j < many → (m.map V.int)[j]? = some (V.int (gI m j)) ∧ 0 ≤ gI m j ∧ gI m j ≤ 8 := fun j hj => ⟨at_gI (by omega), hmm2 _ (List.mem_of_getElem? (gI_get (by omega)))⟩
      walk_at "rd"
      have hrg : ∀ {j x : Nat}, (List.range (many : Int).toNat)[j]? = some x → j < many ∧ x = j := fun {j x} he => by
        obtain ⟨h1, h2⟩ := List.getElem?_eq_some_iff.mp he
        rw [List.getElem_range] at h2
        rw [List.length_range] at h1
        exact ⟨by omega, h2.symm⟩
      refine ⟨by omega, by omega, fun D hD => ?_⟩
      refine lc_gen walk_range (List.range (many : Int).toNat) (fun j => decide (0 < gI m j)) (partM many m) (fun b v H => Dp K H v (rD b)) (by rw [List.length_range]) (fun _ _ => trivial) hD (by omega) (fun b v Ha Hb k h => Dp.tp k.tp _ _ (tOnly_rD b) h) (fun j x y Ha Hb Qn Qy he sa yy hf ht => ?_) (fun H4 zs s4 e4 fz => ?_)
      · obtain ⟨rfl, rfl⟩ := yy
        obtain ⟨hj, rfl⟩ := hrg he
        obtain ⟨g1, g2, g3⟩ := hg x hj
        have ham5 := Toy.Same.tup sa ham
        walk_at "rd"
        refine ⟨_, _, _, _, rfl, rfl, ham5, at_of (show (0 : Int) + (x : Nat) = ((x : Nat) : Int) by omega) g1, ?_⟩
        walk_at "rd"
        refine iteD (fun hpos => ?_) (fun hpos => hf (decide_eq_false hpos) _ (Same.refl _))
        walk_at "rd"
        refine ⟨by omega, by omega, fun D2 hD2 => ?_⟩
        refine lc_gen walk_range (List.range (many : Int).toNat) (fun _ => true) (fun k : Nat => gI m k - if k = x then 1 else 0) (fun b v _ => v = .int b) (by rw [List.length_range]) (fun _ _ => trivial) hD2 (by omega) (fun _ _ _ _ _ h => h) (fun k z zz Hc Hd Qn2 Qy2 hk sb yy2 _ ht2 => ?_) (fun H5 zs s5 e5 fz => ?_)
        · obtain ⟨rfl, rfl⟩ := yy2
          obtain ⟨hkm, rfl⟩ := hrg hk
          obtain ⟨r1, r2, r3⟩ := hg z hkm
          have ham6 := Toy.Same.tup sb ham5
          walk_at "rd"
          refine ⟨_, _, _, _, rfl, rfl, ham6, at_of (show (0 : Int) + (z : Nat) = ((z : Nat) : Int) by omega) r1, ?_⟩
          walk_at "rd"
          dsimp only [tNil]
          refine .inr ⟨_, rfl, ?_⟩
          walk_at "rd"
          refine ht2 rfl _ _ (Same.refl _) ?_
          refine congrArg V.int (congrArg (gI m z - ·) ?_)
          by_cases c : z = x
          · rw [if_pos c, if_pos (decide_eq_true (by rw [c]))]
          · rw [if_neg c, if_neg (by rw [decide_eq_false (fun h => c (by have := V.int.inj h; omega))]; exact Bool.false_ne_true)]
        · have ez := fz.map (g := V.int)
          rw [filterT] at ez
          walk_at "rd"
          dsimp only [tNil]
          refine ⟨D2, _, rfl, .inl ⟨.inl (.inl e5), fun l hl => ?_⟩⟩
          have sl := same_upd (o := .tup zs) hl
          refine ht (decide_eq_true hpos) _ _ (Same.trans s5 sl) (dp_ints (.inl (.inl ?_)))
          rw [upd_same, ez]
          rfl
      · rw [show ((List.range (many : Int).toNat).filter fun j => decide (0 < gI m j)).map (partM many m) = partsL many m by rw [Int.toNat_natCast]; rfl] at fz
        have dz := fits_rows fz
        walk_at "rd"
        refine ⟨⟨_, .inl (.inl e4)⟩, fun D2 hD2 => ?_⟩
        refine lc_gen (walk_list (K := K) (a := D) (xs := zs)) (partsL many m) (fun r => !decide (r ∈ L)) id (fun b v H => Dp K H v (rD b)) (fz.1.symm) (fun H' s => .inl (.inl (s _ _ e4))) hD2 ?_ (fun b v Ha Hb k h => Dp.tp k.tp _ _ (tOnly_rD b) h) (fun j r x Ha Hb Qn Qy hr sa yy hf ht => ?_) (fun H5 ws s5 e5 fw => ?_)
        · have hpl : (partsL many m).length ≤ many := by
            unfold partsL
            rw [List.length_map]
            exact Nat.le_trans (List.length_filter_le ..) (by rw [List.length_range]; exact Nat.le_refl _)
          have := fz.1
          omega
        · obtain ⟨rfl, ey⟩ := yy
          obtain ⟨ar, r', hr', rfl, har⟩ := row_at dz ey
          rw [hr] at hr'
          cases hr'
          have har5 := Toy.Same.tup sa har
          have hL5 := Dp.same sa _ _ (Dp.same s4 _ _ (Dp.same s3 _ _ hL))
          walk_at "rd"
          refine notInRows har5 hL5 ?_
          refine ⟨_, rfl, ?_⟩
          refine iteB (fun hb => ?_) (fun hb => hf hb _ (Same.refl _))
          walk_at "rd"
          exact ht hb _ _ (Same.refl _) (dp_ints har5)
        · have ew := fits_rows fw
          walk_at "rd"
          refine ⟨Nat.zero_le _, fun q0 hq0 => ?_⟩
          refine eqNil (.inl (.inl (same_upd hq0 _ _ e5))) upd_same (DpAll.same (same_upd hq0) _ _ ew) (sh_rows _) ?_
          have ei : ws.isEmpty = (partsL many m).all fun p => decide (p ∈ L) := by
            rw [List.map_id] at ew
            rw [dpAll_emptyR ew, filter_emptyR]
            exact congrArg _ (funext fun x => Bool.not_not _)
          rw [ei]
          have s45 := Same.trans s4 (Same.trans s5 (same_upd (o := .lst []) hq0))
          have ef5 := s45 _ _ ef3
          have eq5 := s45 _ _ eq3
          have df5 := DpAll.same s45 _ _ df3
          have dq5 := DpAll.same s45 _ _ dq3
          have s35 := Same.trans s3 s45
          have ham5 := Toy.Same.tup s45 ham
          generalize upd H5 q0 (.lst []) = H6 at *
          refine ⟨_, rfl, ?_⟩
          refine iteB (fun hb => ?_) (fun hb => ?_)
          · walk_at "rd"
            refine ⟨.inl ⟨rfl, _, .inl (.inl ef5)⟩, ?_⟩
            walk_at "rd"
            refine ⟨_, _, _, rfl, rfl, ef5, by omega, ?_⟩
            refine ⟨ys ++ [.ref am], _, _, rfl, fun b o e => ?_, ?_, ?_, upd_same, by simp; omega, ?_⟩
            · rw [upd_ne (ne_of_none e hf0)]
              exact s35 _ _ e
            · rw [upd_ne nqf]; exact eq5
            · exact DpAll.tp (tp_lst ef5) _ _ (tOnly_rows _) dq5
            · rw [List.filter_cons, hb, if_pos rfl, List.filter_nil]
              exact DpAll.tp (tp_lst ef5) _ _ (by rw [← List.map_append]; exact tOnly_rows _) (dpAll_app df5 (.cons (dp_ints ham5) .nil))
          · walk_at "rd"
            refine ⟨ys, _, _, rfl, s35, eq5, dq5, ef5, by omega, ?_⟩
            rw [List.filter_cons, hb]
            simpa using df5
    · obtain ⟨ys, y4, y5, rfl, s3, eq3, dq3, ef3, hyl, df3⟩ := h
      rw [hml, List.take_length] at df3
      walk_at "rd"
      exact k f0 H3 ys hf0 ef3 df3 s3
end

/-! ### lots of layers, up to their order -/
theorem dedL_mem : ∀ {l : List (List (List Int))} {a : List (List Int)}, a ∈ dedL l ↔ a ∈ l
  | [], a => Iff.rfl
  | b :: l, a => by
    unfold dedL
    by_cases h : b ∈ dedL l
    · rw [if_pos h, dedL_mem, List.mem_cons]
      refine ⟨.inr, fun z => z.elim (fun e => ?_) id⟩
      subst e
      exact dedL_mem.mp h
    · rw [if_neg h, List.mem_cons, List.mem_cons, dedL_mem]
theorem dedL_nodup : ∀ (l : List (List (List Int))), (dedL l).Nodup
  | [] => List.nodup_nil
  | b :: l => by
    unfold dedL
    by_cases h : b ∈ dedL l
    · rw [if_pos h]; exact dedL_nodup l
    · rw [if_neg h]; exact List.nodup_cons.mpr ⟨h, dedL_nodup l⟩
theorem perm_ded {l m : List (List (List Int))} (h : m.Nodup) (e : ∀ a, a ∈ m ↔ a ∈ l) : m.Perm (dedL l) :=
  (List.perm_ext_iff_of_nodup h (dedL_nodup l)).mpr fun a => by rw [e, dedL_mem]
theorem lay_le {many : Nat} {vs : List Nat} {n : Nat} {s : List (List (List Int))} (h : layO many vs n = some s) : ∀ i, i ≤ n → ∃ s', layO many vs i = some s' := by
  induction n generalizing s with
  | zero => intro i hi; exact ⟨s, by rw [show i = 0 by omega]; exact h⟩
  | succ n ih =>
    intro i hi
    by_cases c : i = n + 1
    · exact ⟨s, c ▸ h⟩
    · have h' : (layO many vs n).bind (layS many vs n) = some s := h
      obtain ⟨s', e, _⟩ := Option.bind_eq_some_iff.mp h'
      exact ih e i (by omega)
theorem layS_some {many : Nat} {vs : List Nat} {i : Nat} {s t : List (List (List Int))} (h : layS many vs i s = some t) : (∀ a ∈ s, (nextL many a i).length ≤ 8) ∧ (s.flatMap fun a => pickL many a i (vs.getD (i + 1) 0)).length < 64 ∧ t = dedL (s.flatMap fun a => pickL many a i (vs.getD (i + 1) 0)) := by
  unfold layS at h
  split at h
  · rename_i c
    rw [Bool.and_eq_true, decide_eq_true_eq, List.all_eq_true] at c
    exact ⟨fun a ha => of_decide_eq_true (c.1 a ha), c.2, (Option.some.inj h).symm⟩
  · cases h
def choF (m : List Int) (c : List (List (List Int))) : List (List (List Int)) := c ++ c.map fun t => t ++ [m]
theorem choL_take {ms : List (List Int)} {i : Nat} {m : List Int} (h : ms[i]? = some m) : choL (ms.take (i + 1)) = choL (ms.take i) ++ (choL (ms.take i)).map fun t => t ++ [m] := by
  have e : ms.take (i + 1) = ms.take i ++ [m] := by rw [List.take_add_one, h]; rfl
  rw [e]
  unfold choL
  rw [List.foldl_append]; rfl
theorem choL_len (ms : List (List Int)) : (choL ms).length = 2 ^ ms.length := by
  have key : ∀ (ms : List (List Int)) (c : List (List (List Int))), (ms.foldl (fun c m => c ++ c.map fun t => t ++ [m]) c).length = c.length * 2 ^ ms.length := by
    intro ms
    induction ms with
    | nil => intro c; simp
    | cons m ms ih =>
      intro c
      rw [List.foldl_cons, ih, List.length_append, List.length_map, List.length_cons, Nat.pow_succ, ← Nat.mul_two, Nat.mul_assoc, Nat.mul_comm 2]
  have := key ms [[]]
  rw [List.length_singleton, Nat.one_mul] at this
  exact this
theorem maxI_ge : ∀ (l : List Int), -1 ≤ maxI l ∧ (∀ y ∈ l, y ≤ maxI l) ∧ (maxI l = -1 ∨ maxI l ∈ l)
  | [] => ⟨Int.le_refl _, (fun y h => nomatch h), .inl rfl⟩
  | a :: l => by
    obtain ⟨h1, h2, h3⟩ := maxI_ge l
    unfold maxI
    split
    · rename_i c
      refine ⟨by omega, fun y hy => ?_, .inr List.mem_cons_self⟩
      rcases List.mem_cons.mp hy with e | e
      · omega
      · have := h2 y e; omega
    · rename_i c
      refine ⟨h1, fun y hy => ?_, h3.imp id (List.mem_cons_of_mem _)⟩
      rcases List.mem_cons.mp hy with e | e
      · omega
      · exact h2 y e
theorem maxI_at {l k : List Int} {m : Int} (p : k.Perm l) (h1 : m ∈ k ++ [-1]) (h2 : ∀ y ∈ k ++ [-1], y ≤ m) : m = maxI l := by
  obtain ⟨a, b, c⟩ := maxI_ge l
  have h3 := h2 (-1) (by simp)
  rcases c with c | c
  · rcases List.mem_append.mp h1 with e | e
    · have := b m (p.mem_iff.mp e); omega
    · have : m = -1 := by simpa using e
      omega
  · have := h2 (maxI l) (List.mem_append_left _ (p.mem_iff.mpr c))
    rcases List.mem_append.mp h1 with e | e
    · have := b m (p.mem_iff.mp e); omega
    · have : m = -1 := by simpa using e
      omega
/-! ### layers as keys -/
def kM (m : List Int) : NestedKey := .tup (m.map .num)
def kL (l : List (List Int)) : NestedKey := .tup (l.map kM)
def unM : NestedKey → List Int
  | .tup ks => ks.map fun k => match k with | .num i => i | _ => 0
  | _ => []
def unL : NestedKey → List (List Int)
  | .tup ks => ks.map unM
  | _ => []
theorem unM_kM (m : List Int) : unM (kM m) = m := by
  unfold unM kM
  simp only [List.map_map]
  exact (List.map_congr_left fun x _ => rfl).trans (List.map_id m)
theorem unL_kL (l : List (List Int)) : unL (kL l) = l := by
  unfold unL kL
  simp only [List.map_map]
  exact (List.map_congr_left fun x _ => unM_kM x).trans (List.map_id l)
theorem datas_map {α : Type} {f : α → NestedKey} {g : α → PyData} (l : List α) (h : ∀ x ∈ l, (f x).data = g x) : NestedKey.datas (l.map f) = l.map g := by
  induction l with
  | nil => rfl
  | cons a l ih =>
    show (f a).data :: NestedKey.datas (l.map f) = g a :: l.map g
    rw [h a List.mem_cons_self, ih fun x hx => h x (List.mem_cons_of_mem _ hx)]
theorem data_kM (m : List Int) : (kM m).data = rD m := congrArg PyData.tuple (datas_map m fun _ _ => rfl)
theorem data_kL (l : List (List Int)) : (kL l).data = rsD l := congrArg PyData.tuple (datas_map l fun m _ => data_kM m)
theorem depthAll_map {α : Type} {f : α → NestedKey} {n : Nat} (l : List α) (h : ∀ x ∈ l, (f x).depth ≤ n) : NestedKey.depthAll (l.map f) ≤ n := by
  induction l with
  | nil => exact Nat.zero_le _
  | cons a l ih =>
    show NestedKey.depthAll (f a :: l.map f) ≤ n
    have h1 := h a List.mem_cons_self
    have h2 := ih fun x hx => h x (List.mem_cons_of_mem _ hx)
    simp only [NestedKey.depthAll]
    omega
theorem depth_kM (m : List Int) : (kM m).depth ≤ 1 := by
  have h := depthAll_map (f := NestedKey.num) (n := 0) m fun x _ => by simp [NestedKey.depth]
  unfold kM
  simp only [NestedKey.depth]
  omega
theorem depth_kL (l : List (List Int)) : (kL l).depth ≤ 2 := by
  have h := depthAll_map (f := kM) (n := 1) l fun x _ => depth_kM x
  unfold kL
  simp only [NestedKey.depth]
  omega
theorem numAll_map {α : Type} {f : α → NestedKey} (l : List α) (h : ∀ x ∈ l, numK (f x) = true) : numAll (l.map f) = true := by
  induction l with
  | nil => rfl
  | cons a l ih =>
    show (numK (f a) && numAll (l.map f)) = true
    rw [h a List.mem_cons_self, ih fun x hx => h x (List.mem_cons_of_mem _ hx)]; rfl
theorem num_kL (l : List (List Int)) : numK (kL l) = true := numAll_map l fun m _ => numAll_map m fun _ _ => rfl
theorem alike_rowsL : ∀ a b : List (List Int), PySem.W.alikeAll (a.map rD) (b.map rD) = true
  | [], [] => rfl
  | [], _ :: _ => rfl
  | _ :: _, [] => rfl
  | x :: a, y :: b => by
    have h := alike_rowsL a b
    have h2 : PySem.W.alikeAll (x.map .int) (y.map .int) = true := PySem.W.alike_ints x y
    simp [PySem.W.alikeAll, PySem.W.alike, h, h2]
theorem dpAll_refs {K : PySem.W.Frag} {H : Hp} {zs : List V} {ls : List (List (List Int))} (h : DpAll K H zs (ls.map rsD)) : ∃ ks : List (Addr × NestedKey), zs = ks.map (fun p => V.ref p.1) ∧ ks.map (·.2) = ls.map kL ∧ ∀ p ∈ ks, KeyAt K H p := by
  induction ls generalizing zs with
  | nil => cases h; exact ⟨[], rfl, rfl, fun p hp => by cases hp⟩
  | cons l ls ih =>
    cases h with
    | cons a b =>
      obtain ⟨ks, e1, e2, e3⟩ := ih b
      obtain ⟨q, xs, rfl, _⟩ := rows_tup a
      refine ⟨(q, kL l) :: ks, by rw [e1]; rfl, by rw [List.map_cons, e2]; rfl, fun p hp => ?_⟩
      rcases List.mem_cons.mp hp with e | e
      · subst e
        exact ⟨by rw [data_kL]; exact a, Nat.le_trans (depth_kL l) (by decide), num_kL l⟩
      · exact e3 p e
theorem keys_refs {K : PySem.W.Frag} {H : Hp} : ∀ {ks : List (Addr × NestedKey)} {ls : List (List (List Int))}, ks.map (·.2) = ls.map kL → (∀ p ∈ ks, KeyAt K H p) → DpAll K H (ks.map fun p => V.ref p.1) (ls.map rsD)
  | [], [], _, _ => .nil
  | [], _ :: _, h, _ => by cases h
  | _ :: _, [], h, _ => by cases h
  | p :: ks, l :: ls, h, g => by
    rw [List.map_cons, List.map_cons, List.cons.injEq] at h
    have hp := (g p List.mem_cons_self).1
    rw [h.1, data_kL] at hp
    exact .cons hp (keys_refs h.2 fun q hq => g q (List.mem_cons_of_mem _ hq))
/-- sorted(set(xs)), xs a list of layers -/
theorem sorted_layers {K : PySem.W.Frag} {w : World} {H : Hp} {D : Addr} {zs : List V} {ls : List (List (List Int))} {v : Nat} {Q : VK} (hD : H D = some (.lst zs)) (hd : DpAll K H zs (ls.map rsD)) (hl : ls.length < 64) (hv : ∀ l ∈ ls, l.length = v)
    (h : ∀ p H' ws (ms : List (List (List Int))), H p = none → H' p = some (.lst ws) → DpAll K H' ws (ms.map rsD) → ms.Perm (dedL ls) → Same H H' → Q (.ref p) H') : rSetN K w [.ref D] H fun s H2 => rSortedN K w [s] H2 Q := by
  obtain ⟨ks, e1, e2, e3⟩ := dpAll_refs hd
  have hkl : ks.length = ls.length := by have := congrArg List.length e2; simpa using this
  refine ⟨D, ks, rfl, .inl (.inl (by rw [hD, e1])), e3, by omega, fun a L ha sub all nd => ?_⟩
  have sa := same_upd (o := SetNO w a L) ha
  have kat : ∀ p ∈ L, KeyAt K (upd H a (SetNO w a L)) p := fun p hp => by
    have := e3 p (sub p hp)
    exact ⟨Dp.same sa _ _ this.1, this.2⟩
  have isk : ∀ p ∈ L, ∃ l ∈ ls, p.2 = kL l := fun p hp => by
    have : p.2 ∈ ks.map (·.2) := List.mem_map_of_mem (sub p hp)
    rw [e2] at this
    obtain ⟨l, hl, e⟩ := List.mem_map.mp this
    exact ⟨l, hl, e.symm⟩
  refine ⟨a, L, rfl, upd_same, kat, fun d hd d' hd' => ?_, ?_, fun p hp => ?_, fun L1 p pm hp => ?_⟩
  · obtain ⟨p, hp, rfl⟩ := List.mem_map.mp hd
    obtain ⟨p', hp', rfl⟩ := List.mem_map.mp hd'
    obtain ⟨l, _, e⟩ := isk p hp
    obtain ⟨l', _, e'⟩ := isk p' hp'
    rw [e, e', data_kL, data_kL]
    unfold PySem.W.alike
    exact alike_rowsL _ _
  · by_cases c : v = 0
    · refine .inr fun p hp => ?_
      obtain ⟨l, hl, e⟩ := isk p hp
      have := hv l hl
      rw [c] at this
      rw [e, List.eq_nil_of_length_eq_zero this]; rfl
    · refine .inl fun p hp => ?_
      obtain ⟨l, hl, e⟩ := isk p hp
      have := hv l hl
      rw [e, data_kL]
      cases l with
      | nil => exact absurd this.symm c
      | cons x r => exact ⟨_, _, rfl⟩
  · obtain ⟨l, _, e⟩ := isk p hp
    rw [e, data_kL]
    have := depth_rows l
    simp only [PyData.depth]
    omega
  · have sp := same_upd (o := .lst ((L1.mergeSort (PySem.W.dataLe false fun z => z.2.data)).map fun z => V.ref z.1)) hp
    have pm2 : (L1.mergeSort (PySem.W.dataLe false fun z => z.2.data)).Perm L := (List.mergeSort_perm _ _).trans pm
    generalize L1.mergeSort (PySem.W.dataLe false fun z => z.2.data) = S at *
    have em : S.map (·.2) = (S.map fun p => unL p.2).map kL := by
      rw [List.map_map]
      refine List.map_congr_left fun p hp => ?_
      obtain ⟨l, _, e⟩ := isk p (pm2.mem_iff.mp hp)
      show p.2 = kL (unL p.2)
      rw [e, unL_kL]
    refine h p _ _ (S.map fun p => unL p.2) (none_back sa hp) upd_same (keys_refs em fun q hq => ?_) (perm_ded ?_ fun l => ?_) (Same.trans sa sp)
    · have := kat q (pm2.mem_iff.mp hq)
      exact ⟨Dp.same sp _ _ this.1, this.2⟩
    · have nd2 : (S.map (·.2)).Nodup := (pm2.map (·.2)).nodup_iff.mpr nd
      rw [em] at nd2
      exact List.Pairwise.of_map (f := kL) (fun a b h e => h (e ▸ rfl)) nd2
    · refine ⟨fun hm => ?_, fun hm => ?_⟩
      · obtain ⟨q, hq, e⟩ := List.mem_map.mp hm
        obtain ⟨l', hl', e'⟩ := isk q (pm2.mem_iff.mp hq)
        rw [← e, e', unL_kL]
        exact hl'
      · have h1 : kL l ∈ ks.map (·.2) := by rw [e2]; exact List.mem_map_of_mem hm
        obtain ⟨q, hq, e⟩ := List.mem_map.mp h1
        have h2 := all q hq
        obtain ⟨q', hq', e'⟩ := List.mem_map.mp h2
        refine List.mem_map.mpr ⟨q', pm2.mem_iff.mpr hq', ?_⟩
        rw [e', e, unL_kL]

theorem choL_small {ms : List (List Int)} : ∀ t ∈ choL ms, t.length ≤ ms.length := by
  have key : ∀ (ms : List (List Int)) (c : List (List (List Int))) (n : Nat), (∀ t ∈ c, t.length ≤ n) → ∀ t ∈ ms.foldl (fun c m => c ++ c.map fun t => t ++ [m]) c, t.length ≤ n + ms.length := by
    intro ms
    induction ms with
    | nil => intro c n h; exact h
    | cons m ms ih =>
      intro c n h
      rw [List.foldl_cons, List.length_cons]
      intro t ht
      have := ih _ (n + 1) (fun u hu => ?_) t ht
      · omega
      · rcases List.mem_append.mp hu with e | e
        · have := h u e; omega
        · obtain ⟨v, hv, rfl⟩ := List.mem_map.mp e
          have := h v hv
          rw [List.length_append, List.length_singleton]
          omega
  intro t ht
  have := key ms [[]] 0 (fun t h => by rw [List.mem_singleton.mp h]; exact Nat.le_refl _) t ht
  omega
/-! ### the most that a layer lets follow -/
theorem dedL_len : ∀ l : List (List (List Int)), (dedL l).length ≤ l.length
  | [] => Nat.le_refl _
  | b :: l => by
    have := dedL_len l
    unfold dedL
    split
    · rw [List.length_cons]; omega
    · rw [List.length_cons, List.length_cons]; omega
theorem lay_few {many : Nat} {vs : List Nat} : ∀ {n : Nat} {s : List (List (List Int))}, layO many vs n = some s → s.length < 64
  | 0, s, h => by cases h; exact Nat.lt_of_le_of_lt (Nat.le_refl 1) (by decide)
  | n + 1, s, h => by
    have h' : (layO many vs n).bind (layS many vs n) = some s := h
    obtain ⟨s', _, e⟩ := Option.bind_eq_some_iff.mp h'
    obtain ⟨_, h2, h3⟩ := layS_some e
    rw [h3]
    exact Nat.lt_of_le_of_lt (dedL_len _) h2
theorem tOnly_lay (l : List (List Int)) : tOnly (rsD l) = true := tOnly_rows l
theorem tOnly_lays : ∀ l : List (List (List Int)), tOnlyAll (l.map rsD) = true
  | [] => rfl
  | x :: l => by
    show (tOnly (rsD x) && tOnlyAll (l.map rsD)) = true
    rw [tOnly_lays l, tOnly_lay]; rfl
theorem lay_at {K : PySem.W.Frag} {H : Hp} {xs : List V} {L : List (List (List Int))} {i : Nat} {x : V} (h : DpAll K H xs (L.map rsD)) (hx : xs[i]? = some x) : ∃ a l ys, L[i]? = some l ∧ x = .ref a ∧ Dp K H (.ref a) (rsD l) ∧ SqT K H a ys ∧ DpAll K H ys (l.map rD) ∧ ys.length = l.length := by
  have hi : i < L.length := by
    have h1 := Toy.DpAll.len h
    have h2 := (List.getElem?_eq_some_iff.mp hx).1
    rw [List.length_map] at h1
    omega
  have d : Dp K H x (rsD L[i]) := dpAll_at h hx (by rw [List.getElem?_map, List.getElem?_eq_getElem hi]; rfl)
  obtain ⟨a, ys, rfl, h1, h2⟩ := rows_tup d
  exact ⟨a, L[i], ys, List.getElem?_eq_getElem hi, rfl, d, h1, h2, by have := Toy.DpAll.len h2; rwa [List.length_map] at this⟩
theorem lays_len {K : PySem.W.Frag} {H : Hp} {xs : List V} {L : List (List (List Int))} (h : DpAll K H xs (L.map rsD)) : xs.length = L.length := by
  have := Toy.DpAll.len h
  rwa [List.length_map] at this
theorem fits_lays {K : PySem.W.Frag} {H : Hp} {L : List (List (List Int))} {zs : List V} (h : Fits (fun l v => Dp K H v (rsD l)) L zs) : DpAll K H zs (L.map rsD) := by
  refine dpAll_get (by rw [List.length_map]; exact h.1) fun j y d h1 h2 => ?_
  rw [List.getElem?_map] at h2
  obtain ⟨r, hr, rfl⟩ := Option.map_eq_some_iff.mp h2
  exact h.2 j r y hr h1
section
variable {P : Program} {w : World} {K : PySem.W.Frag} {mg : Str → Option Value} {base : Heap}
def sp_law_most (K : PySem.W.Frag) : Sp := fun vs H Q _ => ∃ (many : Nat) (a : Addr) (ns : List Nat), vs = [.int many, .ref a] ∧ SqT K H a (nsV ns) ∧ 1 ≤ many ∧ many ≤ 3 ∧ 1 ≤ ns.length ∧ ns.length ≤ 8 ∧ ∃ m, mostO many ns = some m ∧ ∀ H', Same H H' → Q (.int m) H'
theorem ok_law_most (T : Txt K mg) : FnOk P w K mg base CX0 3 T.law_most.f T.law_most.fd P_law_most (sp_law_most K) := by
  refine T.law_most.F.ok sc_law_most (fun vs H Q E h => ?_) (fun cdv A outer s H vs Q E hr h => ?_)
  · obtain ⟨many, a, ns, rfl, _⟩ := h; rfl
  · obtain ⟨many, a, ns, rfl, hT, hm1, hm3, hl1, hl8, m, hmost, k⟩ := h
    refine ⟨_, (pss_cons (ps_set (i := 2) sc_law_most.nd rfl (Or.inl rfl) (pe_lst (pa_cons (pe_tup (pa_cons (pe_op (r := rRepA K) op_repA (pe_tup (pa_cons pe_int pa_nil)) (pv 0)) pa_nil)) pa_nil)))
  (pss_cons (ps_for PassesOwn.never rfl (pi_range1 rfl T.n_range (pa_cons (pe_op op_sub (pe_callB (r := rLenS K) call_len_seq rfl T.n_len bo_len (pa_cons (pv 1) pa_nil)) pe_int) pa_nil)) (pg_name (i := 3) sc_law_most.nd rfl (Or.inr rfl)) (pss_cons (ps_set (i := 4) sc_law_most.nd rfl (Or.inl rfl) (pe_lst pa_nil))
  (pss_cons (ps_for PassesOwn.never rfl (pi_list (pv 2)) (pg_name (i := 5) sc_law_most.nd rfl (Or.inl rfl)) (pss_cons (ps_set (i := 6) sc_law_most.nd rfl (Or.inl rfl) (pe_lst (pa_cons (pe_tup pa_nil) pa_nil)))
  (pss_cons (ps_for PassesOwn.never rfl (pi_list (pe_call (ok_law_next T) (hr.mono (by decide)) rfl T.law_next.g T.law_next.F.kp (b_law_next T) .nil pass0 (pa_cons (pv 0) (pa_cons (pv 5) (pa_cons (pv 3) pa_nil))))) (pg_name (i := 7) sc_law_most.nd rfl (Or.inr rfl)) (pss_one (ps_set (i := 6) sc_law_most.nd rfl (Or.inl rfl) (pe_op op_cat (pv 6) (pe_lc (own := [("told", 8)]) rfl sc_law_most.nd (pi_list (pv 6)) (blkOk_by (own := [("told", 8)]) (N := N_law_most) (sc := defScope s_law_most) (by decide +kernel)) (fun _ _ _ _ _ => (pg_name (i := 8) sc_law_most.nd rfl (Or.inl rfl))) (fun _ _ _ _ _ => pts_nil) (fun _ _ _ _ _ => (pe_op (r := rCatA K) op_catA (pv 8) (pe_tup (pa_cons (pv 7) pa_nil)))))))))
  (pss_one (ps_set (i := 4) sc_law_most.nd rfl (Or.inl rfl) (pe_op op_cat (pv 4) (pe_lc (own := [("told", 8)]) rfl sc_law_most.nd (pi_list (pv 6)) (blkOk_by (own := [("told", 8)]) (N := N_law_most) (sc := defScope s_law_most) (by decide +kernel)) (fun _ _ _ _ _ => (pg_name (i := 8) sc_law_most.nd rfl (Or.inl rfl))) (fun _ _ _ _ _ => pts_one (pt_cmpR op_eq (pe_callB (r := rLenS K) call_len_seq rfl T.n_len bo_len (pa_cons (pv 8) pa_nil)) (pe_ix (r := rIxT K) ix_tup (pv 1) (pe_op op_add (pv 3) pe_int) (fun _ _ => rfl)) (nomark _))) (fun _ _ _ _ _ => (pv 8)))))))))
  (pss_one (ps_set (i := 2) sc_law_most.nd rfl (Or.inl rfl) (pe_callB (r := rSortedN K w) (cr_sortedN rfl hr.units) rfl T.n_sorted bo_sorted (pa_cons (pe_callTy (r := rSetN K w) (cr_setN rfl hr.units) rfl T.n_set bo_set (pa_cons (pv 4) pa_nil)) pa_nil)))))))
  (pss_one (ps_ret (pe_callB (r := rMax K) (cr_max rfl) rfl T.n_max bo_max (pa_cons (pe_op op_cat (pe_lc (own := [("layer", 5)]) rfl sc_law_most.nd (pi_list (pv 2)) (blkOk_by (own := [("layer", 5)]) (N := N_law_most) (sc := defScope s_law_most) (by decide +kernel)) (fun _ _ _ _ _ => (pg_name (i := 5) sc_law_most.nd rfl (Or.inl rfl))) (fun _ _ _ _ _ => pts_nil) (fun _ _ _ _ _ => (pe_callB (r := rLenS K) call_len_seq rfl T.n_len bo_len (pa_cons (pe_call (ok_law_next T) (hr.mono (by decide)) rfl T.law_next.g T.law_next.F.kp (b_law_next T) .nil pass0 (pa_cons (pv 0) (pa_cons (pv 5) (pa_cons (pe_op op_sub (pe_callB (r := rLenS K) call_len_seq rfl T.n_len bo_len (pa_cons (pv 1) pa_nil)) pe_int) pa_nil)))) pa_nil)))) (pe_lst (pa_cons (pe_op op_sub pe_int pe_int) pa_nil))) pa_nil)))))), ?_⟩
    have hline : 1000 ≤ sizeLine := by decide
    have hnl : (nsV ns).length = ns.length := List.length_map ..
    have hat : ∀ {i : Nat}, i < ns.length → (nsV ns)[i]? = some (V.int ((ns.getD i 0 : Nat) : Int)) := fun {i} hi => by
      unfold nsV
      rw [List.getElem?_map, List.getElem?_eq_getElem hi, List.getD_eq_getElem?_getD, List.getElem?_eq_getElem hi]; rfl
    unfold mostO at hmost
    obtain ⟨S, hS, hm⟩ := Option.map_eq_some_iff.mp hmost
    have hlay := lay_le hS
    refine ⟨Nat.le_trans (show 1 ≤ 1000 by decide) hline, fun t0 ht0 => ?_⟩
    walk_at "rd"
    refine repA (.inl (.inl upd_same)) hm1 (by omega) fun r0 Hr sr tr => ?_
    have s0 := Same.trans (same_upd (o := .tup [V.int 0]) ht0) sr
    walk_at "rd"
    refine ⟨Nat.le_trans (show 1 ≤ 1000 by decide) hline, fun l0 hl0 => ?_⟩
    have s1 := same_upd (o := .tup [V.ref r0]) hl0
    walk_at "rd"
    refine ⟨Nat.le_trans (show 1 ≤ 1000 by decide) hline, fun p0 hp0 => ?_⟩
    have s2 := same_upd (o := .lst [V.ref l0]) hp0
    have dr : Dp K Hr (.ref r0) (rD (List.replicate many 0)) := dp_ints (by rw [List.map_replicate]; exact tr)
    have dl : Dp K (upd (upd Hr l0 (.tup [V.ref r0])) p0 (.lst [V.ref l0])) (.ref l0) (rsD [List.replicate many 0]) := .tup (.inl (.inl (s2 _ _ upd_same))) (.cons (Dp.same (Same.trans s1 s2) _ _ dr) .nil)
    have e2 : (upd (upd Hr l0 (.tup [V.ref r0])) p0 (.lst [V.ref l0])) p0 = some (.lst [V.ref l0]) := upd_same
    have s3 := Same.trans s0 (Same.trans s1 s2)
    generalize upd (upd Hr l0 (.tup [V.ref r0])) p0 (.lst [V.ref l0]) = H2 at *
    have hT2 := Toy.Same.tup s3 hT
    walk_at "rd"
    refine ⟨a, _, rfl, .inr hT2, ?_⟩
    rw [hnl]
    walk_at "rd"
    refine ⟨by omega, by omega, ?_⟩
    rw [show ((ns.length : Int) - 1).toNat = ns.length - 1 by omega]
    refine for_it walk_range (fun i σ H' => ∃ (pa : Addr) (ws : List V) (L s : List (List (List Int))) (y3 y4 y5 y6 y7 : Option V), σ = [some (.int many), some (.ref a), some (.ref pa), y3, y4, y5, y6, y7, none] ∧ Same H H' ∧ H' pa = some (.lst ws) ∧ DpAll K H' ws (L.map rsD) ∧ layO many ns i = some s ∧ L.Perm s) ⟨p0, _, [[List.replicate many 0]], _, none, none, none, none, none, rfl, s3, e2, .cons dl .nil, rfl, .refl _⟩ (fun i σ H' _ _ => trivial) (fun i x σ H3 H4 hi q y => ?_) (fun σ H3 q => ?_)
    · obtain ⟨pa, ws, L, s, y3, y4, y5, y6, y7, rfl, sa, ea, da, hs, pm⟩ := q
      obtain ⟨rfl, rfl⟩ := y
      obtain ⟨s', hs'⟩ := hlay (i + 1) (by omega)
      have hst : (layO many ns i).bind (layS many ns i) = some s' := hs'
      rw [hs] at hst
      obtain ⟨hn8, hfl, es'⟩ := layS_some hst
      have hTa := Toy.Same.tup sa hT
      have hwl := lays_len da
      refine ⟨Nat.zero_le _, fun lb hlb => ?_⟩
      have s4 := same_upd (o := .lst []) hlb
      have e4 : (upd H4 lb (.lst [])) lb = some (.lst []) := upd_same
      have ea4 := s4 _ _ ea
      have da4 := DpAll.same s4 _ _ da
      have hTa4 := Toy.Same.tup s4 hTa
      have s04 := Same.trans sa s4
      generalize upd H4 lb (.lst []) = H5 at *
      walk_at "rd"
      refine ⟨⟨_, .inl (.inl ea4)⟩, ?_⟩
      refine for_list (K := K) (a := pa) (xs := ws) (fun j σ H' => ∃ (lc : Addr) (zs : List V) (y5 y6 y7 : Option V), σ = [some (.int many), some (.ref a), some (.ref pa), some (.int (0 + (i : Nat))), some (.ref lc), y5, y6, y7, none] ∧ Same H5 H' ∧ H' lc = some (.lst zs) ∧ DpAll K H' zs (((L.take j).flatMap fun l => pickL many l i (ns.getD (i + 1) 0)).map rsD)) ⟨lb, [], _, _, _, rfl, Same.refl _, e4, .nil⟩ (fun j σ H' _ q => ?_) (fun j x σ H6 hj q => ?_) (fun σ H6 q => ?_)
      · obtain ⟨_, _, _, _, _, _, q, _⟩ := q
        exact .inl (.inl (q _ _ ea4))
      · obtain ⟨lc, zs, y5, y6, y7, rfl, s6, e6, d6⟩ := q
        obtain ⟨al, l, lys, hl, rfl, dl6, tl6, dly, hyl⟩ := lay_at (DpAll.same s6 _ _ da4) hj
        have hlm : l ∈ s := pm.mem_iff.mp (List.mem_of_getElem? hl)
        have hn := hn8 l hlm
        walk_at "rd"
        refine ⟨Nat.zero_le _, fun t1 ht1 => ⟨(show 1 ≤ sizeLine by decide), fun c0 hc0 => ?_⟩⟩
        have s7 := same_upd (o := .tup []) ht1
        have s8 := same_upd (o := .lst [V.ref t1]) hc0
        have e8 : (upd (upd H6 t1 (.tup [])) c0 (.lst [V.ref t1])) c0 = some (.lst [V.ref t1]) := upd_same
        have d8 : DpAll K (upd (upd H6 t1 (.tup [])) c0 (.lst [V.ref t1])) [V.ref t1] ((choL []).map rsD) := .cons (.tup (.inl (.inl (s8 _ _ upd_same))) .nil) .nil
        have s68 := Same.trans s7 s8
        generalize upd (upd H6 t1 (.tup [])) c0 (.lst [V.ref t1]) = H8 at *
        have dl8 := Dp.same s68 _ _ dl6
        walk_at "rd"
        refine ⟨many, i, al, l, congrArg (fun z => [V.int many, V.ref al, V.int z]) (show (0 : Int) + (i : Nat) = ((i : Nat) : Int) by omega), hm1, hm3, by omega, dl8, fun pn H9 ms9 _ e9 d9 s9 => ?_⟩
        have hml := rows_list d9
        walk_at "rd"
        refine ⟨⟨_, .inl (.inl e9)⟩, ?_⟩
        refine for_list (K := K) (a := pn) (xs := ms9) (fun u σ H' => ∃ (c : Addr) (cs : List V) (y7 : Option V), σ = [some (.int many), some (.ref a), some (.ref pa), some (.int (0 + (i : Nat))), some (.ref lc), some (.ref al), some (.ref c), y7, none] ∧ Same H9 H' ∧ H' c = some (.lst cs) ∧ DpAll K H' cs ((choL ((nextL many l i).take u)).map rsD)) ⟨c0, _, _, rfl, Same.refl _, s9 _ _ e8, DpAll.same s9 _ _ d8⟩ (fun u σ H' _ q => ?_) (fun u x σ HA hu q => ?_) (fun σ HA q => ?_)
        · obtain ⟨_, _, _, _, q, _⟩ := q
          exact .inl (.inl (q _ _ e9))
        · obtain ⟨c, cs, y7, rfl, sA, eA, dA⟩ := q
          obtain ⟨am, m', hm', rfl, ham⟩ := row_at d9 hu
          rw [choL_take hm']
          have hcl := lays_len dA
          rw [choL_len] at hcl
          have hul : ((nextL many l i).take u).length ≤ 8 := Nat.le_trans (by rw [List.length_take]; exact Nat.min_le_right _ _) hn
          have h256 : 2 ^ ((nextL many l i).take u).length ≤ 2 ^ 8 := Nat.pow_le_pow_right (by decide) hul
          have hamA := Toy.Same.tup sA ham
          walk_at "rd"
          refine ⟨⟨_, .inl (.inl eA)⟩, fun D hD => ?_⟩
          refine lc_gen (walk_list (K := K) (a := c) (xs := cs)) (choL ((nextL many l i).take u)) (fun _ => true) (fun t => t ++ [m']) (fun b v H => Dp K H v (rsD b)) ((lays_len dA).symm) (fun H' s => .inl (.inl (s _ _ eA))) hD (by omega) (fun b v Ha Hb k h => Dp.tp k.tp _ _ (tOnly_lay b) h) (fun v t x Ha Hb Qn Qy ht sa' yy _ hy => ?_) (fun HB zs' sB eB fB => ?_)
          · obtain ⟨rfl, ey⟩ := yy
            obtain ⟨at', t', tys, ht', rfl, _, tt, dt, htl⟩ := lay_at dA ey
            rw [ht] at ht'
            cases ht'
            walk_at "rd"
            dsimp only [tNil]
            refine ⟨Nat.le_trans (show 1 ≤ 1000 by decide) hline, fun q hq => ?_⟩
            have sq := same_upd (o := .tup [V.ref am]) hq
            have htl8 : tys.length ≤ 900 := by
              rw [htl]
              exact Nat.le_trans (choL_small t (List.mem_of_getElem? ht)) (by omega)
            refine catA (Toy.Same.tup sq (Toy.Same.tup sa' tt)) (.inl (.inl upd_same)) (by simp; omega) fun r H9 s9' t9 => hy rfl _ _ (Same.trans sq s9') (.tup t9 ?_)
            rw [List.map_append]
            exact dpAll_app (DpAll.same (Same.trans sa' (Same.trans sq s9')) _ _ dt) (.cons (dp_ints (Toy.Same.tup (Same.trans sa' (Same.trans sq s9')) hamA)) .nil)
          · rw [filterT] at fB
            have dB := fits_lays fB
            have hbl := fB.1
            rw [List.length_map, choL_len] at hbl
            refine ⟨c, D, cs, zs', rfl, rfl, sB _ _ eA, eB, by omega, fun r hr => ?_⟩
            have sr := same_upd (o := .lst (cs ++ zs')) hr
            walk_at "rd"
            refine ⟨r, cs ++ zs', _, rfl, Same.trans sA (Same.trans sB sr), upd_same, ?_⟩
            rw [List.map_append]
            exact dpAll_app (DpAll.same (Same.trans sB sr) _ _ dA) (DpAll.same sr _ _ dB)
        · obtain ⟨c, cs, y7, rfl, sA, eA, dA⟩ := q
          rw [hml, List.take_length] at dA
          have hcl := lays_len dA
          rw [choL_len] at hcl
          have h256 : 2 ^ (nextL many l i).length ≤ 2 ^ 8 := Nat.pow_le_pow_right (by decide) hn
          have sAll := Same.trans s68 (Same.trans s9 sA)
          have eC := sAll _ _ e6
          have dC := DpAll.same sAll _ _ d6
          have hTA := Toy.Same.tup (Same.trans s6 sAll) hTa4
          walk_at "rd"
          refine ⟨⟨_, .inl (.inl eA)⟩, fun D hD => ?_⟩
          refine lc_gen (walk_list (K := K) (a := c) (xs := cs)) (choL (nextL many l i)) (fun t => decide (t.length = ns.getD (i + 1) 0)) id (fun b v H => Dp K H v (rsD b)) ((lays_len dA).symm) (fun H' s => .inl (.inl (s _ _ eA))) hD (by omega) (fun b v Ha Hb k h => Dp.tp k.tp _ _ (tOnly_lay b) h) (fun v t x Ha Hb Qn Qy ht sa' yy hno hy => ?_) (fun HB zs' sB eB fB => ?_)
          · obtain ⟨rfl, ey⟩ := yy
            obtain ⟨at', t', tys, ht', rfl, dtt, tt, dt, htl⟩ := lay_at (DpAll.same sa' _ _ dA) ey
            rw [ht] at ht'
            cases ht'
            have hTB := Toy.Same.tup sa' hTA
            walk_at "rd"
            dsimp only [tNil]
            refine ⟨at', _, rfl, .inr tt, ?_⟩
            walk_at "rd"
            refine ⟨_, _, _, _, rfl, rfl, hTB, at_of (show (0 : Int) + (i : Nat) + 1 = ((i + 1 : Nat) : Int) by omega) (hat (by omega)), ?_⟩
            walk_at "rd"
            rw [htl]
            refine iteV (fun c => ?_) (fun c => ?_)
            · walk_at "rd"
              exact hy (decide_eq_true (by omega)) _ _ (Same.refl _) dtt
            · exact hno (decide_eq_false (by omega)) _ (Same.refl _)
          · have dB := fits_lays fB
            rw [List.map_id] at dB
            have hbl := lays_len dB
            have hlen := flat_len (f := fun l => pickL many l i (ns.getD (i + 1) 0)) (l := L) (j + 1)
            have hpf := (pm.flatMap_right fun l => pickL many l i (ns.getD (i + 1) 0)).length_eq
            have et : L.take (j + 1) = L.take j ++ [l] := by rw [List.take_add_one, hl]; rfl
            have hzl := lays_len dC
            rw [et, List.flatMap_append, List.flatMap_singleton, List.length_append] at hlen
            have e1 : (pickL many l i (ns.getD (i + 1) 0)) = (choL (nextL many l i)).filter fun t => decide (t.length = ns.getD (i + 1) 0) := rfl
            rw [← e1] at dB hbl
            refine ⟨lc, D, zs, zs', rfl, rfl, sB _ _ eC, eB, by omega, fun r hr => ?_⟩
            have sr := same_upd (o := .lst (zs ++ zs')) hr
            walk_at "rd"
            refine ⟨r, zs ++ zs', _, _, _, rfl, Same.trans s6 (Same.trans sAll (Same.trans sB sr)), upd_same, ?_⟩
            rw [et, List.flatMap_append, List.flatMap_singleton, List.map_append]
            exact dpAll_app (DpAll.same (Same.trans sB sr) _ _ dC) (DpAll.same sr _ _ dB)
      · obtain ⟨lc, zs, y5, y6, y7, rfl, s6, e6, d6⟩ := q
        rw [hwl, List.take_length] at d6
        walk_at "rd"
        dsimp only [tNil]
        have hpf := pm.flatMap_right fun l => pickL many l i (ns.getD (i + 1) 0)
        refine sorted_layers (v := ns.getD (i + 1) 0) e6 d6 (by rw [hpf.length_eq]; exact hfl) (fun l hl => ?_) fun p H7 ws' ms np ep dp pm7 s7 => ?_
        · obtain ⟨b, _, hb⟩ := List.mem_flatMap.mp hl
          exact of_decide_eq_true (List.mem_filter.mp hb).2
        · have e2 : ms.Perm s' := by
            rw [es']
            exact pm7.trans (perm_ded (dedL_nodup _) fun b => dedL_mem.trans hpf.mem_iff)
          walk_at "rd"
          exact ⟨p, ws', ms, s', _, _, _, _, _, rfl, Same.trans s04 (Same.trans s6 s7), ep, dp, hs', e2⟩
    · obtain ⟨pa, ws, L, s, y3, y4, y5, y6, y7, rfl, sa, ea, da, hs, pm⟩ := q
      rw [hS] at hs
      cases hs
      have hwl := lays_len da
      have hTa := Toy.Same.tup sa hT
      walk_at "rd"
      refine ⟨⟨_, .inl (.inl ea)⟩, fun D hD => ?_⟩
      refine lc_gen (walk_list (K := K) (a := pa) (xs := ws)) L (fun _ => true) (fun l => ((nextL many l (ns.length - 1)).length : Int)) (fun b v _ => v = .int b) hwl.symm (fun H' s => .inl (.inl (s _ _ ea))) hD ?_ (fun _ _ _ _ _ h => h) (fun v l x Ha Hb Qn Qy hl sa' yy _ hy => ?_) (fun HB zs' sB eB fB => ?_)
      · have := lay_few hS
        have := pm.length_eq
        omega
      · obtain ⟨rfl, ey⟩ := yy
        obtain ⟨al, l', lys, hl', rfl, dl, tl, dly, hyl⟩ := lay_at (DpAll.same sa' _ _ da) ey
        rw [hl] at hl'
        cases hl'
        have hTb := Toy.Same.tup sa' hTa
        walk_at "rd"
        dsimp only [tNil]
        refine ⟨a, _, rfl, .inr hTb, ?_⟩
        rw [hnl]
        walk_at "rd"
        dsimp only [tNil, List.cons_append, List.nil_append]
        refine ⟨many, ns.length - 1, al, l, congrArg (fun z => [V.int many, V.ref al, V.int z]) (show (ns.length : Int) - 1 = ((ns.length - 1 : Nat) : Int) by omega), hm1, hm3, by omega, dl, fun pn H9 ms9 _ e9 d9 s9 => ?_⟩
        have hml := rows_list d9
        walk_at "rd"
        rw [hml]
        exact hy rfl _ _ s9 rfl
      · have ez := fB.map (g := V.int)
        rw [filterT] at ez
        walk_at "rd"
        dsimp only [tNil]
        refine ⟨Nat.le_trans (show 1 ≤ 1000 by decide) hline, fun q hq => ?_⟩
        have sq := same_upd (o := .lst [V.int (0 - 1)]) hq
        refine ⟨D, q, _, _, rfl, rfl, sq _ _ eB, upd_same, ?_, fun r hr => ?_⟩
        · have := fB.1
          rw [filterT, List.length_map] at this
          have h1 := lay_few hS
          have h2 := pm.length_eq
          rw [List.length_singleton]
          omega
        · have sr := same_upd (o := .lst (zs' ++ [V.int (0 - 1)])) hr
          walk_at "rd"
          refine ⟨r, (L.map fun l => ((nextL many l (ns.length - 1)).length : Int)) ++ [-1], rfl, .inl (.inl ?_), by simp, fun z hz1 hz2 => ?_⟩
          · rw [upd_same, ez, List.map_append]; rfl
          · rw [maxI_at (pm.map _) hz1 hz2, hm]
            exact k _ (Same.trans sa (Same.trans sB (Same.trans sq sr)))
end

/-! ### the law's own draws -/
/-- the law's row at r: the script, how many cells are taken, a mixed number, a cell's rest -/
def SqN (K : PySem.W.Frag) (H : Hp) (r sa : Addr) (xs : List V) : Prop := (Rd H sa (.lst xs) ∧ sa ≠ r) ∨
  ∃ (o : Obj) (its : Array Value) (n : Nat), K.lookup sa = some o ∧ o.cls = .type "list" ∧ o.dict = none ∧ o.data = .seq its n ∧ its.size ≤ sizeLine ∧ Vals xs its.toList
theorem SqN.sq {K : PySem.W.Frag} {H : Hp} {r sa : Addr} {xs : List V} (h : SqN K H r sa xs) : SqL K H sa xs := by
  rcases h with ⟨h, _⟩ | h
  · exact .inl h
  · exact .inr h
theorem sqn_ne {K : PySem.W.Frag} {H : Hp} {r sa : Addr} {o : HO} {xs : List V} (h : SqN K H r sa xs) : SqN K (upd H r o) r sa xs := by
  rcases h with ⟨h | ⟨u, h⟩, n⟩ | h
  · exact .inl ⟨.inl ((upd_ne n).trans h), n⟩
  · exact .inl ⟨.inr ⟨u, (upd_ne n).trans h⟩, n⟩
  · exact .inr h
def RowAt (K : PySem.W.Frag) (H : Hp) (r sa : Addr) (ns : List Int) : Prop := ∃ (p s e : Int),
  H r = some (.lst [.ref sa, .int p, .int s, .int e]) ∧ SqN K H r sa (ns.map V.int) ∧ 0 ≤ p ∧ 0 ≤ s ∧ s < 2147483647 ∧ 0 ≤ e
/-- nothing but the row has changed -/
def ButRow (r : Addr) (H H' : Hp) : Prop := ∀ b, b ≠ r → H' b = H b
theorem RowAt.of {K : PySem.W.Frag} {H : Hp} {r sa : Addr} {ns : List Int} {p s e : Int} {xs : List V} (hx : xs = [.ref sa, .int p, .int s, .int e]) (hS : SqN K H r sa (ns.map V.int))
    (h1 : 0 ≤ p) (h2 : 0 ≤ s) (h3 : s < 2147483647) (h4 : 0 ≤ e) : RowAt K (upd H r (.lst xs)) r sa ns := by
  subst hx
  exact ⟨p, s, e, upd_same, sqn_ne hS, h1, h2, h3, h4⟩
theorem rd_sameL {H H' : Hp} {a : Addr} {xs : List V} (h : Rd H a (.lst xs)) (s : Same H H') : Rd H' a (.lst xs) := by
  rcases h with h | ⟨u, h⟩
  · exact .inl (s _ _ h)
  · exact .inr ⟨u, s _ _ h⟩
theorem RowAt.same {K : PySem.W.Frag} {H H' : Hp} {r sa : Addr} {ns : List Int} (h : RowAt K H r sa ns) (s : Same H H') : RowAt K H' r sa ns := by
  obtain ⟨p, sd, e, hrow, hS, hb⟩ := h
  refine ⟨p, sd, e, s _ _ hrow, ?_, hb⟩
  rcases hS with ⟨q, n⟩ | q
  · exact .inl ⟨rd_sameL q s, n⟩
  · exact .inr q
theorem ButRow.of {H : Hp} {r : Addr} {o : HO} : ButRow r H (upd H r o) := fun b n => upd_ne n
section
variable {P : Program} {w : World} {K : PySem.W.Frag} {mg : Str → Option Value} {base : Heap}
def sp_law_taken (K : PySem.W.Frag) : Sp := fun vs H Q _ => ∃ (r sa : Addr) (ns : List Int) (m : Int), vs = [.ref r, .int m] ∧ RowAt K H r sa ns ∧ 1 ≤ m ∧ m ≤ 1000000000 ∧
  ∀ (v : Int) H', 0 ≤ v → v < m → RowAt K H' r sa ns → ButRow r H H' → Q (.int v) H'
theorem ok_law_taken (T : Txt K mg) : FnOk P w K mg base CX0 1 T.law_taken.f T.law_taken.fd P_law_taken (sp_law_taken K) := by
  refine T.law_taken.F.ok sc_law_taken (fun vs H Q E h => ?_) (fun cdv A outer s H vs Q E hr h => ?_)
  · obtain ⟨r, sa, ns, m, rfl, _⟩ := h; rfl
  · obtain ⟨r, sa, ns, m, rfl, ⟨p, sd, e, hrow, hS, hp, hs, hs2, he⟩, hm, hm2, k⟩ := h
    refine ⟨_, (pss_cons (ps_if (pt_cmpR op_gt (pe_ix (r := rIxL K) ix_list (pv 0) pe_int (fun _ _ => rfl)) pe_int (nomark _)) (pss_cons (ps_set (i := 2) sc_law_taken.nd rfl (Or.inl rfl) (pe_op op_mod (pe_callTy call_int1 rfl T.n_int bo_int (pa_cons (pe_ix (r := rIxL K) ix_list (pv 0) pe_int (fun _ _ => rfl)) pa_nil)) (pv 1)))
  (pss_cons (ps_asg (pe_op op_fdivZ (pe_ix (r := rIxL K) ix_list (pv 0) pe_int (fun _ _ => rfl)) (pv 1)) (pg_sub (pv 0) pe_int set_list))
  (pss_one (ps_ret (pv 2))))) pss_nil)
  (pss_cons (ps_asg (pe_op op_add (pe_ix (r := rIxL K) ix_list (pv 0) pe_int (fun _ _ => rfl)) pe_int) (pg_sub (pv 0) pe_int set_list))
  (pss_cons (ps_if (pt_cmpR op_gt (pe_ix (r := rIxL K) ix_list (pv 0) pe_int (fun _ _ => rfl)) (pe_callB (r := rLenS K) call_len_seq rfl T.n_len bo_len (pa_cons (pe_ix (r := rIxL K) ix_list (pv 0) pe_int (fun _ _ => rfl)) pa_nil)) (nomark _)) (pss_cons (ps_asg (pe_op op_mod (pe_callTy call_int1 rfl T.n_int bo_int (pa_cons (pe_op op_add (pe_op op_mulW (pe_ix (r := rIxL K) ix_list (pv 0) pe_int (fun _ _ => rfl)) pe_int) pe_int) pa_nil)) pe_int) (pg_sub (pv 0) pe_int set_list))
  (pss_one (ps_ret (pe_op op_mod (pe_callTy call_int1 rfl T.n_int bo_int (pa_cons (pe_op op_fdivZ (pe_ix (r := rIxL K) ix_list (pv 0) pe_int (fun _ _ => rfl)) pe_int) pa_nil)) (pv 1))))) pss_nil)
  (pss_cons (ps_set (i := 3) sc_law_taken.nd rfl (Or.inl rfl) (pe_ix (r := rIxL K) ix_list (pe_ix (r := rIxL K) ix_list (pv 0) pe_int (fun _ _ => rfl)) (pe_op op_sub (pe_ix (r := rIxL K) ix_list (pv 0) pe_int (fun _ _ => rfl)) pe_int) (fun _ _ => rfl)))
  (pss_cons (ps_asg (pe_op op_mod (pe_callTy call_int1 rfl T.n_int bo_int (pa_cons (pe_op op_add (pe_op op_add (pe_op op_mulW (pe_ix (r := rIxL K) ix_list (pv 0) pe_int (fun _ _ => rfl)) pe_int) (pv 3)) pe_int) pa_nil)) pe_int) (pg_sub (pv 0) pe_int set_list))
  (pss_cons (ps_if (pt_cmpR op_ge (pv 3) (pe_op op_powW pe_int pe_int) (nomark _)) (pss_one (ps_asg (pe_op op_fdivZ (pv 3) (pv 1)) (pg_sub (pv 0) pe_int set_list))) pss_nil)
  (pss_one (ps_ret (pe_op op_mod (pe_callTy call_int1 rfl T.n_int bo_int (pa_cons (pv 3) pa_nil)) (pv 1)))))))))), ?_⟩
    walk_at "rd"
    refine iteD (fun h1 => ?_) (fun h1 => ?_)
    · walk_at "rd"
      refine k _ _ (Int.emod_nonneg _ (by omega)) (Int.emod_lt_of_pos _ (by omega)) (.of rfl hS hp hs hs2 ?_) .of
      rw [Int.fdiv_eq_ediv_of_nonneg _ (by omega)]
      exact Int.ediv_nonneg he (by omega)
    · walk_at "rd"
      refine ⟨_, _, rfl, .inl (sqn_ne hS).sq, ?_⟩
      walk_at "rd"
      refine iteD (fun h2 => ?_) (fun h2 => ?_)
      · walk_at "rd"
        refine k _ _ (Int.emod_nonneg _ (by omega)) (Int.emod_lt_of_pos _ (by omega)) (.of rfl (sqn_ne hS) (show 0 ≤ p + 1 by omega) (Int.emod_nonneg _ (by omega)) (Int.emod_lt_of_pos _ (by omega)) he) fun b n => ?_
        rw [upd_ne n, upd_ne n]
      · rw [List.length_map] at h2
        obtain ⟨c, hc⟩ : ∃ c, ns[p.toNat]? = some c := ⟨_, List.getElem?_eq_getElem (by omega)⟩
        have hat : atI (ns.map V.int) (p + 1 - 1) = some (V.int c) := by
          rw [show p + 1 - 1 = (p.toNat : Int) by omega]
          refine atI_nat ?_
          rw [List.getElem?_map, hc]; rfl
        walk_at "rd"
        refine ⟨_, _, _, _, rfl, rfl, (sqn_ne hS).sq, hat, ?_⟩
        walk_at "rd"
        refine iteD (fun h3 => ?_) (fun h3 => ?_)
        · walk_at "rd"
          have h3' : (0 : Int) ≤ c := by
            have : ((10 : Int) ^ (18 : Int).toNat) = 1000000000000000000 := by decide
            omega
          refine k _ _ (Int.emod_nonneg _ (by omega)) (Int.emod_lt_of_pos _ (by omega)) (.of rfl (sqn_ne (sqn_ne hS)) (show 0 ≤ p + 1 by omega) (Int.emod_nonneg _ (by omega)) (Int.emod_lt_of_pos _ (by omega)) ?_) fun b n => ?_
          · rw [Int.fdiv_eq_ediv_of_nonneg _ (by omega)]
            exact Int.ediv_nonneg h3' (by omega)
          · rw [upd_ne n, upd_ne n, upd_ne n]
        · walk_at "rd"
          refine k _ _ (Int.emod_nonneg _ (by omega)) (Int.emod_lt_of_pos _ (by omega)) (.of rfl (sqn_ne hS) (show 0 ≤ p + 1 by omega) (Int.emod_nonneg _ (by omega)) (Int.emod_lt_of_pos _ (by omega)) he) fun b n => ?_
          rw [upd_ne n, upd_ne n]
end

section
variable {P : Program} {w : World} {K : PySem.W.Frag} {mg : Str → Option Value} {base : Heap}
/-- all but the row stays, and the row is a row -/
structure RK (K : PySem.W.Frag) (r sa : Addr) (ns : List Int) (H H' : Hp) : Prop where
  keep : KeepBut r H H'
  row : RowAt K H' r sa ns
theorem row_lst {H : Hp} {r sa : Addr} {ns : List Int} (h : RowAt K H r sa ns) : ∃ xs, H r = some (.lst xs) := by
  obtain ⟨p, s, e, h, _⟩ := h
  exact ⟨_, h⟩
theorem RowAt.sm {H H' : Hp} {r sa : Addr} {ns : List Int} (h : RowAt K H r sa ns) (s : Same H H') : RowAt K H' r sa ns := by
  obtain ⟨p, sd, e, hrow, hS, hb⟩ := h
  refine ⟨p, sd, e, s _ _ hrow, ?_, hb⟩
  rcases hS with ⟨q | ⟨u, q⟩, n⟩ | q
  · exact .inl ⟨.inl (s _ _ q), n⟩
  · exact .inl ⟨.inr ⟨u, s _ _ q⟩, n⟩
  · exact .inr q
theorem RK.of {H H' : Hp} {r sa : Addr} {ns : List Int} (h : RowAt K H r sa ns) (s : Same H H') : RK K r sa ns H H' := ⟨.of s, h.sm s⟩
theorem RK.draw {H H' : Hp} {r sa : Addr} {ns : List Int} (h : RowAt K H' r sa ns) (b : ButRow r H H') : RK K r sa ns H H' := ⟨fun c o n e => (b c n).trans e, h⟩
theorem RK.trans {H H1 H2 : Hp} {r sa : Addr} {ns : List Int} (a : RK K r sa ns H H1) (b : RK K r sa ns H1 H2) : RK K r sa ns H H2 := ⟨a.keep.trans b.keep, b.row⟩
theorem RK.tp {H H' : Hp} {r sa : Addr} {ns : List Int} (h : RowAt K H r sa ns) (a : RK K r sa ns H H') : Tp H H' := fun b xs q => by
  obtain ⟨ys, hr⟩ := row_lst h
  have n : b ≠ r := fun e => by
    subst e
    rcases q with q | ⟨o, q⟩
    · rw [hr] at q; cases q
    · rw [hr] at q; cases q
  rcases q with q | ⟨o, q⟩
  · exact .inl (a.keep _ _ n q)
  · exact .inr ⟨o, a.keep _ _ n q⟩
/-- i items are made at D while the row is drawn from -/
def MapRow (K : PySem.W.Frag) (r sa : Addr) (ns : List Int) (H1 : Hp) (D : Addr) (R : Nat → V → Prop) (i : Nat) (H : Hp) : Prop := ∃ ys, RK K r sa ns H1 H ∧ H D = some (.lst ys) ∧ ys.length = i ∧ ∀ (j : Nat) (y : V), ys[j]? = some y → R j y
theorem mapRow_0 {r sa : Addr} {ns : List Int} {H1 : Hp} {D : Addr} {R : Nat → V → Prop} (hr : RowAt K H1 r sa ns) (hD : H1 D = Option.none) : MapRow K r sa ns H1 D R 0 (upd H1 D (.lst [])) := ⟨[], .of hr (same_upd hD), upd_same, rfl, fun j y h => by simp at h⟩
theorem mapRow_step {r sa : Addr} {ns : List Int} {H1 H H4 : Hp} {D : Addr} {R : Nat → V → Prop} {i : Nat} {y : V} (h : MapRow K r sa ns H1 D R i H) (hr : RowAt K H1 r sa ns) (hD : H1 D = Option.none) (hz : i < sizeLine) (s : RK K r sa ns H H4) (q : R i y) :
    ∃ acc, H4 D = some (.lst acc) ∧ acc.length < sizeLine ∧ MapRow K r sa ns H1 D R (i + 1) (upd H4 D (.lst (acc ++ [y]))) := by
  obtain ⟨ys, h1, h2, h3, h4⟩ := h
  obtain ⟨zs, hrz⟩ := row_lst hr
  have nD : D ≠ r := fun e => by rw [e, hrz] at hD; cases hD
  have e4 := s.keep _ _ nD h2
  refine ⟨ys, e4, by rw [h3]; exact hz, ys ++ [y], ⟨fun b o nb e => ?_, ?_⟩, upd_same, by simp [h3], fun j z hz => ?_⟩
  · rw [upd_ne (ne_of_none e hD)]
    exact s.keep _ _ nb (h1.keep _ _ nb e)
  · obtain ⟨p, sd, e, hrow, hS, hb⟩ := s.row
    refine ⟨p, sd, e, (upd_ne (fun z => nD z.symm)).trans hrow, ?_, hb⟩
    obtain ⟨_, _, _, _, hS1, _⟩ := hr
    have ns' : (∃ o, H1 sa = some o) → sa ≠ D := fun ⟨o, z⟩ => ne_of_none z hD
    rcases hS with ⟨q | ⟨u, q⟩, n⟩ | q
    · rcases hS1 with ⟨w | ⟨u, w⟩, _⟩ | ⟨o, its, m, w, _⟩
      · exact .inl ⟨.inl ((upd_ne (ns' ⟨_, w⟩)).trans q), n⟩
      · exact .inl ⟨.inl ((upd_ne (ns' ⟨_, w⟩)).trans q), n⟩
      · exact .inr ⟨o, its, m, w, by assumption⟩
    · rcases hS1 with ⟨w | ⟨u', w⟩, _⟩ | ⟨o, its, m, w, _⟩
      · exact .inl ⟨.inr ⟨u, (upd_ne (ns' ⟨_, w⟩)).trans q⟩, n⟩
      · exact .inl ⟨.inr ⟨u, (upd_ne (ns' ⟨_, w⟩)).trans q⟩, n⟩
      · exact .inr ⟨o, its, m, w, by assumption⟩
    · exact .inr q
  · by_cases hj : j < ys.length
    · rw [List.getElem?_append_left hj] at hz
      exact h4 j z hz
    · rw [List.getElem?_append_right (by omega)] at hz
      have ej : j - ys.length = 0 := by
        by_cases q : j - ys.length = 0
        · exact q
        · rw [List.getElem?_eq_none (by simp; omega)] at hz; cases hz
      rw [ej] at hz
      simp at hz
      subst hz
      have : j = i := by omega
      subst this
      exact q
end

section
variable {P : Program} {w : World} {K : PySem.W.Frag} {mg : Str → Option Value} {base : Heap}
/-- all but the row and the tables stays; the row is a row, the tables are in order -/
structure LK (t : TabsAt) (K : PySem.W.Frag) (r sa : Addr) (ns : List Int) (H H' : Hp) : Prop where
  keep : ∀ b o, b ≠ r → H b = some o → (∀ ps, o ≠ .tbl ps) → H' b = some o
  row : RowAt K H' r sa ns
  ts : TS t H'
theorem LK.trans {t : TabsAt} {r sa : Addr} {ns : List Int} {H H1 H2 : Hp} (a : LK t K r sa ns H H1) (b : LK t K r sa ns H1 H2) : LK t K r sa ns H H2 := ⟨fun c o n e q => b.keep c o n (a.keep c o n e q) q, b.row, b.ts⟩
theorem tabG_but {r p : Addr} {H H' : Hp} {xs : List V} (h : GxR.TabG H p) (hr : H r = some (.lst xs)) (k : KeepBut r H H') : GxR.TabG H' p := by
  obtain ⟨ps, p1, p2⟩ := h
  exact ⟨ps, k _ _ (fun z => by rw [z, hr] at p1; cases p1) p1, p2⟩
theorem TS.rk {t : TabsAt} {r : Addr} {H H' : Hp} {xs : List V} (h : TS t H) (hr : H r = some (.lst xs)) (k : KeepBut r H H') : TS t H' := by
  refine ⟨fun x hx => tabG_but (h.g x hx) hr k, fun x hx z hz => ?_⟩
  obtain ⟨ps, a1, a2, a3⟩ := h.l x hx z hz
  refine ⟨ps, k _ _ (fun e => by rw [e, hr] at a1; cases a1) a1, a2, fun pos cv hcv => ?_⟩
  obtain ⟨cz, q1, q2⟩ := a3 pos cv hcv
  refine ⟨cz, q1, k _ _ (fun e => ?_) q2⟩
  rw [e, hr] at q2
  unfold LamX.CodeO at q2
  cases q2
theorem LK.rk {t : TabsAt} {r sa : Addr} {ns : List Int} {H H' : Hp} (h : RowAt K H r sa ns) (ht : TS t H) (k : RK K r sa ns H H') : LK t K r sa ns H H' := by
  obtain ⟨xs, hr⟩ := row_lst h
  exact ⟨fun b o n e _ => k.keep b o n e, k.row, ht.rk hr k.keep⟩
theorem RowAt.ext {r sa : Addr} {ns : List Int} {H H' : Hp} (h : RowAt K H r sa ns) (s : LamX.ExtN H H') : RowAt K H' r sa ns := by
  obtain ⟨p, sd, e, hrow, hS, hb⟩ := h
  refine ⟨p, sd, e, s _ _ hrow (fun ps z => by cases z), ?_, hb⟩
  rcases hS with ⟨q | ⟨u, q⟩, n⟩ | q
  · exact .inl ⟨.inl (s _ _ q (fun ps z => by cases z)), n⟩
  · exact .inl ⟨.inr ⟨u, s _ _ q (fun ps z => by cases z)⟩, n⟩
  · exact .inr q
theorem LK.ex {t : TabsAt} {r sa : Addr} {ns : List Int} {H H' : Hp} (h : RowAt K H r sa ns) (x : Ex t H H') : LK t K r sa ns H H' := ⟨fun b o _ e n => x.keep b o e n, h.ext x.keep, x.ts⟩
theorem LK.same {t : TabsAt} {r sa : Addr} {ns : List Int} {H H' : Hp} (h : RowAt K H r sa ns) (ht : TS t H) (s : Same H H') : LK t K r sa ns H H' := ⟨fun b o _ e _ => s b o e, h.sm s, ht.same s⟩
theorem LK.tp {t : TabsAt} {r sa : Addr} {ns : List Int} {H H' : Hp} (h : RowAt K H r sa ns) (a : LK t K r sa ns H H') : Tp H H' := fun b xs q => by
  obtain ⟨ys, hr⟩ := row_lst h
  have n : b ≠ r := fun e => by
    subst e
    rcases q with q | ⟨o, q⟩
    · rw [hr] at q; cases q
    · rw [hr] at q; cases q
  rcases q with q | ⟨o, q⟩
  · exact .inl (a.keep _ _ n q fun ps z => by cases z)
  · exact .inr ⟨o, a.keep _ _ n q fun ps z => by cases z⟩
end

abbrev rIxA (K : PySem.W.Frag) : V → V → Hp → VK → Prop := fun x y H Q => rIxL K x y H Q ∨ rIxT K x y H Q
theorem fn_never {P : Program} {w : World} {K : PySem.W.Frag} {mg : Str → Option Value} {base : Heap} {CX : CXT} {k : Nat} {f : Addr} {fd : FuncData} {ps : List Str} : FnOk P w K mg base CX k f fd ps (fun _ _ _ _ => False) :=
  ⟨fun _ _ _ _ h => h.elim, fun _ _ _ _ _ _ _ _ _ _ _ _ _ h => h.elim⟩
/-- equal values, up to a depth -/
inductive Al (K : PySem.W.Frag) : Nat → Hp → V → V → Prop
  | int (j : Nat) (H : Hp) (i : Int) : Al K j H (.int i) (.int i)
  | non (j : Nat) (H : Hp) : Al K j H .non .non
  | tup {j : Nat} {H : Hp} {a b : Addr} {xs ys : List V} (ha : SqT K H a xs) (hb : SqT K H b ys) (hl : xs.length = ys.length) (hz : xs.length ≤ 100000) (h : ∀ (i : Nat) (x y : V), xs[i]? = some x → ys[i]? = some y → ∀ H', Same H H' → Al K j H' x y) : Al K (j + 1) H (.ref a) (.ref b)
  | lst {j : Nat} {H : Hp} {a b : Addr} {xs ys : List V} (ha : H a = some (.lst xs)) (hb : H b = some (.lst ys)) (hl : xs.length = ys.length) (hz : xs.length ≤ 100000) (h : ∀ (i : Nat) (x y : V), xs[i]? = some x → ys[i]? = some y → ∀ H', Same H H' → Al K j H' x y) : Al K (j + 1) H (.ref a) (.ref b)
def spA (K : PySem.W.Frag) (j : Nat) : Sp := fun vs H Q _ => ∃ x y, vs = [x, y] ∧ Al K j H x y ∧ ∀ H', Same H H' → Q (.bl true) H'
def spG (K : PySem.W.Frag) : Nat → Sp
  | 0 => fun _ _ _ _ => False
  | j + 1 => spA K j
section
variable {K : PySem.W.Frag}
theorem kit_none_tuple : PySem.W.kitOne K (.type "NoneType") (.type "tuple") = some false := kit_ty (by decide +kernel)
theorem kit_none_list : PySem.W.kitOne K (.type "NoneType") (.type "list") = some false := kit_ty (by decide +kernel)
theorem kit_none_str : PySem.W.kitOne K (.type "NoneType") (.type "str") = some false := kit_ty (by decide +kernel)
theorem kit_list_list : PySem.W.kitOne K (.type "list") (.type "list") = some true := kit_ty (by decide +kernel)
theorem kit_list_tuple : PySem.W.kitOne K (.type "list") (.type "tuple") = some false := kit_ty (by decide +kernel)
theorem kitA_none : PySem.W.kitAny K (.type "NoneType") [.type "tuple", .type "list"] = some false :=
  kitAny_cons kit_none_tuple (fun _ => kitAny_cons kit_none_list (fun _ => kitAny_nil) (fun z => nomatch z)) (fun z => nomatch z)
theorem kitA_list : PySem.W.kitAny K (.type "list") [.type "tuple", .type "list"] = some true :=
  kitAny_cons kit_list_tuple (fun _ => kitAny_cons kit_list_list (fun z => nomatch z) (fun _ => rfl)) (fun z => nomatch z)
end
section
variable {P : Program} {w : World} {K : PySem.W.Frag} {mg : Str → Option Value} {base : Heap}
theorem alike_body (T : Txt K mg) (j : Nat) (G0 : FnOk P w K mg base CX0 j T.law_alike.f T.law_alike.fd P_law_alike (spG K j)) : FnOk P w K mg base CX0 (j + 1) T.law_alike.f T.law_alike.fd P_law_alike (spA K j) := by
  refine T.law_alike.F.ok sc_law_alike (fun vs H Q E h => ?_) (fun cdv A outer s H vs Q E hr h => ?_)
  · obtain ⟨x, y, rfl, _⟩ := h; rfl
  · obtain ⟨x, y, rfl, hA, k⟩ := h
    refine ⟨_, (pss_cons (ps_if (pt_val (pe_callB (r := rIsiT K) call_isiT rfl T.n_isinstance bo_isinstance (pa_cons (pv 1) (pa_cons (pe_tup (pa_cons (pe_bltn (v := .ty "tuple") rfl T.n_tuple bo_tuple rfl) (pa_cons (pe_bltn (v := .ty "list") rfl T.n_list bo_list rfl) pa_nil))) pa_nil)))) (pss_cons (ps_if (PW.pt (pw_or (pt_not (pt_val (pe_callB (r := rIsiT K) call_isiT rfl T.n_isinstance bo_isinstance (pa_cons (pv 0) (pa_cons (pe_tup (pa_cons (pe_bltn (v := .ty "tuple") rfl T.n_tuple bo_tuple rfl) (pa_cons (pe_bltn (v := .ty "list") rfl T.n_list bo_list rfl) pa_nil))) pa_nil))))) (pw_or1 (pt_cmpR op_ne (pe_callB (r := rIsi K) call_isi rfl T.n_isinstance bo_isinstance (pa_cons (pv 0) (pa_cons (pe_bltn (v := .ty "list") rfl T.n_list bo_list rfl) pa_nil))) (pe_callB (r := rIsi K) call_isi rfl T.n_isinstance bo_isinstance (pa_cons (pv 1) (pa_cons (pe_bltn (v := .ty "list") rfl T.n_list bo_list rfl) pa_nil))) (nomark _))))) (pss_one (ps_ret pe_bl)) pss_nil)
  (pss_cons (ps_if (pt_cmpR op_ne (pe_callB (r := rLenS K) call_len_seq rfl T.n_len bo_len (pa_cons (pv 0) pa_nil)) (pe_callB (r := rLenS K) call_len_seq rfl T.n_len bo_len (pa_cons (pv 1) pa_nil)) (nomark _)) (pss_one (ps_ret pe_bl)) pss_nil)
  (pss_one (ps_ret (pe_cmpR (r := rEqD K) (op_eqD hr.units) (pe_lc (own := [("k", 2)]) rfl sc_law_alike.nd (pi_range1 rfl T.n_range (pa_cons (pe_callB (r := rLenS K) call_len_seq rfl T.n_len bo_len (pa_cons (pv 1) pa_nil)) pa_nil)) (blkOk_by (own := [("k", 2)]) (N := N_law_alike) (sc := defScope s_law_alike) (by decide +kernel)) (fun _ _ _ _ _ => (pg_name (i := 2) sc_law_alike.nd rfl (Or.inl rfl))) (fun _ _ _ _ _ => pts_one (pt_not (pt_val (pe_call G0 hr rfl T.law_alike.g T.law_alike.F.kp (b_law_alike T) .nil pass0 (pa_cons (pe_ix (r := rIxA K) ix_any (pv 0) (pv 2) (fun _ _ => rfl)) (pa_cons (pe_ix (r := rIxA K) ix_any (pv 1) (pv 2) (fun _ _ => rfl)) pa_nil)))))) (fun _ _ _ _ _ => (pv 2))) (pe_lst pa_nil) (nomark _)))))) pss_nil)
  (pss_cons (ps_if (PW.pt (pw_or (pt_cmpR op_isN (pv 1) pe_non (nomark _)) (pw_or1 (pt_val (pe_callB (r := rIsi K) call_isi rfl T.n_isinstance bo_isinstance (pa_cons (pv 1) (pa_cons (pe_bltn (v := .ty "str") rfl T.n_str bo_str rfl) pa_nil))))))) (pss_one (ps_ret (pe_and (pe_cmpR (op_eqD hr.units) (pv 0) (pv 1) (nomark _)) (pe_one (pe_cmpR op_eq (pe_callB (r := rIsi K) call_isi rfl T.n_isinstance bo_isinstance (pa_cons (pv 0) (pa_cons (pe_bltn (v := .ty "str") rfl T.n_str bo_str rfl) pa_nil))) (pe_callB (r := rIsi K) call_isi rfl T.n_isinstance bo_isinstance (pa_cons (pv 1) (pa_cons (pe_bltn (v := .ty "str") rfl T.n_str bo_str rfl) pa_nil))) (nomark _)))))) pss_nil)
  (pss_one (ps_ret (pe_and (pe_callB (r := rIsi K) call_isi rfl T.n_isinstance bo_isinstance (pa_cons (pv 0) (pa_cons (pe_bltn (v := .ty "int") rfl T.n_int bo_int rfl) pa_nil))) (pe_and (pe_cmpR op_eq (pe_callB (r := rIsi K) call_isi rfl T.n_isinstance bo_isinstance (pa_cons (pv 0) (pa_cons (pe_bltn (v := .ty "bool") rfl T.n_bool bo_bool rfl) pa_nil))) (pe_callB (r := rIsi K) call_isi rfl T.n_isinstance bo_isinstance (pa_cons (pv 1) (pa_cons (pe_bltn (v := .ty "bool") rfl T.n_bool bo_bool rfl) pa_nil))) (nomark _)) (pe_one (pe_cmpR (op_eqD hr.units) (pv 0) (pv 1) (nomark _))))))))), ?_⟩
    cases hA with
    | int _ _ i =>
      walk_at "rd"
      refine ⟨two_line, fun p hp => ?_⟩
      refine ⟨_, _, _, _, _, _, rfl, upd_same, .cons (.ty _) (.cons (.ty _) .nil), .base (.int _), kitA_int, ?_⟩
      walk_at "rd"
      refine ⟨_, _, .int _, .int _, by rfl, by rfl, ?_⟩
      have e : PyData.eqv (.int i) (.int i) = true := by show (i == i) = true; simp
      show Q _ _
      rw [e]
      exact k _ (same_upd hp)
    | non _ _ =>
      walk_at "rd"
      refine ⟨two_line, fun p hp => ?_⟩
      refine ⟨_, _, _, _, _, _, rfl, upd_same, .cons (.ty _) (.cons (.ty _) .nil), .base .non, kitA_none, ?_⟩
      walk_at "rd"
      refine ⟨_, _, .non, .non, by rfl, by rfl, ?_⟩
      walk_at "rd"
      refine ⟨_, _, _, _, _, rfl, .ty _, .base .non, kit_none_str, ?_⟩
      walk_at "rd"
      refine ⟨_, _, _, _, _, rfl, .ty _, .base .non, kit_none_str, ?_⟩
      walk_at "rd"
      exact k _ (same_upd hp)
    | @tup j' _ a b xs ys ha hb hl hz h =>
      walk_at "rd"
      refine ⟨two_line, fun p hp => ?_⟩
      have s1 := same_upd (o := .tup [V.ty "tuple", V.ty "list"]) hp
      refine ⟨_, _, _, _, _, _, rfl, upd_same, .cons (.ty _) (.cons (.ty _) .nil), ty_tup (Toy.Same.tup s1 hb), kitA_tuple, ?_⟩
      walk_at "rd"
      refine ⟨two_line, fun q hq => ?_⟩
      have s2 := Same.trans s1 (same_upd (o := .tup [V.ty "tuple", V.ty "list"]) hq)
      refine ⟨_, _, _, _, _, _, rfl, upd_same, .cons (.ty _) (.cons (.ty _) .nil), ty_tup (Toy.Same.tup s2 ha), kitA_tuple, ?_⟩
      obtain ⟨H2, eH2⟩ : ∃ H2, H2 = upd (upd H p (.tup [V.ty "tuple", V.ty "list"])) q (.tup [V.ty "tuple", V.ty "list"]) := ⟨_, rfl⟩
      rw [← eH2] at s2 ⊢
      clear eH2
      have ha2 := Toy.Same.tup s2 ha
      have hb2 := Toy.Same.tup s2 hb
      walk_at "rd"
      refine ⟨_, _, _, _, _, rfl, .ty _, ty_tup ha2, kit_tuple_list, ?_⟩
      walk_at "rd"
      refine ⟨_, _, _, _, _, rfl, .ty _, ty_tup hb2, kit_tuple_list, ?_⟩
      walk_at "rd"
      refine ⟨_, _, rfl, .inr ha2, ?_⟩
      walk_at "rd"
      refine ⟨_, _, rfl, .inr hb2, ?_⟩
      walk_at "rd"
      rw [hl]
      refine iteVn (fun z => absurd rfl z) (fun _ => ?_)
      walk_at "rd"
      refine ⟨_, _, rfl, .inr hb2, ?_⟩
      walk_at "rd"
      refine ⟨(by omega), (by omega), fun D hD => ?_⟩
      rw [Int.toNat_natCast]
      refine lc_range (lo := 0) (n := ys.length) (fun i H3 => Same H2 H3 ∧ H3 D = some (.lst [])) ⟨same_upd hD, upd_same⟩ (fun i H3 hi q => ?_) (fun H3 q => ?_)
      · obtain ⟨s3, e3⟩ := q
        have hx : xs[i]? = some xs[i] := List.getElem?_eq_getElem (by omega)
        have hy : ys[i]? = some ys[i] := List.getElem?_eq_getElem hi
        have g1 : atI xs (0 + (i : Int)) = some xs[i] := at_of (show (0 : Int) + (i : Int) = ((i : Nat) : Int) by omega) hx
        have g2 : atI ys (0 + (i : Int)) = some ys[i] := at_of (show (0 : Int) + (i : Int) = ((i : Nat) : Int) by omega) hy
        walk_at "rd"
        refine .inr ⟨_, _, _, _, rfl, rfl, (Toy.Same.tup s3 ha2), g1, ?_⟩
        walk_at "rd"
        refine .inr ⟨_, _, _, _, rfl, rfl, (Toy.Same.tup s3 hb2), g2, ?_⟩
        refine ⟨_, _, rfl, h i _ _ hx hy H3 (Same.trans s2 s3), fun H4 s4 => ?_⟩
        walk_at "rd"
        exact ⟨Same.trans s3 s4, s4 _ _ e3⟩
      · obtain ⟨s3, e3⟩ := q
        walk_at "rd"
        refine ⟨by decide, fun q hq => ?_⟩
        refine ⟨_, _, .lst (.inl (.inl ((upd_ne (ne_of_none e3 hq)).trans e3))) .nil, .lst (.inl (.inl upd_same)) .nil, by decide, by decide, ?_⟩
        exact k _ (Same.trans s2 (Same.trans s3 (same_upd hq)))
    | @lst j' _ a b xs ys ha hb hl hz h =>
      walk_at "rd"
      refine ⟨two_line, fun p hp => ?_⟩
      have s1 := same_upd (o := .tup [V.ty "tuple", V.ty "list"]) hp
      refine ⟨_, _, _, _, _, _, rfl, upd_same, .cons (.ty _) (.cons (.ty _) .nil), .base (.lst (s1 _ _ hb)), kitA_list, ?_⟩
      walk_at "rd"
      refine ⟨two_line, fun q hq => ?_⟩
      have s2 := Same.trans s1 (same_upd (o := .tup [V.ty "tuple", V.ty "list"]) hq)
      refine ⟨_, _, _, _, _, _, rfl, upd_same, .cons (.ty _) (.cons (.ty _) .nil), .base (.lst (s2 _ _ ha)), kitA_list, ?_⟩
      obtain ⟨H2, eH2⟩ : ∃ H2, H2 = upd (upd H p (.tup [V.ty "tuple", V.ty "list"])) q (.tup [V.ty "tuple", V.ty "list"]) := ⟨_, rfl⟩
      rw [← eH2] at s2 ⊢
      clear eH2
      have ha2 := s2 _ _ ha
      have hb2 := s2 _ _ hb
      walk_at "rd"
      refine ⟨_, _, _, _, _, rfl, .ty _, .base (.lst ha2), kit_list_list, ?_⟩
      walk_at "rd"
      refine ⟨_, _, _, _, _, rfl, .ty _, .base (.lst hb2), kit_list_list, ?_⟩
      walk_at "rd"
      rw [hl]
      refine iteVn (fun z => absurd rfl z) (fun _ => ?_)
      walk_at "rd"
      refine ⟨(by omega), (by omega), fun D hD => ?_⟩
      rw [Int.toNat_natCast]
      refine lc_range (lo := 0) (n := ys.length) (fun i H3 => Same H2 H3 ∧ H3 D = some (.lst [])) ⟨same_upd hD, upd_same⟩ (fun i H3 hi q => ?_) (fun H3 q => ?_)
      · obtain ⟨s3, e3⟩ := q
        have hx : xs[i]? = some xs[i] := List.getElem?_eq_getElem (by omega)
        have hy : ys[i]? = some ys[i] := List.getElem?_eq_getElem hi
        have g1 : atI xs (0 + (i : Int)) = some xs[i] := at_of (show (0 : Int) + (i : Int) = ((i : Nat) : Int) by omega) hx
        have g2 : atI ys (0 + (i : Int)) = some ys[i] := at_of (show (0 : Int) + (i : Int) = ((i : Nat) : Int) by omega) hy
        walk_at "rd"
        refine .inl ⟨_, _, _, _, rfl, rfl, .inl (.inl (s3 _ _ ha2)), g1, ?_⟩
        walk_at "rd"
        refine .inl ⟨_, _, _, _, rfl, rfl, .inl (.inl (s3 _ _ hb2)), g2, ?_⟩
        refine ⟨_, _, rfl, h i _ _ hx hy H3 (Same.trans s2 s3), fun H4 s4 => ?_⟩
        walk_at "rd"
        exact ⟨Same.trans s3 s4, s4 _ _ e3⟩
      · obtain ⟨s3, e3⟩ := q
        walk_at "rd"
        refine ⟨by decide, fun q hq => ?_⟩
        refine ⟨_, _, .lst (.inl (.inl ((upd_ne (ne_of_none e3 hq)).trans e3))) .nil, .lst (.inl (.inl upd_same)) .nil, by decide, by decide, ?_⟩
        exact k _ (Same.trans s2 (Same.trans s3 (same_upd hq)))
theorem ok_alike_at (T : Txt K mg) : ∀ j : Nat, FnOk P w K mg base CX0 (j + 1) T.law_alike.f T.law_alike.fd P_law_alike (spA K j)
  | 0 => alike_body T 0 fn_never
  | j + 1 => alike_body T (j + 1) (ok_alike_at T j)
theorem ok_law_alike (T : Txt K mg) : FnOk P w K mg base CX0 3 T.law_alike.f T.law_alike.fd P_law_alike (spA K 2) := ok_alike_at T 2
end

/-! ### the law -/
theorem okS_succ {f many : Nat} {vs : List Nat} (h : okS (f + 1) many vs = true) : ∃ m : Nat, mostO many vs = some (m : Int) ∧ m ≤ 8 ∧ gapL many (vs ++ [m]) = none ∧ gapL many (vs ++ [m + 1]) = some vs.length ∧
    ∀ v, v ≤ m → gapL many (vs ++ [v]) = none ∧ (∀ a b g, a < 3 → b < 3 → gapL many (vs ++ [v] ++ [a, b]) = some g → vs.length + 1 ≤ g) ∧ okS f many (vs ++ [v]) = true := by
  unfold okS at h
  cases hm : mostO many vs with
  | none => rw [hm] at h; cases h
  | some m =>
    rw [hm] at h
    simp only [Bool.and_eq_true, decide_eq_true_eq, List.all_eq_true, List.mem_range, Option.isNone_iff_eq_none] at h
    obtain ⟨⟨⟨⟨h1, h2⟩, h3⟩, h4⟩, h5⟩ := h
    refine ⟨m.toNat, by rw [Int.toNat_of_nonneg h1], by omega, h3, h4, fun v hv => ?_⟩
    obtain ⟨⟨g1, g2⟩, g3⟩ := h5 v (by omega)
    refine ⟨g1, fun a b g ha hb hg => ?_, g3⟩
    have := g2 a ha b hb
    rw [hg] at this
    exact of_decide_eq_true this
def turns (many : Nat) : Nat := [5, 4, 2].getD (many - 1) 0
theorem ok_start {many : Nat} (h1 : 1 ≤ many) (h3 : many ≤ 3) : okS (turns many) many [1] = true := by
  rcases (show many = 1 ∨ many = 2 ∨ many = 3 by omega) with e | e | e
  · subst e; exact ok_one
  · subst e; exact ok_two
  · subst e; exact ok_three
theorem ends_ok {many : Nat} (h1 : 1 ≤ many) (h3 : many ≤ 3) : gapL many [2, 0] = some 0 ∧ gapL many [0, 1] = some 1 ∧ gapL many [0, 0] = none := by
  rcases (show many = 1 ∨ many = 2 ∨ many = 3 by omega) with e | e | e
  · subst e; decide +kernel
  · subst e; decide +kernel
  · subst e; decide +kernel
theorem nsV_snoc (vs : List Nat) (m : Nat) : nsV (vs ++ [m]) = nsV vs ++ [V.int (m : Int)] := by
  unfold nsV
  rw [List.map_append]; rfl
section
variable {P : Program} {w : World} {K : PySem.W.Frag} {mg : Str → Option Value} {base : Heap}
def sp_law (t : TabsAt) (K : PySem.W.Frag) : Sp := fun vs H Q _ => ∃ (sa : Addr) (ns : List Int), vs = [.ref sa] ∧ SqL K H sa (ns.map V.int) ∧ TS t H ∧ ∀ H', Q (.bl true) H'
theorem ok_law (T : Txt K mg) {t : TabsAt} (B : TBs T base t) : FnOk P w K mg base CX0 22 T.law.f T.law.fd P_law (sp_law t K) := by
  refine T.law.F.ok sc_law (fun vs H Q E h => ?_) (fun cdv A outer s H vs Q E hr h => ?_)
  · obtain ⟨sa, ns, rfl, _⟩ := h; rfl
  · obtain ⟨sa, ns, rfl, hS, hT, k⟩ := h
    refine ⟨_, (pss_cons (ps_set (i := 1) sc_law.nd rfl (Or.inr rfl) (pe_lst (pa_cons (pv 0) (pa_cons pe_int (pa_cons pe_int (pa_cons pe_int pa_nil))))))
  (pss_cons (ps_set (i := 2) sc_law.nd rfl (Or.inl rfl) (pe_op op_add pe_int (pe_call (ok_law_taken T) (hr.mono (by decide)) rfl T.law_taken.g T.law_taken.F.kp (b_law_taken T) .nil pass0 (pa_cons (pv 1) (pa_cons pe_int pa_nil)))))
  (pss_cons (ps_set (i := 3) sc_law.nd rfl (Or.inl rfl) (pe_tup (pa_cons pe_int pa_nil)))
  (pss_cons (ps_for PassesOwn.never rfl (pi_range1 rfl T.n_range (pa_cons (pe_call (ok_law_taken T) (hr.mono (by decide)) rfl T.law_taken.g T.law_taken.F.kp (b_law_taken T) .nil pass0 (pa_cons (pv 1) (pa_cons (pe_ix (r := rIxL K) ix_list (pe_lst (pa_cons pe_int (pa_cons pe_int (pa_cons pe_int pa_nil)))) (pe_op op_sub (pv 2) pe_int) (fun _ _ => rfl)) pa_nil))) pa_nil)) (pg_name (i := 4) sc_law.nd rfl (Or.inl rfl)) (pss_cons (ps_set (i := 5) sc_law.nd rfl (Or.inl rfl) (pe_call (ok_law_most T) (hr.mono (by decide)) rfl T.law_most.g T.law_most.F.kp (b_law_most T) .nil pass0 (pa_cons (pv 2) (pa_cons (pv 3) pa_nil))))
  (pss_cons (ps_if (pt_cmpR op_notN (pe_call (ok_growth_gap T B) (hr.mono (by decide)) rfl T.growth_gap.g T.growth_gap.F.kp (b_growth_gap T) .nil pass0 (pa_cons (pv 2) (pa_cons (pe_op (r := rCatA K) op_catA (pv 3) (pe_tup (pa_cons (pv 5) pa_nil))) pa_nil))) pe_non (nomark _)) (pss_one (ps_ret pe_bl)) pss_nil)
  (pss_cons (ps_if (pt_not (pt_val (pe_call (ok_law_alike T) (hr.mono (by decide)) rfl T.law_alike.g T.law_alike.F.kp (b_law_alike T) .nil pass0 (pa_cons (pe_call (ok_growth_gap T B) (hr.mono (by decide)) rfl T.growth_gap.g T.growth_gap.F.kp (b_growth_gap T) .nil pass0 (pa_cons (pv 2) (pa_cons (pe_op (r := rCatA K) op_catA (pv 3) (pe_tup (pa_cons (pe_op op_add (pv 5) pe_int) pa_nil))) pa_nil))) (pa_cons (pe_callB (r := rLenS K) call_len_seq rfl T.n_len bo_len (pa_cons (pv 3) pa_nil)) pa_nil))))) (pss_one (ps_ret pe_bl)) pss_nil)
  (pss_cons (ps_set (i := 3) sc_law.nd rfl (Or.inl rfl) (pe_op (r := rCatA K) op_catA (pv 3) (pe_tup (pa_cons (pe_call (ok_law_taken T) (hr.mono (by decide)) rfl T.law_taken.g T.law_taken.F.kp (b_law_taken T) .nil pass0 (pa_cons (pv 1) (pa_cons (pe_op op_add (pv 5) pe_int) pa_nil))) pa_nil))))
  (pss_cons (ps_if (pt_cmpR op_notN (pe_call (ok_growth_gap T B) (hr.mono (by decide)) rfl T.growth_gap.g T.growth_gap.F.kp (b_growth_gap T) .nil pass0 (pa_cons (pv 2) (pa_cons (pv 3) pa_nil))) pe_non (nomark _)) (pss_one (ps_ret pe_bl)) pss_nil)
  (pss_cons (ps_set (i := 6) sc_law.nd rfl (Or.inl rfl) (pe_op (r := rCatA K) op_catA (pv 3) (pe_callTy (r := rTupOf K) call_tuple_of rfl T.n_tuple bo_tuple (pa_cons (pe_lc (own := [("at", 7)]) rfl sc_law.nd (pi_range1 rfl T.n_range (pa_cons pe_int pa_nil)) (blkOk_by (own := [("at", 7)]) (N := N_law) (sc := defScope s_law) (by decide +kernel)) (fun _ _ _ _ _ => (pg_name (i := 7) sc_law.nd rfl (Or.inl rfl))) (fun _ _ _ _ _ => pts_nil) (fun _ _ _ _ _ => (pe_call (ok_law_taken T) (hr.mono (by decide)) rfl T.law_taken.g T.law_taken.F.kp (b_law_taken T) .nil pass0 (pa_cons (pv 1) (pa_cons pe_int pa_nil))))) pa_nil))))
  (pss_cons (ps_set (i := 8) sc_law.nd rfl (Or.inl rfl) (pe_call (ok_growth_gap T B) (hr.mono (by decide)) rfl T.growth_gap.g T.growth_gap.F.kp (b_growth_gap T) .nil pass0 (pa_cons (pv 2) (pa_cons (pv 6) pa_nil))))
  (pss_one (ps_if (PW.pt (pw_and (pt_cmpR op_notN (pv 8) pe_non (nomark _)) (pw_and1 (pt_cmpR op_lt (pv 8) (pe_callB (r := rLenS K) call_len_seq rfl T.n_len bo_len (pa_cons (pv 3) pa_nil)) (nomark _))))) (pss_one (ps_ret pe_bl)) pss_nil))))))))))
  (pss_one (ps_ret (pe_and (pe_cmpR op_eq (pe_call (ok_growth_gap T B) (hr.mono (by decide)) rfl T.growth_gap.g T.growth_gap.F.kp (b_growth_gap T) .nil pass0 (pa_cons (pv 2) (pa_cons (pe_tup (pa_cons pe_int (pa_cons pe_int pa_nil))) pa_nil))) pe_int (nomark _)) (pe_and (pe_cmpR op_eq (pe_call (ok_growth_gap T B) (hr.mono (by decide)) rfl T.growth_gap.g T.growth_gap.F.kp (b_growth_gap T) .nil pass0 (pa_cons (pv 2) (pa_cons (pe_tup (pa_cons pe_int (pa_cons pe_int pa_nil))) pa_nil))) pe_int (nomark _)) (pe_one (pe_cmpR op_isN (pe_call (ok_growth_gap T B) (hr.mono (by decide)) rfl T.growth_gap.g T.growth_gap.F.kp (b_growth_gap T) .nil pass0 (pa_cons (pv 2) (pa_cons (pe_tup (pa_cons pe_int (pa_cons pe_int pa_nil))) pa_nil))) pe_non (nomark _))))))))))), ?_⟩
    walk_at "rd"
    refine ⟨(show 4 ≤ sizeLine by decide), fun r hrn => ?_⟩
    have s0 := same_upd (o := .lst [.ref sa, .int 0, .int 4157, .int 0]) hrn
    have row0 : RowAt K (upd H r (.lst [.ref sa, .int 0, .int 4157, .int 0])) r sa ns := by
      refine .of (ns := ns) rfl ?_ (by decide) (by decide) (by decide) (by decide)
      rcases hS with hS | hS
      · refine .inl ⟨hS, ?_⟩
        rcases hS with h | ⟨u, h⟩ <;> exact ne_of_none h hrn
      · exact .inr hS
    have ts0 := hT.same s0
    generalize upd H r (.lst [.ref sa, .int 0, .int 4157, .int 0]) = Hs at *
    walk_at "rd"
    refine ⟨r, sa, ns, 3, rfl, row0, by decide, by decide, fun c H1 c0 c1 row1 b1 => ?_⟩
    have K1 : LK t K r sa ns Hs H1 := LK.rk row0 ts0 (.draw row1 b1)
    obtain ⟨c, rfl⟩ := Int.eq_ofNat_of_zero_le c0
    obtain ⟨many, hmany⟩ : ∃ n, n = c + 1 := ⟨_, rfl⟩
    walk_at "rd"
    dsimp only
    rw [show (1 : Int) + (c : Int) = ((many : Nat) : Int) by omega]
    have hm1 : 1 ≤ many := by omega
    have hm3 : many ≤ 3 := by omega
    clear hmany c0 c1
    have hstart := ok_start hm1 hm3
    have ht5 : turns many ≤ 5 := by
      rcases (show many = 1 ∨ many = 2 ∨ many = 3 by omega) with e | e | e <;> subst e <;> decide
    walk_at "rd"
    refine ⟨(show 1 ≤ sizeLine by decide), fun av nav => ?_⟩
    have s2 := same_upd (o := .tup [V.int 1]) nav
    have K2 := K1.trans (LK.same K1.row K1.ts s2)
    have eav : (upd H1 av (.tup [V.int 1])) av = some (.tup (nsV [1])) := upd_same
    generalize upd H1 av (.tup [V.int 1]) = H2 at *
    walk_at "rd"
    refine ⟨(show 3 ≤ sizeLine by decide), fun pl npl => ?_⟩
    have s3 := same_upd (o := .lst [V.int 6, V.int 5, V.int 3]) npl
    have K3 := K2.trans (LK.same K2.row K2.ts s3)
    have epl : (upd H2 pl (.lst [V.int 6, V.int 5, V.int 3])) pl = some (.lst [V.int 6, V.int 5, V.int 3]) := upd_same
    have eav3 := s3 _ _ eav
    generalize upd H2 pl (.lst [V.int 6, V.int 5, V.int 3]) = H3 at *
    walk_at "rd"
    have htn : [V.int 6, V.int 5, V.int 3][many - 1]? = some (V.int ((turns many : Nat) + 1)) := by
      rcases (show many = 1 ∨ many = 2 ∨ many = 3 by omega) with e | e | e <;> subst e <;> rfl
    refine ⟨_, _, _, _, rfl, rfl, .inl (.inl epl), at_of (show (many : Int) - 1 = ((many - 1 : Nat) : Int) by omega) htn, ?_⟩
    walk_at "rd"
    show ∃ (r' sa' : Addr) (ns' : List Int) (m : Int), [V.ref r, V.int ((turns many : Nat) + 1)] = [.ref r', .int m] ∧ _
    refine ⟨r, sa, ns, _, rfl, K3.row, by omega, by omega, fun v H4 v0 v1 row4 b4 => ?_⟩
    have K4 := K3.trans (LK.rk K3.row K3.ts (.draw row4 b4))
    have T4 : SqT K H4 av (nsV [1]) := ((LK.rk K3.row K3.ts (.draw row4 b4)).tp K3.row).sqt (.inl (.inl eav3))
    obtain ⟨v, rfl⟩ := Int.eq_ofNat_of_zero_le v0
    walk_at "rd"
    refine ⟨by omega, by omega, ?_⟩
    rw [Int.toNat_natCast]
    refine for_it (walk_range (lo := 0) (n := v)) (fun i σ H' => ∃ (vs : List Nat) (aw : Addr) (y4 y5 y6 y8 : Option V), σ = [some (.ref sa), some (.ref r), some (.int many), some (.ref aw), y4, y5, y6, none, y8] ∧ LK t K r sa ns Hs H' ∧ SqT K H' aw (nsV vs) ∧ okS (turns many - i) many vs = true ∧ vs.length = i + 1 ∧ ∀ n ∈ vs, n ≤ 9) ⟨[1], av, none, none, none, none, rfl, K4, T4, hstart, rfl, fun n hn => by rw [List.mem_singleton.mp hn]; decide⟩ (fun i σ H' _ q => trivial) (fun i x σ H5 H6 hi q y => ?_) (fun σ H5 q => ?_)
    · obtain ⟨vs, aw, y4, y5, y6, y8, rfl, K5, T5, hok, hvl, hv9⟩ := q
      obtain ⟨rfl, rfl⟩ := y
      obtain ⟨f, hf⟩ : ∃ f, turns many - i = f + 1 := ⟨turns many - i - 1, by omega⟩
      rw [hf] at hok
      obtain ⟨m, hm, hm8, hg1, hg2, hgv⟩ := okS_succ hok
      walk_at "rd"
      refine ⟨many, aw, vs, rfl, T5, hm1, hm3, by omega, by omega, _, hm, fun H7 s7 => ?_⟩
      have K7 := K5.trans (LK.same K5.row K5.ts s7)
      have T7 := Toy.Same.tup s7 T5
      walk_at "rd"
      refine ⟨(show 1 ≤ sizeLine by decide), fun q1 nq1 => ?_⟩
      have s8 := same_upd (o := .tup [V.int (m : Int)]) nq1
      have K8 := K7.trans (LK.same K7.row K7.ts s8)
      have hnvl : (nsV vs).length = vs.length := List.length_map ..
      have hline : 1000 ≤ sizeLine := by decide
      refine catA (Toy.Same.tup s8 T7) (.inl (.inl upd_same)) (by rw [hnvl]; simp; omega) fun p1 H9 s9 t9 => ?_
      have K9 := K8.trans (LK.same K8.row K8.ts s9)
      have T9 := Toy.Same.tup (Same.trans s8 s9) T7
      rw [← nsV_snoc] at t9
      walk_at "rd"
      have hb9 : ∀ v, v ≤ 9 → ∀ n ∈ vs ++ [v], n ≤ 12 := fun v hv n hn => by
        rcases List.mem_append.mp hn with e | e
        · have := hv9 n e; omega
        · rw [List.mem_singleton.mp e]; omega
      have hl9 : ∀ v : Nat, (vs ++ [v]).length = i + 2 := fun v => by rw [List.length_append, hvl]; rfl
      refine ⟨many, p1, vs ++ [m], rfl, t9, hm1, by omega, by rw [hl9]; omega, by rw [hl9]; omega, hb9 m (by omega), K9.ts, fun H10 x10 => ?_⟩
      rw [hg1]
      have K10 := K9.trans (LK.ex K9.row x10)
      have T10 := ((LK.ex K9.row x10).tp K9.row).sqt T9
      walk_at "rd"
      refine ⟨(show 1 ≤ sizeLine by decide), fun q2 nq2 => ?_⟩
      have s11 := same_upd (o := .tup [V.int ((m : Int) + 1)]) nq2
      have K11 := K10.trans (LK.same K10.row K10.ts s11)
      refine catA (Toy.Same.tup s11 T10) (.inl (.inl upd_same)) (by rw [hnvl]; simp; omega) fun p2 H12 s12 t12 => ?_
      have K12 := K11.trans (LK.same K11.row K11.ts s12)
      have T12 := Toy.Same.tup (Same.trans s11 s12) T10
      have t12 : SqT K H12 p2 (nsV (vs ++ [m + 1])) := by rw [nsV_snoc]; exact t12
      walk_at "rd"
      refine ⟨many, p2, vs ++ [m + 1], rfl, t12, hm1, by omega, by rw [hl9]; omega, by rw [hl9]; omega, hb9 (m + 1) (by omega), K12.ts, fun H13 x13 => ?_⟩
      rw [hg2]
      have K13 := K12.trans (LK.ex K12.row x13)
      have T13 := ((LK.ex K12.row x13).tp K12.row).sqt T12
      walk_at "rd"
      refine ⟨aw, _, rfl, .inr T13, ?_⟩
      rw [hnvl]
      walk_at "rd"
      refine ⟨.int _ _ _, fun H14 s14 => ?_⟩
      have K14 := K13.trans (LK.same K13.row K13.ts s14)
      have T14 := Toy.Same.tup s14 T13
      walk_at "rd"
      refine ⟨r, sa, ns, (m : Int) + 1, rfl, K14.row, by omega, by omega, fun v' H15 v0 v1 row15 b15 => ?_⟩
      have K15 := K14.trans (LK.rk K14.row K14.ts (.draw row15 b15))
      have T15 := ((LK.rk K14.row K14.ts (.draw row15 b15)).tp K14.row).sqt T14
      obtain ⟨v', rfl⟩ := Int.eq_ofNat_of_zero_le v0
      obtain ⟨g1, g2, g3⟩ := hgv v' (by omega)
      walk_at "rd"
      refine ⟨(show 1 ≤ sizeLine by decide), fun q3 nq3 => ?_⟩
      have s16 := same_upd (o := .tup [V.int (v' : Int)]) nq3
      have K16 := K15.trans (LK.same K15.row K15.ts s16)
      refine catA (Toy.Same.tup s16 T15) (.inl (.inl upd_same)) (by rw [hnvl]; simp; omega) fun p3 H17 s17 t17 => ?_
      have K17 := K16.trans (LK.same K16.row K16.ts s17)
      rw [← nsV_snoc] at t17
      walk_at "rd"
      refine ⟨many, p3, vs ++ [v'], rfl, t17, hm1, by omega, by rw [hl9]; omega, by rw [hl9]; omega, hb9 v' (by omega), K17.ts, fun H18 x18 => ?_⟩
      rw [g1]
      have K18 := K17.trans (LK.ex K17.row x18)
      have T18 := ((LK.ex K17.row x18).tp K17.row).sqt t17
      walk_at "rd"
      refine ⟨by omega, by omega, fun D hD => ?_⟩
      refine lc_range (lo := 0) (n := 2) (MapRow K r sa ns H18 D fun _ y => ∃ w : Nat, y = .int w ∧ w < 3) (mapRow_0 K18.row hD) (fun j H19 hj hP => ?_) (fun H19 hP => ?_)
      · have hr1 : RowAt K H19 r sa ns := by obtain ⟨_, q, _⟩ := hP; exact q.row
        walk_at "rd"
        refine ⟨r, sa, ns, 3, rfl, hr1, by omega, by omega, fun v H20 v0 v1 row20 b20 => ?_⟩
        obtain ⟨v, rfl⟩ := Int.eq_ofNat_of_zero_le v0
        exact mapRow_step hP K18.row hD (by rw [sizeLine_eq]; omega) (.draw row20 b20) ⟨v, rfl, by omega⟩
      · obtain ⟨ys, q1, e1, n1, r1⟩ := hP
        obtain ⟨a, b, ha, hb, rfl⟩ : ∃ a b : Nat, a < 3 ∧ b < 3 ∧ ys = nsV [a, b] := by
          match ys, n1 with
          | [x, y], _ =>
            obtain ⟨a, rfl, ha⟩ := r1 0 x rfl
            obtain ⟨b, rfl, hb⟩ := r1 1 y rfl
            exact ⟨a, b, ha, hb, rfl⟩
        have K19 := K18.trans (LK.rk K18.row K18.ts q1)
        have T19 := (LK.tp K18.row (LK.rk K18.row K18.ts q1)).sqt T18
        walk_at "rd"
        dsimp only [tNil]
        refine ⟨D, _, rfl, .inl ⟨.inl (.inl e1), fun l hl => ?_⟩⟩
        have s20 := same_upd (o := .tup (nsV [a, b])) hl
        have K20 := K19.trans (LK.same K19.row K19.ts s20)
        refine catA (Toy.Same.tup s20 T19) (.inl (.inl upd_same)) (by rw [show (nsV (vs ++ [v'])).length = (vs ++ [v']).length from List.length_map .., hl9]; show _ + 2 ≤ _; omega) fun p4 H21 s21 t21 => ?_
        have K21 := K20.trans (LK.same K20.row K20.ts s21)
        have T21 := Toy.Same.tup (Same.trans s20 s21) T19
        have t21 : SqT K H21 p4 (nsV (vs ++ [v'] ++ [a, b])) := by
          unfold nsV at t21 ⊢
          rw [List.map_append (l₁ := vs ++ [v'])]
          exact t21
        walk_at "rd"
        refine ⟨many, p4, vs ++ [v'] ++ [a, b], rfl, t21, hm1, by omega, by rw [List.length_append, hl9]; omega, by rw [List.length_append, hl9]; show _ + 2 ≤ 9; omega, fun n hn => ?_, K21.ts, fun H22 x22 => ?_⟩
        · rcases List.mem_append.mp hn with e | e
          · exact hb9 v' (by omega) n e
          · rcases List.mem_cons.mp e with e | e
            · omega
            · rw [List.mem_singleton.mp e]; omega
        have K22 := K21.trans (LK.ex K21.row x22)
        have T22 := ((LK.ex K21.row x22).tp K21.row).sqt T21
        have hfin : ∀ x : V, ∃ (vs : List Nat) (aw : Addr) (y4 y5 y6 y8 : Option V), ([some (V.ref sa), some (V.ref r), some (V.int many), some (V.ref p3), some (V.int (0 + (i : Nat))), some (V.int m), some (V.ref p4), none, some x] : List (Option V)) = [some (.ref sa), some (.ref r), some (.int many), some (.ref aw), y4, y5, y6, none, y8] ∧ LK t K r sa ns Hs H22 ∧ SqT K H22 aw (nsV vs) ∧ okS (turns many - (i + 1)) many vs = true ∧ vs.length = i + 1 + 1 ∧ ∀ n ∈ vs, n ≤ 9 := fun x => by
          refine ⟨vs ++ [v'], p3, _, _, _, _, rfl, K22, T22, ?_, hl9 v', fun n hn => ?_⟩
          · rw [show turns many - (i + 1) = f by omega]
            exact g3
          · rcases List.mem_append.mp hn with e | e
            · exact hv9 n e
            · rw [List.mem_singleton.mp e]; omega
        cases hg : gapL many (vs ++ [v'] ++ [a, b]) with
        | none =>
          walk_at "rd"
          exact hfin _
        | some g =>
          have hge := g2 a b g ha hb hg
          walk_at "rd"
          dsimp only [tNil]
          refine ⟨p3, _, rfl, .inr T22, ?_⟩
          walk_at "rd"
          rw [show (nsV (vs ++ [v'])).length = (vs ++ [v']).length from List.length_map .., hl9]
          refine iteD (fun hlt => ?_) (fun _ => ?_)
          · omega
          · walk_at "rd"
            exact hfin _
    · obtain ⟨vs, aw, y4, y5, y6, y8, rfl, K5, T5, hok, hvl, hv9⟩ := q
      obtain ⟨n1, n2, n3⟩ := ends_ok hm1 hm3
      walk_at "rd"
      refine ⟨(show 2 ≤ sizeLine by decide), fun q1 nq1 => ?_⟩
      have s6 := same_upd (o := .tup [V.int 2, V.int 0]) nq1
      have K6 := K5.trans (LK.same K5.row K5.ts s6)
      walk_at "rd"
      refine ⟨many, q1, [2, 0], rfl, .inl (.inl upd_same), hm1, by omega, by decide, by decide, by decide, K6.ts, fun H7 x7 => ?_⟩
      have K7 := K6.trans (LK.ex K6.row x7)
      rw [n1]
      walk_at "rd"
      refine ⟨(show 2 ≤ sizeLine by decide), fun q2 nq2 => ?_⟩
      have s8 := same_upd (o := .tup [V.int 0, V.int 1]) nq2
      have K8 := K7.trans (LK.same K7.row K7.ts s8)
      walk_at "rd"
      refine ⟨many, q2, [0, 1], rfl, .inl (.inl upd_same), hm1, by omega, by decide, by decide, by decide, K8.ts, fun H9 x9 => ?_⟩
      have K9 := K8.trans (LK.ex K8.row x9)
      rw [n2]
      walk_at "rd"
      refine ⟨(show 2 ≤ sizeLine by decide), fun q3 nq3 => ?_⟩
      have s10 := same_upd (o := .tup [V.int 0, V.int 0]) nq3
      have K10 := K9.trans (LK.same K9.row K9.ts s10)
      walk_at "rd"
      refine ⟨many, q3, [0, 0], rfl, .inl (.inl upd_same), hm1, by omega, by decide, by decide, by decide, K10.ts, fun H11 x11 => ?_⟩
      rw [n3]
      walk_at "rd"
      exact k _
end

/-! ### the end -/
section
open PySem.Spec PyProof.Rows LamX
/-- as the layer's end with tables; handed on besides: the whole top -/
theorem walk_top {l : PySem.W.OpenLaw} {n k : Nat} {q : Program} {loose : List Str} {XP : (Str → Option Value) → Heap → Prop} {YP : World → Heap → Prop} {d : DefRec} {K : Params → PySem.W.Frag} {CX : World → CXT} {x : Str}
    (hn : l.most = some n) (hn2 : n ≤ sizeLine) (hdf : d.params.defaults = []) (hr : Room k callerA) (hY : ∀ (w : World) (h : Heap), YP w h → (K w.params).In h)
    (F : ∀ (w : World) (s₀ : Shared) (mg mb : Str → Option Value) (fa : Addr) (h : Heap), PySem.W.Ground q loose [] XP w s₀ mg mb h → (K w.params).In h → h.Ns mainGlobals mg → mg d.name = some (.ref fa) → LawAtS l w (K w.params) (CX w) k n x mg fa h)
    (hCX : ∀ (w : World) (H : Hp) (s : Shared) (e : Value) (s' : Shared), CX w [] H s (fun _ _ _ => False) e s' → False) :
    PySem.W.WalkO q loose XP YP l.row.toRowW d [] (fun f vs => PySem.call f vs) := by
  refine Att.attach_callB hn hdf fun w s₀ s₁ mg mb fa o pm cd doc a vs ns G Y ho hd hcd hmg hobj hints hlen hbits hg => ?_
  have KX := hY w _ Y
  obtain ⟨fd, cs, sp, hT, nT, C, hb, hsp, hF⟩ := F w s₀ mg mb fa _ G KX G.T.g hmg
  exact law_callTs KX G.T.g G.T.b G.T.builtins G.T.nolimit hg hT nT C G.T.bmain hobj hints (Nat.le_trans hlen hn2) hr hF hb (fun H hH hS => hsp H a ns hlen hbits hH hS) fun H e s' => hCX w H s₁ e s'
/-- the code object and its table of a def, by the written part -/
theorem tab_in {K : PySem.W.Frag} {x : Str} {f c P : Addr} {oc e : Value} {od dd : Option Addr} {fd : FuncData} {vs : Array Value} {s1 s2 : Array (Option Value)} (a : PySem.W.nsIn K mainGlobals x = some (some (.ref f))) (l : K.lookup f = some ⟨oc, od, .func fd, s1⟩) (hc : fd.code = .ref c)
    (lc : K.lookup c = some ⟨e, dd, .fields vs, s2⟩) (hv : vs[11]? = some (.ref P)) : PySem.W.tabIn K x = some (c, P) := by
  unfold PySem.W.tabIn
  rw [a]
  simp only [l, hc, lc, hv]
/-- a whole number of the top that the head does not write out -/
theorem loose_int {q : Program} {lv : List (Str × PySem.W.WData)} {mg : Str → Option Value} {h : Heap} {x : Str} {i : Int} (X : PySem.W.XL q lv mg h) (hm : (x, PySem.W.WData.int i) ∈ lv) : ∃ t, mg x = some (.int i t) := by
  obtain ⟨v, a, r⟩ := X.2.val _ hm
  cases r
  exact ⟨_, a⟩
end

section
open PyProof.Rows
theorem code_of {K : PySem.W.Frag} {mg : Str → Option Value} {h : Heap} {x : Str} {st : Stmt} {c P : Addr} (D : DefAt K mg x st) (X : K.In h) (G : h.Ns mainGlobals mg) (ht : PySem.W.tabIn K x = some (c, P)) : D.fd.code = .ref c := by
  obtain ⟨oc, od, kV, doc, pm, an, cdv, ct, osl, e, lk, hcd⟩ := D.F.ex
  exact PySem.W.law_code X G ht D.g (X _ _ lk) rfl
theorem mem_n {α : Type} {p : α → Prop} : ∀ x ∈ ([] : List α), p x := fun _ h => by cases h
theorem mem_c {α : Type} {p : α → Prop} {a : α} {l : List α} (ha : p a) (hl : ∀ x ∈ l, p x) : ∀ x ∈ a :: l, p x := fun x hx => by
  rcases List.mem_cons.mp hx with rfl | h
  · exact ha
  · exact hl x h
theorem gx_of {base : Heap} {mg : Str → Option Value} {c P : Addr} (h : LamX.TabB base mg c P) : GxR.TabB base mg c P := ⟨h.code, h.bm, h.gP⟩
/-- addresses told by names -/
def nmA (l : List (Str × Addr)) (x : Str) : Addr := (l.lookup x).getD 0
theorem law_at {l : PySem.W.OpenLaw} {w : World} {K : PySem.W.Frag} {mg mb : Str → Option Value} {q : Program} {loose : List Str} {mean : ExcName → Option Value} {fa : Addr} {c : Str → Addr} {t : TabsAt} {h : Heap} { d1 : DefRec} (TT : PyProof.Rows.Top q loose mean mg mb h) (X : K.In h) (G : h.Ns mainGlobals mg) (hfa : mg "law" = some (.ref fa))
    (r1 : (PyProof.Rows.recsOf q).find? (fun e => e.name == ("is_row_of_integers" : Str)) = some d1)
    (t1 : PySem.W.tabIn K "is_row_of_integers" = some (c "is_row_of_integers", t.a "is_row_of_integers"))
    (n1 : K.lookup (t.a "is_row_of_integers") = none) (T : Txt K mg) : LamX.LawAtS l w K CX0 22 63 "script" mg fa h := by
  obtain ⟨C1, p1⟩ := PySem.W.tab_of TT X r1 t1
  have e := hfa.symm.trans T.law.g
  cases e
  refine ⟨T.law.fd, [(c "is_row_of_integers", t.a "is_row_of_integers")], sp_law t K, (mem_c p1 mem_n), (mem_c n1 mem_n), (mem_c C1 mem_n), fun s u => ?_, fun H a ns hl hbits hT hS => ?_, fun base hb hn hT => ok_law T (t := t) { c := c, h_is_row_of_integers := code_of T.is_row_of_integers X G t1, b_is_row_of_integers := gx_of (hT (c "is_row_of_integers", t.a "is_row_of_integers") (by simp)) }⟩
  · obtain ⟨oc, od, kV, doc, pm, an, cdv, ct, osl, e, lk, hcd⟩ := T.law.F.ex
    rw [e]
    exact .of_eq rfl
  · refine ⟨a, ns, rfl, hS, ⟨fun x hx => ?_, fun x hx => ?_⟩, fun _ => rfl⟩
    · revert x
      exact (mem_c ⟨_, hT (c "is_row_of_integers", t.a "is_row_of_integers") (by simp), True.intro⟩ mem_n)
    · revert x
      exact  mem_n
theorem tup_written {K : PySem.W.Frag} {a : Addr} {xs : List Int} {dd : Option Addr} {its : Array Value} {n : Nat} {sl : Array (Option Value)} (l : K.lookup a = some ⟨.type "tuple", dd, .seq its n, sl⟩) (hz : its.size ≤ sizeLine) (hv : Vals (xs.map V.int) its.toList) : ∀ H, SqT K H a (xs.map V.int) := fun _ => .inr ⟨_, its, n, l, rfl, rfl, hz, hv⟩
/-- as the end asks it: names, addresses -/
theorem fin {l : PySem.W.OpenLaw} {w : World} {K : PySem.W.Frag} {mg mb : Str → Option Value} {q : Program} {loose : List Str} {mean : ExcName → Option Value} {fa c1 p1: Addr} {h : Heap} { d1 : DefRec} { t_MOST_VALUES t_MOST_VALUE t_MOST_MANY : Tok}
    (TT : PyProof.Rows.Top q loose mean mg mb h) (X : K.In h) (G : h.Ns mainGlobals mg) (hfa : mg "law" = some (.ref fa))
    (r1 : (PyProof.Rows.recsOf q).find? (fun e => e.name == ("is_row_of_integers" : Str)) = some d1)
    (t1 : PySem.W.tabIn K "is_row_of_integers" = some (c1, p1))
    (n1 : K.lookup p1 = none)
    (ne : ∀ x ∈ gensL ++ lamsL, ∀ y ∈ gensL ++ lamsL, x ≠ y → nmA [("is_row_of_integers", p1)] x ≠ nmA [("is_row_of_integers", p1)] y)
    (is_integer : DefAt K mg "is_integer" s_is_integer)
    (is_integer_in : DefAt K mg "is_integer_in" s_is_integer_in)
    (is_tuple_of : DefAt K mg "is_tuple_of" s_is_tuple_of)
    (is_tuple_up_to : DefAt K mg "is_tuple_up_to" s_is_tuple_up_to)
    (is_row_of_integers : DefAt K mg "is_row_of_integers" s_is_row_of_integers)
    (check_integer_in : DefAt K mg "check_integer_in" s_check_integer_in)
    (check_values : DefAt K mg "check_values" s_check_values)
    (upper_numbers : DefAt K mg "upper_numbers" s_upper_numbers)
    (greatest_top : DefAt K mg "greatest_top" s_greatest_top)
    (raised_sum : DefAt K mg "raised_sum" s_raised_sum)
    (first_gap : DefAt K mg "first_gap" s_first_gap)
    (growth_gap : DefAt K mg "growth_gap" s_growth_gap)
    (law_taken : DefAt K mg "_law_taken" s_law_taken)
    (law_monos : DefAt K mg "_law_monos" s_law_monos)
    (law_next : DefAt K mg "_law_next" s_law_next)
    (law_most : DefAt K mg "_law_most" s_law_most)
    (law_alike : DefAt K mg "_law_alike" s_law_alike)
    (law : DefAt K mg "law" s_law)
    (z_len : PySem.W.nsIn K mainGlobals "len" = some none) (z_isinstance : PySem.W.nsIn K mainGlobals "isinstance" = some none) (z_int : PySem.W.nsIn K mainGlobals "int" = some none) (z_bool : PySem.W.nsIn K mainGlobals "bool" = some none) (z_str : PySem.W.nsIn K mainGlobals "str" = some none) (z_tuple : PySem.W.nsIn K mainGlobals "tuple" = some none) (z_list : PySem.W.nsIn K mainGlobals "list" = some none) (z_range : PySem.W.nsIn K mainGlobals "range" = some none) (z_sum : PySem.W.nsIn K mainGlobals "sum" = some none) (z_max : PySem.W.nsIn K mainGlobals "max" = some none) (z_all : PySem.W.nsIn K mainGlobals "all" = some none) (z_sorted : PySem.W.nsIn K mainGlobals "sorted" = some none) (z_enumerate : PySem.W.nsIn K mainGlobals "enumerate" = some none) (z_set : PySem.W.nsIn K mainGlobals "set" = some none)
    (g_MOST_VALUES : mg "MOST_VALUES" = some (.int 13 t_MOST_VALUES)) (g_MOST_VALUE : mg "MOST_VALUE" = some (.int 1000000 t_MOST_VALUE)) (g_MOST_MANY : mg "MOST_MANY" = some (.int 6 t_MOST_MANY)) (yG : PySem.W.nsIn K mainGlobals "comb" = some (some (.builtin "math.comb"))) : LamX.LawAtS l w K CX0 22 63 "script" mg fa h :=
  law_at (c := nmA [("is_row_of_integers", c1)]) (t := ⟨nmA [("is_row_of_integers", p1)], ne⟩) TT X G hfa r1 t1 n1
    { is_integer := is_integer, is_integer_in := is_integer_in, is_tuple_of := is_tuple_of, is_tuple_up_to := is_tuple_up_to, is_row_of_integers := is_row_of_integers, check_integer_in := check_integer_in, check_values := check_values, upper_numbers := upper_numbers, greatest_top := greatest_top, raised_sum := raised_sum, first_gap := first_gap, growth_gap := growth_gap, law_taken := law_taken, law_monos := law_monos, law_next := law_next, law_most := law_most, law_alike := law_alike, law := law, n_len := PySem.W.mg_none_of X G z_len, n_isinstance := PySem.W.mg_none_of X G z_isinstance, n_int := PySem.W.mg_none_of X G z_int, n_bool := PySem.W.mg_none_of X G z_bool, n_str := PySem.W.mg_none_of X G z_str, n_tuple := PySem.W.mg_none_of X G z_tuple, n_list := PySem.W.mg_none_of X G z_list, n_range := PySem.W.mg_none_of X G z_range, n_sum := PySem.W.mg_none_of X G z_sum, n_max := PySem.W.mg_none_of X G z_max, n_all := PySem.W.mg_none_of X G z_all, n_sorted := PySem.W.mg_none_of X G z_sorted, n_enumerate := PySem.W.mg_none_of X G z_enumerate, n_set := PySem.W.mg_none_of X G z_set, t_MOST_VALUES := t_MOST_VALUES, g_MOST_VALUES := g_MOST_VALUES, t_MOST_VALUE := t_MOST_VALUE, g_MOST_VALUE := g_MOST_VALUE, t_MOST_MANY := t_MOST_MANY, g_MOST_MANY := g_MOST_MANY, g_comb := PySem.W.mg_of X G yG }
end

end Toy
open PySem PySem.W PyProof.Rows
set_option maxRecDepth 100000 in
set_option maxHeartbeats 0 in
theorem PySem.Challenge.cw_idealcore_k57_whole_values_of_ideals_holds : PySem.Challenge.rw_idealcore_k57_whole_values_of_ideals.Holds := by
  w_on; o_law; k_head; (case hw => w_witness2)
  k_fill
  refine Toy.walk_top (l := PySem.Challenge.rw_idealcore_k57_whole_values_of_ideals) (n := 63) (k := 22) (x := "script") (CX := fun _ => L2.CX0) rfl (by decide) rfl ⟨rfl, by decide, by decide⟩ (fun w h Y => PySem.W.kIn_of Y) ?F (fun _ _ _ _ _ z => z)
  case F =>
    intro w s0 mg mb fa h GG KX G hmg
    skip
    refine' Toy.fin GG.T KX G hmg ?hr1 (Toy.tab_in ?ta1 ?tb1 ?tc1 ?td1 ?te1) ?n1 ?ne
      (Toy.defI KX G ?a_is_integer ?l_is_integer ?c_is_integer ?k_is_integer)
      (Toy.defI KX G ?a_is_integer_in ?l_is_integer_in ?c_is_integer_in ?k_is_integer_in)
      (Toy.defI KX G ?a_is_tuple_of ?l_is_tuple_of ?c_is_tuple_of ?k_is_tuple_of)
      (Toy.defI KX G ?a_is_tuple_up_to ?l_is_tuple_up_to ?c_is_tuple_up_to ?k_is_tuple_up_to)
      (Toy.defI KX G ?a_is_row_of_integers ?l_is_row_of_integers ?c_is_row_of_integers ?k_is_row_of_integers)
      (Toy.defI KX G ?a_check_integer_in ?l_check_integer_in ?c_check_integer_in ?k_check_integer_in)
      (Toy.defI KX G ?a_check_values ?l_check_values ?c_check_values ?k_check_values)
      (Toy.defI KX G ?a_upper_numbers ?l_upper_numbers ?c_upper_numbers ?k_upper_numbers)
      (Toy.defI KX G ?a_greatest_top ?l_greatest_top ?c_greatest_top ?k_greatest_top)
      (Toy.defI KX G ?a_raised_sum ?l_raised_sum ?c_raised_sum ?k_raised_sum)
      (Toy.defI KX G ?a_first_gap ?l_first_gap ?c_first_gap ?k_first_gap)
      (Toy.defI KX G ?a_growth_gap ?l_growth_gap ?c_growth_gap ?k_growth_gap)
      (Toy.defI KX G ?a_law_taken ?l_law_taken ?c_law_taken ?k_law_taken)
      (Toy.defI KX G ?a_law_monos ?l_law_monos ?c_law_monos ?k_law_monos)
      (Toy.defI KX G ?a_law_next ?l_law_next ?c_law_next ?k_law_next)
      (Toy.defI KX G ?a_law_most ?l_law_most ?c_law_most ?k_law_most)
      (Toy.defI KX G ?a_law_alike ?l_law_alike ?c_law_alike ?k_law_alike)
      (Toy.defI KX G ?a_law ?l_law ?c_law ?k_law)
      ?z_len ?z_isinstance ?z_int ?z_bool ?z_str ?z_tuple ?z_list ?z_range ?z_sum ?z_max ?z_all ?z_sorted ?z_enumerate ?z_set (PySem.W.mg_of KX G ?g_MOST_VALUES) (PySem.W.mg_of KX G ?g_MOST_VALUE) (PySem.W.mg_of KX G ?g_MOST_MANY) ?yG
    (case z_len => k_is); (case z_isinstance => k_is); (case z_int => k_is); (case z_bool => k_is); (case z_str => k_is); (case z_tuple => k_is); (case z_list => k_is); (case z_range => k_is); (case z_sum => k_is); (case z_max => k_is); (case z_all => k_is); (case z_sorted => k_is); (case z_enumerate => k_is); (case z_set => k_is)
    (case a_is_integer => k_is); (case l_is_integer => k_is); (case c_is_integer => k_is); (case k_is_integer => k_is)
    (case a_is_integer_in => k_is); (case l_is_integer_in => k_is); (case c_is_integer_in => k_is); (case k_is_integer_in => k_is)
    (case a_is_tuple_of => k_is); (case l_is_tuple_of => k_is); (case c_is_tuple_of => k_is); (case k_is_tuple_of => k_is)
    (case a_is_tuple_up_to => k_is); (case l_is_tuple_up_to => k_is); (case c_is_tuple_up_to => k_is); (case k_is_tuple_up_to => k_is)
    (case a_is_row_of_integers => k_is); (case l_is_row_of_integers => k_is); (case c_is_row_of_integers => k_is); (case k_is_row_of_integers => k_is)
    (case a_check_integer_in => k_is); (case l_check_integer_in => k_is); (case c_check_integer_in => k_is); (case k_check_integer_in => k_is)
    (case a_check_values => k_is); (case l_check_values => k_is); (case c_check_values => k_is); (case k_check_values => k_is)
    (case a_upper_numbers => k_is); (case l_upper_numbers => k_is); (case c_upper_numbers => k_is); (case k_upper_numbers => k_is)
    (case a_greatest_top => k_is); (case l_greatest_top => k_is); (case c_greatest_top => k_is); (case k_greatest_top => k_is)
    (case a_raised_sum => k_is); (case l_raised_sum => k_is); (case c_raised_sum => k_is); (case k_raised_sum => k_is)
    (case a_first_gap => k_is); (case l_first_gap => k_is); (case c_first_gap => k_is); (case k_first_gap => k_is)
    (case a_growth_gap => k_is); (case l_growth_gap => k_is); (case c_growth_gap => k_is); (case k_growth_gap => k_is)
    (case a_law_taken => k_is); (case l_law_taken => k_is); (case c_law_taken => k_is); (case k_law_taken => k_is)
    (case a_law_monos => k_is); (case l_law_monos => k_is); (case c_law_monos => k_is); (case k_law_monos => k_is)
    (case a_law_next => k_is); (case l_law_next => k_is); (case c_law_next => k_is); (case k_law_next => k_is)
    (case a_law_most => k_is); (case l_law_most => k_is); (case c_law_most => k_is); (case k_law_most => k_is)
    (case a_law_alike => k_is); (case l_law_alike => k_is); (case c_law_alike => k_is); (case k_law_alike => k_is)
    (case a_law => k_is); (case l_law => k_is); (case c_law => k_is); (case k_law => k_is)
    (case hr1 => rfl)
    (case ta1 => k_is); (case tb1 => k_is); (case tc1 => rfl); (case td1 => k_is); (case te1 => rfl)
    (case n1 => kernel_rfl)
    (case ne => decide)
    (case g_MOST_VALUES => k_is); (case g_MOST_VALUE => k_is); (case g_MOST_MANY => k_is)
    (case yG => k_is)
#print axioms PySem.Challenge.cw_idealcore_k57_whole_values_of_ideals_holds
namespace Toy


end Toy
