import PyProof.Rows.All
import Wide.All
import OpenK.AllK
import Wide.FinOn
import HandS.ForMost
import HandS.ForExc
import HandS.IsInst
import HandS.Wide
import HandS.WideBits
import HandS.Nested
import HandS.EndTab
import HandS.EndOwn
import HandS.LawCells
import HandS.Iter
import HandS.Walk
import HandS.TupMul
import HandS.SortKw
import HandS.Gcd
import KE.KMathGC
import KE.KTupSum
import KE.DataCmp
import KE.SortData
import PySem.Challenge.RW_idealcore_k56_expansions_and_growth

set_option Elab.async false
set_option linter.all false
set_option maxRecDepth 100000
set_option maxHeartbeats 4000000
namespace Toy
open PySem L2
/-! ### the text by places -/
def topS (i : Nat) : Stmt := PySem.Challenge.pw_idealcore_k56_expansions_and_growth.main.body.getD i (.Pass ⟨0, 0, 0, 0⟩)
/-! ### what a def of the top is -/
structure DefAt (K : PySem.W.Frag) (mg : Str → Option Value) (x : Str) (st : Stmt) where
  f : Addr
  fd : FuncData
  F : Fun K x x st f fd
  g : mg x = some (.ref f)
noncomputable def defI {K : PySem.W.Frag} {h : Heap} {mg : Str → Option Value} (X : K.In h) (G : h.Ns mainGlobals mg) {x : Str} {st : Stmt} {f : Addr} {oc : Value} {od an : Option Addr} {osl : Array (Option Value)} {kV doc pm cdv ct : Value}
    (a : PySem.W.nsIn K mainGlobals x = some (some (.ref f))) (l : K.lookup f = some ⟨oc, od, .func (PySem.W.fnOf x x (defArgs st) (defBody st) (defScope st) .none kV doc pm an cdv ct), osl⟩)
    (c : PySem.W.codeIn K cdv x = true) (k : PySem.W.keepIn K (.ref f) = true) : DefAt K mg x st :=
  ⟨f, _, fun_mk (st := st) l c k, PySem.W.mg_of X G a⟩
/-! ### rules of my own -/
section
variable {X : Cx}
/-- // by any divisor but 0, below 2 ^ 9000 in size -/
def CDivZ (_ j : Int) : Prop := j ≠ 0 ∧ j.natAbs.log2 < 9000
theorem op_fdivZ : OpR X (binaryOp .FloorDiv) (rI CDivZ fun i j => .int (i.fdiv j)) := opI fun _ _ _ _ _ _ _ hc q =>
  PyProof.Rows.floordiv_int hc.1 q (.inl (PyProof.noPylong_of_log2 hc.2))
theorem cdivZ {i j : Int} {b : Nat} (h : j ≠ 0) (hb : j.natAbs < 2 ^ b) (h0 : 0 < b) (h9 : b ≤ 9000) : CDivZ i j := ⟨h, Nat.lt_of_lt_of_le (PySem.Flt.log2_lt_of h0 hb) h9⟩
/-- ** with a small exponent -/
def CPowW (i j : Int) : Prop := 0 ≤ j ∧ (Builtin.Int.intBits i : Int) * j ≤ 2 ^ 27
theorem op_powW : OpR X (binaryOp .Pow) (rI CPowW fun i j => .int (i ^ j.toNat)) := opI fun _ _ _ _ _ _ _ hc q =>
  PyProof.Rows.pow_int hc.1 hc.2 q
end
def rLenS (K : PySem.W.Frag) : List V → Hp → VK → Prop := fun xs H Q => ∃ p ys, xs = [.ref p] ∧ (SqL K H p ys ∨ SqT K H p ys) ∧ Q (.int ys.length) H
theorem bo_len : bootBuiltins "len" = some (.builtin "len") := by decide +kernel
theorem bo_isinstance : bootBuiltins "isinstance" = some (.builtin "isinstance") := by decide +kernel
theorem bo_abs : bootBuiltins "abs" = some (.builtin "abs") := by decide +kernel
theorem bo_int : bootBuiltins "int" = some (.type "int") := by decide +kernel
theorem bo_bool : bootBuiltins "bool" = some (.type "bool") := by decide +kernel
theorem bo_str : bootBuiltins "str" = some (.type "str") := by decide +kernel
theorem bo_tuple : bootBuiltins "tuple" = some (.type "tuple") := by decide +kernel
theorem bo_list : bootBuiltins "list" = some (.type "list") := by decide +kernel
/-! ### heaps -/
/-- all but what stands at r is as it was -/
def KeepBut (r : Addr) (H H' : Hp) : Prop := ∀ b o, b ≠ r → H b = some o → H' b = some o
theorem KeepBut.of {r : Addr} {H H' : Hp} (h : Same H H') : KeepBut r H H' := fun b o _ e => h b o e
theorem KeepBut.trans {r : Addr} {H H1 H2 : Hp} (a : KeepBut r H H1) (b : KeepBut r H1 H2) : KeepBut r H H2 := fun c o n e => b c o n (a c o n e)
theorem same_upd {H : Hp} {p : Addr} {o : HO} (h : H p = none) : Same H (upd H p o) := fun b u e => by
  rw [upd_ne (ne_of_none e h)]; exact e
theorem Same.upd' {H H' : Hp} {p : Addr} {o : HO} (s : Same H H') (h : H' p = none) : Same H (upd H' p o) := Same.trans s (same_upd h)
theorem Same.tup {K : PySem.W.Frag} {H H' : Hp} {a : Addr} {xs : List V} (e : Same H H') (h : SqT K H a xs) : SqT K H' a xs := by
  rcases h with (h | ⟨o, h⟩) | h
  · exact .inl (.inl (e _ _ h))
  · exact .inl (.inr ⟨o, e _ _ h⟩)
  · exact .inr h
/-- an own exception class over ValueError, without an __init__ of its own -/
structure ExcAt (K : PySem.W.Frag) (mg : Str → Option Value) (x : Str) where
  C : Addr
  g : mg x = some (.ref C)
  x : PySem.W.excIn K C [.type "ValueError", .type "Exception", .type "BaseException", .type "object"] "ValueError.__new__" = true
  k : PySem.W.keepIn K (.ref C) = true
  be : PySem.W.subIn K (.ref C) (.type "BaseException") = some true
  ty : PySem.W.typeIn K (.ref C) = some (.type "type")
  is : PySem.W.isClsIn K C = true
  se : PySem.W.subIn K (.ref C) (.ref C) = some true
def NBn : Nat := 10 ^ 200
def NBi : Int := 10 ^ 200
theorem nb_eq : NBi = (NBn : Int) := by decide +kernel

/-! ### the defs of the text: places, slots, scopes -/
abbrev s_is_integer : Stmt := topS 5
abbrev N_is_integer : List Str := ["value"]
abbrev P_is_integer : List Str := ["value"]
theorem sc_is_integer : FnScope N_is_integer P_is_integer (defScope s_is_integer) := ⟨rfl, rfl, rfl, by decide +kernel, rfl, by decide +kernel, by decide +kernel⟩

abbrev s_is_integer_in : Stmt := topS 6
abbrev N_is_integer_in : List Str := ["value", "low", "high"]
abbrev P_is_integer_in : List Str := ["value", "low", "high"]
theorem sc_is_integer_in : FnScope N_is_integer_in P_is_integer_in (defScope s_is_integer_in) := ⟨rfl, rfl, rfl, by decide +kernel, rfl, by decide +kernel, by decide +kernel⟩

abbrev s_check_integer_in : Stmt := topS 7
abbrev N_check_integer_in : List Str := ["value", "low", "high"]
abbrev P_check_integer_in : List Str := ["value", "low", "high"]
theorem sc_check_integer_in : FnScope N_check_integer_in P_check_integer_in (defScope s_check_integer_in) := ⟨rfl, rfl, rfl, by decide +kernel, rfl, by decide +kernel, by decide +kernel⟩

abbrev s_check_number_and_degree : Stmt := topS 11
abbrev N_check_number_and_degree : List Str := ["number", "degree"]
abbrev P_check_number_and_degree : List Str := ["number", "degree"]
theorem sc_check_number_and_degree : FnScope N_check_number_and_degree P_check_number_and_degree (defScope s_check_number_and_degree) := ⟨rfl, rfl, rfl, by decide +kernel, rfl, by decide +kernel, by decide +kernel⟩

abbrev s_expansion : Stmt := topS 12
abbrev N_expansion : List Str := ["number", "degree"]
abbrev P_expansion : List Str := ["number", "degree"]
theorem sc_expansion : FnScope N_expansion P_expansion (defScope s_expansion) := ⟨rfl, rfl, rfl, by decide +kernel, rfl, by decide +kernel, by decide +kernel⟩

abbrev s_upper_numbers : Stmt := topS 13
abbrev N_upper_numbers : List Str := ["number", "degree", "found", "left", "top"]
abbrev P_upper_numbers : List Str := ["number", "degree"]
theorem sc_upper_numbers : FnScope N_upper_numbers P_upper_numbers (defScope s_upper_numbers) := ⟨rfl, rfl, rfl, by decide +kernel, rfl, by decide +kernel, by decide +kernel⟩

abbrev s_greatest_top : Stmt := topS 14
abbrev N_greatest_top : List Str := ["number", "bottom", "low", "high", "middle"]
abbrev P_greatest_top : List Str := ["number", "bottom"]
theorem sc_greatest_top : FnScope N_greatest_top P_greatest_top (defScope s_greatest_top) := ⟨rfl, rfl, rfl, by decide +kernel, rfl, by decide +kernel, by decide +kernel⟩

abbrev s_grown : Stmt := topS 15
abbrev N_grown : List Str := ["number", "degree"]
abbrev P_grown : List Str := ["number", "degree"]
theorem sc_grown : FnScope N_grown P_grown (defScope s_grown) := ⟨rfl, rfl, rfl, by decide +kernel, rfl, by decide +kernel, by decide +kernel⟩

abbrev s_raised_sum : Stmt := topS 16
abbrev N_raised_sum : List Str := ["number", "degree", "index", "top"]
abbrev P_raised_sum : List Str := ["number", "degree"]
theorem sc_raised_sum : FnScope N_raised_sum P_raised_sum (defScope s_raised_sum) := ⟨rfl, rfl, rfl, by decide +kernel, rfl, by decide +kernel, by decide +kernel⟩

abbrev s_law_taken : Stmt := topS 18
abbrev N_law_taken : List Str := ["row", "many", "found", "cell"]
abbrev P_law_taken : List Str := ["row", "many"]
theorem sc_law_taken : FnScope N_law_taken P_law_taken (defScope s_law_taken) := ⟨rfl, rfl, rfl, by decide +kernel, rfl, by decide +kernel, by decide +kernel⟩

abbrev s_law_comb : Stmt := topS 19
abbrev N_law_comb : List Str := ["top", "size", "found", "at"]
abbrev P_law_comb : List Str := ["top", "size"]
theorem sc_law_comb : FnScope N_law_comb P_law_comb (defScope s_law_comb) := ⟨rfl, rfl, rfl, by decide +kernel, rfl, by decide +kernel, by decide +kernel⟩

abbrev s_law_alike : Stmt := topS 20
abbrev N_law_alike : List Str := ["found", "due", "k"]
abbrev P_law_alike : List Str := ["found", "due"]
theorem sc_law_alike : FnScope N_law_alike P_law_alike (defScope s_law_alike) := ⟨rfl, rfl, rfl, by decide +kernel, rfl, by decide +kernel, by decide +kernel⟩

abbrev s_law : Stmt := topS 21
abbrev N_law : List Str := ["script", "row", "turn", "number", "degree", "found", "top", "whole", "after", "at", "many"]
abbrev P_law : List Str := ["script"]
theorem sc_law : FnScope N_law P_law (defScope s_law) := ⟨rfl, rfl, rfl, by decide +kernel, rfl, by decide +kernel, by decide +kernel⟩

structure Txt (K : PySem.W.Frag) (mg : Str → Option Value) where
  is_integer : DefAt K mg "is_integer" s_is_integer
  is_integer_in : DefAt K mg "is_integer_in" s_is_integer_in
  check_integer_in : DefAt K mg "check_integer_in" s_check_integer_in
  check_number_and_degree : DefAt K mg "check_number_and_degree" s_check_number_and_degree
  expansion : DefAt K mg "expansion" s_expansion
  upper_numbers : DefAt K mg "upper_numbers" s_upper_numbers
  greatest_top : DefAt K mg "greatest_top" s_greatest_top
  grown : DefAt K mg "grown" s_grown
  raised_sum : DefAt K mg "raised_sum" s_raised_sum
  law_taken : DefAt K mg "_law_taken" s_law_taken
  law_comb : DefAt K mg "_law_comb" s_law_comb
  law_alike : DefAt K mg "_law_alike" s_law_alike
  law : DefAt K mg "law" s_law
  n_len : mg "len" = none
  n_isinstance : mg "isinstance" = none
  n_int : mg "int" = none
  n_bool : mg "bool" = none
  n_str : mg "str" = none
  n_tuple : mg "tuple" = none
  n_list : mg "list" = none
  n_range : mg "range" = none
  n_sum : mg "sum" = none
  n_enumerate : mg "enumerate" = none
  g_comb : mg "comb" = some (.builtin "math.comb")
  tN : Tok
  g_MOST_NUMBER : mg "MOST_NUMBER" = some (.int 1000000 tN)
  tD : Tok
  g_MOST_DEGREE_OF_EXPANSION : mg "MOST_DEGREE_OF_EXPANSION" = some (.int 12 tD)
section
variable {P : Program} {w : World} {K : PySem.W.Frag} {mg : Str → Option Value} {base : Heap}
theorem b_is_integer (T : Txt K mg) : Binds K T.is_integer.fd P_is_integer [] := T.is_integer.F.binds fun _ _ _ _ _ _ us hl => match us, hl with | [_], _ => rfl
theorem b_is_integer_in (T : Txt K mg) : Binds K T.is_integer_in.fd P_is_integer_in [] := T.is_integer_in.F.binds fun _ _ _ _ _ _ us hl => match us, hl with | [_, _, _], _ => rfl
theorem b_check_integer_in (T : Txt K mg) : Binds K T.check_integer_in.fd P_check_integer_in [] := T.check_integer_in.F.binds fun _ _ _ _ _ _ us hl => match us, hl with | [_, _, _], _ => rfl
theorem b_check_number_and_degree (T : Txt K mg) : Binds K T.check_number_and_degree.fd P_check_number_and_degree [] := T.check_number_and_degree.F.binds fun _ _ _ _ _ _ us hl => match us, hl with | [_, _], _ => rfl
theorem b_expansion (T : Txt K mg) : Binds K T.expansion.fd P_expansion [] := T.expansion.F.binds fun _ _ _ _ _ _ us hl => match us, hl with | [_, _], _ => rfl
theorem b_upper_numbers (T : Txt K mg) : Binds K T.upper_numbers.fd P_upper_numbers [] := T.upper_numbers.F.binds fun _ _ _ _ _ _ us hl => match us, hl with | [_, _], _ => rfl
theorem b_greatest_top (T : Txt K mg) : Binds K T.greatest_top.fd P_greatest_top [] := T.greatest_top.F.binds fun _ _ _ _ _ _ us hl => match us, hl with | [_, _], _ => rfl
theorem b_grown (T : Txt K mg) : Binds K T.grown.fd P_grown [] := T.grown.F.binds fun _ _ _ _ _ _ us hl => match us, hl with | [_, _], _ => rfl
theorem b_raised_sum (T : Txt K mg) : Binds K T.raised_sum.fd P_raised_sum [] := T.raised_sum.F.binds fun _ _ _ _ _ _ us hl => match us, hl with | [_, _], _ => rfl
theorem b_law_taken (T : Txt K mg) : Binds K T.law_taken.fd P_law_taken [] := T.law_taken.F.binds fun _ _ _ _ _ _ us hl => match us, hl with | [_, _], _ => rfl
theorem b_law_comb (T : Txt K mg) : Binds K T.law_comb.fd P_law_comb [] := T.law_comb.F.binds fun _ _ _ _ _ _ us hl => match us, hl with | [_, _], _ => rfl
theorem b_law_alike (T : Txt K mg) : Binds K T.law_alike.fd P_law_alike [] := T.law_alike.F.binds fun _ _ _ _ _ _ us hl => match us, hl with | [_, _], _ => rfl
theorem b_law (T : Txt K mg) : Binds K T.law.fd P_law [] := T.law.F.binds fun _ _ _ _ _ _ us hl => match us, hl with | [_], _ => rfl
end

/-! ### reading, step by step -/
theorem iteV {a b : Int} {A B : Prop} (h1 : a = b → A) (h2 : a ≠ b → B) : if decide (V.int a = V.int b) = true then A else B := by
  by_cases h : a = b
  · rw [if_pos (decide_eq_true (congrArg V.int h))]; exact h1 h
  · rw [if_neg (by rw [decide_eq_false (fun z => h (V.int.inj z))]; exact Bool.false_ne_true)]; exact h2 h
theorem iteVn {a b : Int} {A B : Prop} (h1 : a ≠ b → A) (h2 : a = b → B) : if (!decide (V.int a = V.int b)) = true then A else B := by
  by_cases h : a = b
  · rw [if_neg (by rw [decide_eq_true (congrArg V.int h)]; exact Bool.false_ne_true)]; exact h2 h
  · rw [if_pos (by rw [decide_eq_false (fun z => h (V.int.inj z))]; rfl)]; exact h1 h
theorem iteD {c A B : Prop} [Decidable c] (h1 : c → A) (h2 : ¬ c → B) : if decide c = true then A else B := by
  by_cases h : c
  · rw [if_pos (decide_eq_true h)]; exact h1 h
  · rw [if_neg (by rw [decide_eq_false h]; exact Bool.false_ne_true)]; exact h2 h
theorem iteDn {c A B : Prop} [Decidable c] (h1 : ¬ c → A) (h2 : c → B) : if (!decide c) = true then A else B := by
  by_cases h : c
  · rw [if_neg (by rw [decide_eq_true h]; exact Bool.false_ne_true)]; exact h2 h
  · rw [if_pos (by rw [decide_eq_false h]; rfl)]; exact h1 h
theorem iteB {b : Bool} {A B : Prop} (h1 : b = true → A) (h2 : b = false → B) : if b = true then A else B := by
  cases b with
  | true => exact iteT (h1 rfl)
  | false => exact iteF (h2 rfl)
theorem iteN0 {i : Int} {A B : Prop} (h1 : i ≠ 0 → A) (h2 : i = 0 → B) : if (i != 0) = true then A else B := by
  by_cases h : i = 0
  · rw [if_neg (by simp [h])]; exact h2 h
  · rw [if_pos (by simpa using h)]; exact h1 h
theorem vdec {a b : Int} : decide (V.int a = V.int b) = decide (a = b) := by
  by_cases h : a = b
  · subst h; simp
  · rw [decide_eq_false h, decide_eq_false (fun z => h (V.int.inj z))]
theorem sql_ne {K : PySem.W.Frag} {H : Hp} {r a : Addr} {o : HO} {xs : List V} (h : SqL K H a xs) (n : a ≠ r) : SqL K (upd H r o) a xs := by
  rcases h with (h | ⟨u, h⟩) | h
  · exact .inl (.inl (by rw [upd_ne n]; exact h))
  · exact .inl (.inr ⟨u, by rw [upd_ne n]; exact h⟩)
  · exact .inr h
theorem mulW64 {i j : Int} (hi : i.natAbs < 2 ^ 64) (hj : j.natAbs < 2 ^ 64) : CMulW i j := wide_mul hi hj (by decide) (by decide) (by decide)
section
variable {K : PySem.W.Frag}
theorem kit_int_int : PySem.W.kitOne K (.type "int") (.type "int") = some true := kit_ty (by decide +kernel)
theorem kit_int_bool : PySem.W.kitOne K (.type "int") (.type "bool") = some false := kit_ty (by decide +kernel)
theorem kit_int_str : PySem.W.kitOne K (.type "int") (.type "str") = some false := kit_ty (by decide +kernel)
theorem kit_int_tuple : PySem.W.kitOne K (.type "int") (.type "tuple") = some false := kit_ty (by decide +kernel)
theorem kit_int_list : PySem.W.kitOne K (.type "int") (.type "list") = some false := kit_ty (by decide +kernel)
theorem kit_tuple_tuple : PySem.W.kitOne K (.type "tuple") (.type "tuple") = some true := kit_ty (by decide +kernel)
theorem kit_tuple_list : PySem.W.kitOne K (.type "tuple") (.type "list") = some false := kit_ty (by decide +kernel)
theorem kit_tuple_str : PySem.W.kitOne K (.type "tuple") (.type "str") = some false := kit_ty (by decide +kernel)
theorem kit_tuple_int : PySem.W.kitOne K (.type "tuple") (.type "int") = some false := kit_ty (by decide +kernel)
theorem kit_tuple_bool : PySem.W.kitOne K (.type "tuple") (.type "bool") = some false := kit_ty (by decide +kernel)
theorem kitA_int : PySem.W.kitAny K (.type "int") [.type "tuple", .type "list"] = some false :=
  kitAny_cons kit_int_tuple (fun _ => kitAny_cons kit_int_list (fun _ => kitAny_nil) (fun z => nomatch z)) (fun z => nomatch z)
theorem kitA_tuple : PySem.W.kitAny K (.type "tuple") [.type "tuple", .type "list"] = some true :=
  kitAny_cons kit_tuple_tuple (fun z => nomatch z) (fun _ => rfl)
end
local macro_rules | `(tactic| walk_at "rd1") => `(tactic| first
  | refine ⟨_, rfl, ?_⟩
  | refine ⟨_, _, rfl, rfl, ?_⟩
  | refine ⟨_, _, rfl, ?_⟩
  | refine ⟨rfl, ?_⟩
  | refine ⟨(show (0 : Int) < _ by omega), ?_⟩
  | refine .inl ⟨_, rfl, ?_⟩
  | refine ⟨mulW64 (by omega) (by omega), ?_⟩
  | refine ⟨cdivZ (b := 64) (by omega) (by omega) (by decide) (by decide), ?_⟩
  | refine ⟨(show CPowW _ _ from ⟨by decide, by decide +kernel⟩), ?_⟩
  | refine ⟨_, _, rfl, .inr (.inl (.inl (by assumption))), ?_⟩
  | refine ⟨_, _, rfl, .inl (.inl (.inl (by assumption))), ?_⟩
  | refine ⟨_, _, rfl, .inl (.inl upd_same), rfl, ?_⟩
  | refine iteT ?_
  | refine iteF ?_
  | refine ⟨_, _, _, _, rfl, rfl, .inl (.inl (by assumption)), rfl, ?_⟩
  | refine ⟨_, _, _, _, rfl, rfl, .inl (.inl upd_same), rfl, ?_⟩
  | refine ⟨_, _, _, _, rfl, rfl, (by assumption), rfl, ?_⟩
  | refine ⟨_, _, _, _, rfl, rfl, upd_same, rfl, ?_⟩
  | refine ⟨_, _, _, _, _, rfl, .ty _, .base (.int _), kit_int_int, ?_⟩
  | refine ⟨_, _, _, _, _, rfl, .ty _, .base (.int _), kit_int_bool, ?_⟩
  | refine ⟨_, _, _, _, _, rfl, .ty _, .base (.int _), kit_int_str, ?_⟩
  | refine ⟨_, _, _, _, _, rfl, .ty _, .base (.tup (by assumption)), kit_tuple_tuple, ?_⟩
  | refine ⟨_, _, _, _, _, rfl, .ty _, .base (.tup (by assumption)), kit_tuple_list, ?_⟩
  | refine ⟨_, _, _, _, _, rfl, .ty _, .base (.tup (by assumption)), kit_tuple_str, ?_⟩)
local macro_rules | `(tactic| walk_at "rd") => `(tactic| repeat walk_at "rd1")

/-! ### binomial coefficients -/
def ch : Nat → Nat → Nat
  | _, 0 => 1
  | 0, _ + 1 => 0
  | n + 1, k + 1 => ch n k + ch n (k + 1)
theorem ch_0 (n : Nat) : ch n 0 = 1 := by cases n <;> rfl
theorem ch_ss (n k : Nat) : ch (n + 1) (k + 1) = ch n k + ch n (k + 1) := rfl
theorem ch_lt : ∀ (n k : Nat), n < k → ch n k = 0
  | 0, 0, h => absurd h (by omega)
  | _ + 1, 0, h => absurd h (by omega)
  | 0, _ + 1, _ => rfl
  | n + 1, k + 1, h => by rw [ch_ss, ch_lt n k (by omega), ch_lt n (k + 1) (by omega)]
theorem ch_self : ∀ n : Nat, ch n n = 1
  | 0 => rfl
  | n + 1 => by rw [ch_ss, ch_self n, ch_lt n (n + 1) (by omega)]
theorem ch_step : ∀ (n k : Nat), ch n k ≤ ch (n + 1) k
  | n, 0 => by rw [ch_0, ch_0]; exact Nat.le_refl _
  | n, k + 1 => by rw [ch_ss]; omega
theorem ch_mono {m n : Nat} (k : Nat) (h : m ≤ n) : ch m k ≤ ch n k := by
  induction h with
  | refl => exact Nat.le_refl _
  | step _ ih => exact Nat.le_trans ih (ch_step _ _)
theorem ch_pos {n k : Nat} (h : k ≤ n) : 1 ≤ ch n k := by
  have := ch_mono k h
  rw [ch_self] at this
  exact this
theorem ch_strict {n k : Nat} (h : k ≤ n) : ch n (k + 1) < ch (n + 1) (k + 1) := by
  have := ch_pos h
  rw [ch_ss]; omega
theorem ch_lt_inv {m n k : Nat} (h : ch m k < ch n k) : m < n := by
  by_cases q : m < n
  · exact q
  · have := ch_mono k (show n ≤ m by omega)
    omega
theorem ch_ge {k : Nat} : ∀ (t : Nat), k + 1 ≤ t → t ≤ ch t (k + 1) + k
  | 0, h => absurd h (by omega)
  | t + 1, h => by
    by_cases q : k + 1 ≤ t
    · have := ch_ge t q
      have := ch_strict (n := t) (k := k) (by omega)
      omega
    · have e : t = k := by omega
      subst e
      rw [ch_self]; omega
theorem ch_le_pow : ∀ (n k : Nat), ch n k ≤ n ^ k
  | _, 0 => by rw [ch_0]; exact Nat.le_of_eq (Nat.pow_zero _).symm
  | 0, k + 1 => Nat.zero_le _
  | n + 1, k + 1 => by
    have h1 := ch_le_pow n k
    have h2 := ch_le_pow n (k + 1)
    have h3 : n ^ k ≤ (n + 1) ^ k := Nat.pow_le_pow_left (by omega) k
    rw [Nat.pow_succ] at h2
    rw [ch_ss, Nat.pow_succ, Nat.mul_succ]
    have h4 : n ^ k * n ≤ (n + 1) ^ k * n := Nat.mul_le_mul_right n h3
    omega
theorem ch_bound {n k : Nat} (hn : n < 2 ^ 21) (hk : k ≤ 16) : ch n k < 2 ^ 337 := by
  have h1 := ch_le_pow n k
  have h2 : n ^ k ≤ (2 ^ 21) ^ k := Nat.pow_le_pow_left (by omega) k
  have h3 : ((2 : Nat) ^ 21) ^ k ≤ (2 ^ 21) ^ 16 := Nat.pow_le_pow_right (by decide) hk
  have h4 : ((2 : Nat) ^ 21) ^ 16 < 2 ^ 337 := by decide +kernel
  omega
theorem ch_symm : ∀ (n a b : Nat), a + b = n → ch n a = ch n b
  | 0, a, b, h => by
    have ha : a = 0 := by omega
    have hb : b = 0 := by omega
    subst ha hb; rfl
  | n + 1, 0, b, h => by
    have e : b = n + 1 := by omega
    subst e
    rw [ch_0, ch_self]
  | n + 1, a + 1, 0, h => by
    have e : a = n := by omega
    subst e
    rw [ch_0, ch_self]
  | n + 1, a + 1, b + 1, h => by
    rw [ch_ss, ch_ss, ch_symm n a (b + 1) (by omega), ch_symm n (a + 1) b (by omega)]
    omega
theorem ch_mul : ∀ (n k : Nat), (ch n (k + 1) : Int) * ((k : Int) + 1) = (ch n k : Int) * ((n : Int) - k)
  | 0, 0 => by decide
  | 0, k + 1 => by
    show ((0 : Nat) : Int) * _ = ((0 : Nat) : Int) * _
    simp
  | n + 1, 0 => by
    have ih := ch_mul n 0
    rw [ch_0] at ih
    have e : ch (n + 1) (0 + 1) = 1 + ch n (0 + 1) := by rw [ch_ss, ch_0]
    rw [e, ch_0]
    simp at ih ⊢
    omega
  | n + 1, k + 1 => by
    have i1 := ch_mul n k
    have i2 := ch_mul n (k + 1)
    rw [ch_ss, ch_ss]
    simp only [Int.natCast_add, Int.natCast_one] at i1 i2 ⊢
    grind
/-- what math.comb gives -/
theorem fp_next (n : Int) : ∀ k : Nat, Builtin.Math.fallingProduct (n + 1) (k + 1) = (n + 1) * Builtin.Math.fallingProduct n k
  | 0 => by
    rw [PySem.W.mc_fp_succ, PySem.W.mc_fp_zero, PySem.W.mc_fp_zero]
    simp
  | k + 1 => by
    rw [PySem.W.mc_fp_succ, fp_next n k, PySem.W.mc_fp_succ]
    simp only [Int.natCast_add, Int.natCast_one]
    grind
theorem fp_ch (n : Nat) : ∀ k : Nat, Builtin.Math.fallingProduct (n : Int) k = (ch n k : Int) * Builtin.Math.fallingProduct (k : Int) k
  | 0 => by
    rw [PySem.W.mc_fp_zero, PySem.W.mc_fp_zero, ch_0]; rfl
  | k + 1 => by
    have h := ch_mul n k
    rw [PySem.W.mc_fp_succ, fp_ch n k]
    rw [show (((k + 1 : Nat)) : Int) = (k : Int) + 1 by omega, fp_next]
    grind
theorem comb_ch (n k : Nat) : PySem.W.mcComb (n : Int) (k : Int) = (ch n k : Int) := by
  by_cases h : k ≤ n
  · have go : ∀ m : Nat, m ≤ n → Builtin.Math.fallingProduct (n : Int) m / Builtin.Math.fallingProduct (m : Int) m = (ch n m : Int) := fun m _ => by
      have hp := PySem.W.mc_fp_pos (n := (m : Int)) m (Int.le_refl _)
      rw [fp_ch]
      exact Int.mul_ediv_cancel _ (by omega)
    by_cases hk : k ≤ n - k
    · rw [PySem.W.mcComb_at (m := (k : Int)) (by omega) (by omega) (by omega)]
      exact go k h
    · rw [PySem.W.mcComb_at (m := ((n - k : Nat) : Int)) (by omega) (by omega) (by omega), ch_symm n k (n - k) (by omega)]
      exact go (n - k) (by omega)
  · rw [PySem.W.mcComb_above (by omega), ch_lt n k (by omega)]
    rfl
/-! ### expansions -/
inductive Ex : Nat → Nat → List Nat → Prop
  | nil (d : Nat) : Ex d 0 []
  | cons {d n t : Nat} {as : List Nat} (h1 : d + 1 ≤ t) (h2 : ch t (d + 1) ≤ n) (h3 : n < ch (t + 1) (d + 1)) (h : Ex d (n - ch t (d + 1)) as) : Ex (d + 1) n (t :: as)
def sumC : Nat → List Nat → Nat
  | _, [] => 0
  | d, t :: as => ch t d + sumC (d - 1) as
def sumR : Nat → List Nat → Nat
  | _, [] => 0
  | d, t :: as => ch (t + 1) (d + 1) + sumR (d - 1) as
theorem Ex.len {d n : Nat} {as : List Nat} (h : Ex d n as) : as.length ≤ d := by
  induction h with
  | nil d => exact Nat.zero_le _
  | cons _ _ _ _ ih => simpa using ih
theorem Ex.sum {d n : Nat} {as : List Nat} (h : Ex d n as) : sumC d as = n := by
  induction h with
  | nil d => rfl
  | cons h1 h2 h3 _ ih =>
    show ch _ _ + sumC _ _ = _
    rw [Nat.add_sub_cancel, ih]
    omega
theorem Ex.bound {d n : Nat} {as : List Nat} (h : Ex d n as) : ∀ t ∈ as, t ≤ n + d := by
  induction h with
  | nil d => intro t h; simp at h
  | cons h1 h2 h3 _ ih =>
    intro t ht
    rcases List.mem_cons.mp ht with e | q
    · subst e
      have := ch_ge _ h1
      omega
    · have := ih t q
      omega
theorem Ex.ge {d n : Nat} {as : List Nat} (h : Ex d n as) : ∀ (i t : Nat), as[i]? = some t → d ≤ t + i := by
  induction h with
  | nil d => intro i t h; simp at h
  | cons h1 h2 h3 _ ih =>
    intro i t ht
    cases i with
    | zero => simp at ht; omega
    | succ i =>
      have := ih i t (by simpa using ht)
      omega
theorem Ex.head_lt {d n s t : Nat} {as : List Nat} (h : Ex d n (t :: as)) (hs : n < ch s d) : t < s := by
  cases h with
  | cons h1 h2 h3 _ => exact ch_lt_inv (Nat.lt_of_le_of_lt h2 hs)
theorem Ex.desc {d n : Nat} {as : List Nat} (h : Ex d n as) : ∀ (i s t : Nat), as[i]? = some s → as[i + 1]? = some t → t < s := by
  induction h with
  | nil d => intro i s t h; simp at h
  | @cons d n u as h1 h2 h3 hr ih =>
    intro i s t hs ht
    cases i with
    | zero =>
      simp at hs
      subst hs
      cases as with
      | nil => simp at ht
      | cons v as =>
        simp at ht
        subst ht
        refine hr.head_lt ?_
        rw [ch_ss] at h3
        omega
    | succ i => exact ih i s t (by simpa using hs) (by simpa using ht)
theorem Ex.raise_lt {d n : Nat} {as : List Nat} (h : Ex d n as) : ∀ s, n < ch (s + 1) d → sumR d as < ch (s + 2) (d + 1) := by
  induction h with
  | nil d =>
    intro s hs
    show 0 < _
    have : d ≤ s + 1 := by
      by_cases q : d ≤ s + 1
      · exact q
      · rw [ch_lt _ _ (by omega)] at hs; omega
    exact ch_pos (by omega)
  | @cons d n t as h1 h2 h3 hr ih =>
    intro s hs
    have ht : t < s + 1 := ch_lt_inv (Nat.lt_of_le_of_lt h2 hs)
    show ch (t + 1) (d + 1 + 1) + sumR (d + 1 - 1) as < _
    rw [Nat.add_sub_cancel]
    obtain ⟨u, rfl⟩ : ∃ u, t = u + 1 := ⟨t - 1, by omega⟩
    have h4 : n - ch (u + 1) (d + 1) < ch (u + 1) d := by rw [ch_ss (u + 1)] at h3; omega
    have h5 := ih u h4
    have h6 : ch (u + 2 + 1) (d + 1 + 1) ≤ ch (s + 2) (d + 1 + 1) := ch_mono _ (by omega)
    rw [ch_ss] at h6
    show ch (u + 2) (d + 1 + 1) + _ < _
    omega
theorem Ex.mono {d m : Nat} {as : List Nat} (h : Ex d m as) : ∀ {n : Nat} {bs : List Nat}, Ex d n bs → m < n → sumR d as < sumR d bs := by
  induction h with
  | nil d =>
    intro n bs hb hn
    cases hb with
    | nil => omega
    | @cons d n t bs h1 h2 h3 hr =>
      show 0 < ch (t + 1) (d + 1 + 1) + _
      have := ch_pos (show d + 1 + 1 ≤ t + 1 by omega)
      omega
  | @cons d m u as g1 g2 g3 gr ih =>
    intro n bs hb hn
    cases hb with
    | nil => omega
    | @cons d n t bs h1 h2 h3 hr =>
      have hut : u < t + 1 := ch_lt_inv (Nat.lt_of_le_of_lt g2 (Nat.lt_trans hn h3))
      show ch (u + 1) (d + 1 + 1) + sumR (d + 1 - 1) as < ch (t + 1) (d + 1 + 1) + sumR (d + 1 - 1) bs
      rw [Nat.add_sub_cancel]
      by_cases e : u = t
      · subst e
        have := ih hr (by omega)
        omega
      · obtain ⟨s, rfl⟩ : ∃ s, t = s + 1 := ⟨t - 1, by omega⟩
        have hm : m < ch (s + 1) (d + 1) := Nat.lt_of_lt_of_le g3 (ch_mono _ (by omega))
        have := (Ex.cons g1 g2 g3 gr).raise_lt s hm
        have e2 : sumR (d + 1) (u :: as) = ch (u + 1) (d + 1 + 1) + sumR (d + 1 - 1) as := rfl
        rw [Nat.add_sub_cancel] at e2
        rw [e2] at this
        show _ < ch (s + 2) (d + 1 + 1) + _
        omega
theorem Ex.one {d a : Nat} {as : List Nat} (h : Ex (d + 1) (ch a (d + 1)) as) (ha : d + 1 ≤ a) : sumR (d + 1) as = ch (a + 1) (d + 1 + 1) := by
  generalize hn : ch a (d + 1) = n at h
  cases h with
  | nil => have := ch_pos ha; omega
  | @cons d n t as h1 h2 h3 hr =>
    subst hn
    have h4 : a < t + 1 := ch_lt_inv h3
    have h5 : t ≤ a := by
      by_cases q : t ≤ a
      · exact q
      · have := ch_strict (n := a) (k := d) (by omega)
        have := ch_mono (d + 1) (show a + 1 ≤ t by omega)
        omega
    have e : t = a := by omega
    subst e
    rw [Nat.sub_self] at hr
    have e2 : as = [] := by
      cases as with
      | nil => rfl
      | cons v as =>
        generalize hz : 0 = z at hr
        cases hr with
        | cons q1 q2 q3 _ => have := ch_pos q1; omega
    subst e2
    rfl
theorem Ex.uniq {d n : Nat} {as : List Nat} (h : Ex d n as) : ∀ {bs : List Nat}, Ex d n bs → as = bs := by
  induction h with
  | nil d =>
    intro bs hb
    generalize hz : 0 = z at hb
    cases hb with
    | nil => rfl
    | cons q1 q2 q3 _ => have := ch_pos q1; omega
  | @cons d n t as h1 h2 h3 hr ih =>
    intro bs hb
    cases hb with
    | nil => have := ch_pos h1; omega
    | @cons _ _ u bs g1 g2 g3 gr =>
      have a1 : t < u + 1 := ch_lt_inv (Nat.lt_of_le_of_lt h2 g3)
      have a2 : u < t + 1 := ch_lt_inv (Nat.lt_of_le_of_lt g2 h3)
      have e : t = u := by omega
      subst e
      rw [ih gr]
theorem sumC_snoc : ∀ (d : Nat) (as : List Nat) (t : Nat), sumC d (as ++ [t]) = sumC d as + ch t (d - as.length)
  | d, [], t => by simp [sumC]
  | d, a :: as, t => by
    show ch a d + sumC (d - 1) (as ++ [t]) = ch a d + sumC (d - 1) as + _
    rw [sumC_snoc]
    simp only [List.length_cons]
    rw [show d - (as.length + 1) = d - 1 - as.length by omega]
    omega
theorem sumR_snoc : ∀ (d : Nat) (as : List Nat) (t : Nat), sumR d (as ++ [t]) = sumR d as + ch (t + 1) (d - as.length + 1)
  | d, [], t => by simp [sumR]
  | d, a :: as, t => by
    show ch (a + 1) (d + 1) + sumR (d - 1) (as ++ [t]) = ch (a + 1) (d + 1) + sumR (d - 1) as + _
    rw [sumR_snoc]
    simp only [List.length_cons]
    rw [show d - (as.length + 1) = d - 1 - as.length by omega]
    omega
theorem take_snoc {as : List Nat} {i t : Nat} (h : as[i]? = some t) : as.take (i + 1) = as.take i ++ [t] := by
  rw [List.take_add_one, h]; rfl
theorem small_comb : ∀ d, d < 13 → ∀ m, m < 6 → ch (d + m - 1) (m - 1) ≤ 1000000 := by decide +kernel

/-! ### math.comb -/
section
variable {X : Cx}
def rComb : List V → Hp → VK → Prop := fun vs H Q => ∃ i j : Int, vs = [.int i, .int j] ∧ 0 ≤ i ∧ i < 2 ^ 64 ∧ 0 ≤ j ∧ j ≤ 9000 ∧ Q (.int ((ch i.toNat j.toNat : Nat) : Int)) H
theorem cr_comb : CallR X (.builtin "math.comb") rComb := by
  intro pins s σ H vs us Q I r h
  obtain ⟨a, b, rfl, h1, h2, h3, h4, q⟩ := h
  obtain ⟨t, u, rfl⟩ := Vals.int2 r
  obtain ⟨m, rfl⟩ := Int.eq_ofNat_of_zero_le h1
  obtain ⟨n, rfl⟩ := Int.eq_ofNat_of_zero_le h3
  exact PySem.W.mc_comb_v (c := ((ch m n : Nat) : Int)) h1 h3 h2 (.inl h4) (comb_ch m n) ⟨.int _, H, I.tok _, ⟨_, rfl⟩, q⟩
end
theorem pg_tupK {X : Cx} {K : PySem.W.Frag} {es : List Expr} {k : Nat} {pos : Pos} {t : TGs} {n : Nat} (hK : X.K = K) (hc : X.calm = true) (h : PGs X es t)
    (hn : (assignEach es X.env).length = n := by rfl) (hst : (assignEach es X.env).findIdx? (·.1) = none := by rfl) : PG X (.Tuple es k pos) (gTup K n t) := by
  subst hK
  exact pg_tup hc h hn hst
def rTupOf (K : PySem.W.Frag) : List V → Hp → VK → Prop := fun xs H Q => ∃ p ys, xs = [.ref p] ∧ ((SqL K H p ys ∧ ∀ l, H l = Option.none → Q (.ref l) (upd H l (.tup ys))) ∨ (SqT K H p ys ∧ Q (.ref p) H))
theorem fn_never {P : Program} {w : World} {K : PySem.W.Frag} {mg : Str → Option Value} {base : Heap} {CX : CXT} {k : Nat} {f : Addr} {fd : FuncData} {ps : List Str} : FnOk P w K mg base CX k f fd ps (fun _ _ _ _ => False) :=
  ⟨fun _ _ _ _ h => h.elim, fun _ _ _ _ _ _ _ _ _ _ _ _ _ h => h.elim⟩

theorem bo_sum : bootBuiltins "sum" = some (.builtin "sum") := by decide +kernel
theorem two_line : 2 ≤ sizeLine := by decide
def IsTop (n b t : Nat) : Prop := b ≤ t ∧ ch t b ≤ n ∧ n < ch (t + 1) b ∧ t ≤ n + b
section
variable {P : Program} {w : World} {K : PySem.W.Frag} {mg : Str → Option Value} {base : Heap}
def sp_is_integer : Sp := fun vs H Q _ => ∃ n, vs = [.int n] ∧ Q (.bl true) H
theorem ok_is_integer (T : Txt K mg) : FnOk P w K mg base CX0 1 T.is_integer.f T.is_integer.fd P_is_integer sp_is_integer := by
  refine T.is_integer.F.ok sc_is_integer (fun vs H Q E h => ?_) (fun cdv A outer s H vs Q E hr h => ?_)
  · obtain ⟨n, rfl, _⟩ := h; rfl
  · obtain ⟨n, rfl, k⟩ := h
    refine ⟨_, (pss_one (ps_ret (pe_and (pe_callB (r := rIsi K) call_isi rfl T.n_isinstance bo_isinstance (pa_cons (pv 0) (pa_cons (pe_bltn (v := .ty "int") rfl T.n_int bo_int rfl) pa_nil))) (pe_one (pe_not (pe_callB (r := rIsi K) call_isi rfl T.n_isinstance bo_isinstance (pa_cons (pv 0) (pa_cons (pe_bltn (v := .ty "bool") rfl T.n_bool bo_bool rfl) pa_nil)))))))), ?_⟩
    walk_at "rd"
    exact k
def sp_is_integer_in : Sp := fun vs H Q _ => ∃ n lo hi, vs = [.int n, .int lo, .int hi] ∧ Q (.bl (decide (lo ≤ n ∧ n ≤ hi))) H
theorem ok_is_integer_in (T : Txt K mg) : FnOk P w K mg base CX0 2 T.is_integer_in.f T.is_integer_in.fd P_is_integer_in sp_is_integer_in := by
  refine T.is_integer_in.F.ok sc_is_integer_in (fun vs H Q E h => ?_) (fun cdv A outer s H vs Q E hr h => ?_)
  · obtain ⟨n, lo, hi, rfl, _⟩ := h; rfl
  · obtain ⟨n, lo, hi, rfl, k⟩ := h
    refine ⟨_, (pss_one (ps_ret (pe_and (pe_call (ok_is_integer T) (hr.mono (by decide)) rfl T.is_integer.g T.is_integer.F.kp (b_is_integer T) .nil pass0 (pa_cons (pv 0) pa_nil)) (pe_one (pe_chain op_le op_le (pv 1) (pv 0) (pv 2)))))), ?_⟩
    walk_at "rd"
    refine iteD (fun h1 => ?_) (fun h1 => ?_)
    · walk_at "rd"
      have e : decide (lo ≤ n ∧ n ≤ hi) = decide (n ≤ hi) := by simp [h1]
      rw [e] at k; exact k
    · have e : decide (lo ≤ n ∧ n ≤ hi) = false := by simp [h1]
      rw [e] at k; exact k
def sp_check_integer_in : Sp := fun vs H Q _ => ∃ n lo hi, vs = [.int n, .int lo, .int hi] ∧ (lo ≤ n ∧ n ≤ hi) ∧ Q .non H
theorem ok_check_integer_in (T : Txt K mg) : FnOk P w K mg base CX0 3 T.check_integer_in.f T.check_integer_in.fd P_check_integer_in sp_check_integer_in := by
  refine T.check_integer_in.F.ok sc_check_integer_in (fun vs H Q E h => ?_) (fun cdv A outer s H vs Q E hr h => ?_)
  · obtain ⟨n, lo, hi, rfl, _⟩ := h; rfl
  · obtain ⟨n, lo, hi, rfl, hb, k⟩ := h
    refine ⟨_, (pss_one (ps_if (pt_not (pt_val (pe_call (ok_is_integer_in T) (hr.mono (by decide)) rfl T.is_integer_in.g T.is_integer_in.F.kp (b_is_integer_in T) .nil pass0 (pa_cons (pv 0) (pa_cons (pv 1) (pa_cons (pv 2) pa_nil)))))) (pss_one ps_never) pss_nil)), ?_⟩
    walk_at "rd"
    refine ⟨_, _, _, rfl, ?_⟩
    rw [decide_eq_true hb]
    walk_at "rd"
    exact k
def sp_check_nd : Sp := fun vs H Q _ => ∃ n d : Nat, True ∧ vs = [.int n, .int d] ∧ n ≤ 1000000 ∧ 1 ≤ d ∧ d ≤ 12 ∧ Q .non H
theorem ok_check_number_and_degree (T : Txt K mg) : FnOk P w K mg base CX0 4 T.check_number_and_degree.f T.check_number_and_degree.fd P_check_number_and_degree sp_check_nd := by
  refine T.check_number_and_degree.F.ok sc_check_number_and_degree (fun vs H Q E h => ?_) (fun cdv A outer s H vs Q E hr h => ?_)
  · obtain ⟨n, d, -, rfl, _⟩ := h; rfl
  · obtain ⟨n, d, -, rfl, hn, h1, h2, k⟩ := h
    refine ⟨_, (pss_cons (ps_expr (pe_call (ok_check_integer_in T) (hr.mono (by decide)) rfl T.check_integer_in.g T.check_integer_in.F.kp (b_check_integer_in T) .nil pass0 (pa_cons (pv 0) (pa_cons pe_int (pa_cons (pe_glob rfl T.g_MOST_NUMBER (v := .int 1000000) ⟨_, rfl⟩) pa_nil)))))
  (pss_one (ps_expr (pe_call (ok_check_integer_in T) (hr.mono (by decide)) rfl T.check_integer_in.g T.check_integer_in.F.kp (b_check_integer_in T) .nil pass0 (pa_cons (pv 1) (pa_cons pe_int (pa_cons (pe_glob rfl T.g_MOST_DEGREE_OF_EXPANSION (v := .int 12) ⟨_, rfl⟩) pa_nil))))))), ?_⟩
    walk_at "rd"
    refine ⟨_, _, _, rfl, by omega, ?_⟩
    walk_at "rd"
    refine ⟨_, _, _, rfl, by omega, ?_⟩
    walk_at "rd"
    exact k
def sp_greatest_top : Sp := fun vs H Q _ => ∃ n b : Nat, vs = [.int n, .int (b + 1 : Nat)] ∧ 1 ≤ n ∧ n ≤ 1000000 ∧ b ≤ 12 ∧ ∀ t : Nat, IsTop n (b + 1) t → Q (.int t) H
theorem ok_greatest_top (T : Txt K mg) : FnOk P w K mg base CX0 1 T.greatest_top.f T.greatest_top.fd P_greatest_top sp_greatest_top := by
  refine T.greatest_top.F.ok sc_greatest_top (fun vs H Q E h => ?_) (fun cdv A outer s H vs Q E hr h => ?_)
  · obtain ⟨n, b, rfl, _⟩ := h; rfl
  · obtain ⟨n, b, rfl, hn1, hn2, hb, k⟩ := h
    refine ⟨_, (pss_cons (ps_par rfl sc_greatest_top.nd (i := 2) (j := 3) rfl rfl (by decide) rfl rfl (pa_cons (pv 1) (pa_cons (pe_op op_add (pv 1) (pv 0)) pa_nil)) rfl)
  (pss_cons (ps_while PassesOwn.never (pt_cmpR op_lt (pv 2) (pv 3) (nomark _)) (pss_cons (ps_set (i := 4) sc_greatest_top.nd rfl (Or.inl rfl) (pe_op op_fdivZ (pe_op op_add (pe_op op_add (pv 2) (pv 3)) pe_int) pe_int))
  (pss_one (ps_if (pt_cmpR op_le (pe_callBfun cr_comb rfl T.g_comb (pa_cons (pv 4) (pa_cons (pv 1) pa_nil))) (pv 0) (nomark _)) (pss_one (ps_set (i := 2) sc_greatest_top.nd rfl (Or.inl rfl) (pv 4))) (pss_one (ps_set (i := 3) sc_greatest_top.nd rfl (Or.inl rfl) (pe_op op_sub (pv 4) pe_int)))))))
  (pss_one (ps_ret (pv 2))))), ?_⟩
    walk_at "rd"
    refine while_by (fun σ H' => H' = H ∧ ∃ (lo hi : Nat) (v : Option V), σ = [some (.int n), some (.int ((b + 1 : Nat) : Int)), some (.int lo), some (.int hi), v] ∧ b + 1 ≤ lo ∧ lo ≤ hi ∧ hi ≤ n + (b + 1) ∧ ch lo (b + 1) ≤ n ∧ n < ch (hi + 1) (b + 1))
      (fun σ _ => match σ with | [_, _, some (.int lo), some (.int hi), _] => (hi - lo).toNat | _ => 0) ?_ ?_ ?_
    · refine ⟨rfl, b + 1, n + (b + 1), none, ?_, Nat.le_refl _, by omega, Nat.le_refl _, ?_, ?_⟩
      · simp only [L2.start, List.set]
        rw [show ((b + 1 : Nat) : Int) + (n : Int) = ((n + (b + 1) : Nat) : Int) by omega]
        rfl
      · rw [ch_self]; exact hn1
      · have := ch_ge (k := b) (n + (b + 1) + 1) (by omega)
        omega
    · rintro σ H' ⟨rfl, lo, hi, v, rfl, h1, h2, h3, h4, h5⟩
      walk_at "rd"
      refine iteD (fun hlt => ?_) (fun hlt => ?_)
      · walk_at "rd"
        have hm : ((lo : Int) + hi + 1).fdiv 2 = (((lo + hi + 1) / 2 : Nat) : Int) := by
          rw [Int.fdiv_eq_ediv_of_nonneg _ (by decide)]; omega
        dsimp only
        rw [hm]
        generalize hq : (lo + hi + 1) / 2 = m
        have m1 : lo < m := by omega
        have m2 : m ≤ hi := by omega
        refine ⟨by omega, by omega, by omega, by omega, ?_⟩
        rw [show ((m : Int)).toNat = m by omega, show ((b + 1 : Nat) : Int).toNat = b + 1 by omega]
        walk_at "rd"
        refine iteD (fun hc => ?_) (fun hc => ?_)
        · walk_at "rd"
          exact ⟨⟨rfl, m, hi, _, rfl, by omega, m2, h3, by omega, h5⟩, by simp; omega⟩
        · walk_at "rd"
          refine ⟨⟨rfl, lo, m - 1, some (.int m), ?_, h1, by omega, by omega, h4, ?_⟩, ?_⟩
          · simp only [List.set]
            rw [show (m : Int) - 1 = ((m - 1 : Nat) : Int) by omega]
          · rw [show m - 1 + 1 = m by omega]; omega
          · simp; omega
      · walk_at "rd"
        have e : lo = hi := by omega
        subst e
        exact k lo ⟨h1, h4, h5, by omega⟩
    · intro σ H Q Q' hQ h
      obtain ⟨x, e, y, f, i, j, a, b, k, c, d⟩ := h
      exact ⟨x, e, y, f, i, j, a, b, k, c, hQ _ _ d⟩
end

def iD (as : List Nat) : List V := as.map fun t => V.int ((t : Nat) : Int)
section
variable {P : Program} {w : World} {K : PySem.W.Frag} {mg : Str → Option Value} {base : Heap}
def sp_upper_numbers : Sp := fun vs H Q _ => ∃ n d : Nat, True ∧ vs = [.int n, .int d] ∧ n ≤ 1000000 ∧ 1 ≤ d ∧ d ≤ 13 ∧ ∀ (as : List Nat) (p : Addr) H', Ex d n as → Same H H' → H p = none → H' p = some (.lst (iD as)) → Q (.ref p) H'
theorem ok_upper_numbers (T : Txt K mg) : FnOk P w K mg base CX0 2 T.upper_numbers.f T.upper_numbers.fd P_upper_numbers sp_upper_numbers := by
  refine T.upper_numbers.F.ok sc_upper_numbers (fun vs H Q E h => ?_) (fun cdv A outer s H vs Q E hr h => ?_)
  · obtain ⟨n, d, -, rfl, _⟩ := h; rfl
  · obtain ⟨n, d, -, rfl, hn, hd1, hd, k⟩ := h
    refine ⟨_, (pss_cons (ps_set (i := 2) sc_upper_numbers.nd rfl (Or.inl rfl) (pe_lst pa_nil))
  (pss_cons (ps_set (i := 3) sc_upper_numbers.nd rfl (Or.inl rfl) (pv 0))
  (pss_cons (ps_while PassesOwn.never (pt_cmpR op_gt (pv 3) pe_int (nomark _)) (pss_cons (ps_set (i := 4) sc_upper_numbers.nd rfl (Or.inl rfl) (pe_call (ok_greatest_top T) (hr.mono (by decide)) rfl T.greatest_top.g T.greatest_top.F.kp (b_greatest_top T) .nil pass0 (pa_cons (pv 3) (pa_cons (pe_op op_sub (pv 1) (pe_callB (r := rLenS K) call_len_seq rfl T.n_len bo_len (pa_cons (pv 2) pa_nil))) pa_nil))))
  (pss_cons (ps_aug (i := 3) sc_upper_numbers.nd rfl (Or.inl rfl) (pe_callBfun cr_comb rfl T.g_comb (pa_cons (pv 4) (pa_cons (pe_op op_sub (pv 1) (pe_callB (r := rLenS K) call_len_seq rfl T.n_len bo_len (pa_cons (pv 2) pa_nil))) pa_nil))) ip_sub)
  (pss_one (ps_expr (pe_bm PySem.F.plainAttrs_list PySem.F.slot_list_append PySem.F.type_list_append mt_append (pv 2) (pa_cons (pv 4) pa_nil)))))))
  (pss_one (ps_ret (pv 2)))))), ?_⟩
    walk_at "rd"
    refine ⟨by decide, fun p hp => ?_⟩
    walk_at "rd"
    refine while_by (fun σ H' => ∃ (as : List Nat) (left : Nat) (v : Option V), σ = [some (.int n), some (.int d), some (.ref p), some (.int left), v] ∧ Same H H' ∧ H' p = some (.lst (iD as)) ∧ left ≤ n ∧ as.length ≤ d ∧ (as.length = d → left = 0) ∧ ∀ bs, Ex (d - as.length) left bs → Ex d n (as ++ bs))
      (fun σ _ => match σ with | [_, _, _, some (.int left), _] => left.toNat | _ => 0) ?_ ?_ ?_
    · exact ⟨[], n, none, rfl, same_upd hp, upd_same, Nat.le_refl _, Nat.zero_le _, fun z => by simp at z; omega, fun bs h => h⟩
    · rintro σ H' ⟨as, left, v, rfl, hs, hl, hle, hlen, h0, hE⟩
      walk_at "rd"
      refine iteD (fun hpos => ?_) (fun hpos => ?_)
      · walk_at "rd"
        obtain ⟨b, hb⟩ : ∃ b, d - as.length = b + 1 := ⟨d - as.length - 1, by omega⟩
        have hlen2 : (iD as).length = as.length := by simp [iD]
        dsimp only
        rw [hlen2, show (d : Int) - ((as.length : Nat) : Int) = ((b + 1 : Nat) : Int) by omega]
        refine ⟨left, b, rfl, by omega, by omega, by omega, fun t ht => ?_⟩
        obtain ⟨t1, t2, t3, t4⟩ := ht
        walk_at "rd"
        dsimp only
        rw [hlen2, show (d : Int) - ((as.length : Nat) : Int) = ((b + 1 : Nat) : Int) by omega]
        refine ⟨by omega, by omega, by omega, by omega, ?_⟩
        rw [show ((t : Int)).toNat = t by omega, show ((b + 1 : Nat) : Int).toNat = b + 1 by omega]
        walk_at "rd"
        refine ⟨.inl ⟨rfl, _, .inl (.inl hl)⟩, ?_⟩
        walk_at "rd"
        refine ⟨_, _, _, rfl, rfl, hl, ?_, ?_⟩
        · rw [hlen2]
          have : (13 : Nat) < sizeLine := by decide
          omega
        have hch := ch_pos t1
        refine ⟨⟨as ++ [t], left - ch t (b + 1), some (.int t), ?_, fun q o e => ?_, ?_, by omega, by simp; omega, fun z => ?_, fun bs hbs => ?_⟩, ?_⟩
        · simp only [List.set]
          rw [show (left : Int) - ((ch t (b + 1) : Nat) : Int) = ((left - ch t (b + 1) : Nat) : Int) by omega]
        · rw [upd_ne (ne_of_none e hp)]
          exact hs _ _ e
        · rw [upd_same]
          simp [iD]
        · simp at z
          have e : b = 0 := by omega
          subst e
          rw [ch_ss, ch_0] at t3
          omega
        · simp at hbs
          rw [show d - (as.length + 1) = b by omega] at hbs
          rw [List.append_assoc]
          refine hE _ ?_
          rw [hb]
          exact .cons t1 t2 t3 hbs
        · simp
          omega
      · walk_at "rd"
        have e : left = 0 := by omega
        subst e
        have := hE [] (.nil _)
        rw [List.append_nil] at this
        exact k as p H' this hs hp hl
    · intro σ H Q Q' hQ h
      obtain ⟨x, e, i, j, a, b, k, c, d⟩ := h
      exact ⟨x, e, i, j, a, b, k, c, hQ _ _ d⟩
end

section
variable {P : Program} {w : World} {K : PySem.W.Frag} {mg : Str → Option Value} {base : Heap}
theorem sumR_get : ∀ (d : Nat) (as : List Nat) (ys : List Int), ys.length = as.length → (∀ j t, as[j]? = some t → ys[j]? = some ((ch (t + 1) (d - j + 1) : Nat) : Int)) → ys.sum = ((sumR d as : Nat) : Int)
  | _, [], ys, h, _ => by
    have : ys = [] := List.eq_nil_of_length_eq_zero h
    subst this; rfl
  | d, a :: as, [], h, _ => by simp at h
  | d, a :: as, y :: ys, h, g => by
    have h0 := g 0 a rfl
    simp at h0
    have ih := sumR_get (d - 1) as ys (by simpa using h) fun j t ht => by
      have := g (j + 1) t (by simpa using ht)
      rw [List.getElem?_cons_succ] at this
      rw [this, show d - 1 - j = d - (j + 1) by omega]
    rw [List.sum_cons, ih, h0]
    show _ = ((ch (a + 1) (d + 1) + sumR (d - 1) as : Nat) : Int)
    omega
def sp_raised_sum : Sp := fun vs H Q _ => ∃ n d : Nat, True ∧ vs = [.int n, .int d] ∧ n ≤ 1000000 ∧ 1 ≤ d ∧ d ≤ 13 ∧ ∀ (as : List Nat) H', Ex d n as → Same H H' → Q (.int ((sumR d as : Nat) : Int)) H'
theorem ok_raised_sum (T : Txt K mg) : FnOk P w K mg base CX0 3 T.raised_sum.f T.raised_sum.fd P_raised_sum sp_raised_sum := by
  refine T.raised_sum.F.ok sc_raised_sum (fun vs H Q E h => ?_) (fun cdv A outer s H vs Q E hr h => ?_)
  · obtain ⟨n, d, -, rfl, _⟩ := h; rfl
  · obtain ⟨n, d, -, rfl, hn, hd1, hd, k⟩ := h
    refine ⟨_, (pss_one (ps_ret (pe_callB (r := rSum K) (cr_sum rfl) rfl T.n_sum bo_sum (pa_cons (pe_lc (own := [("index", 2), ("top", 3)]) rfl sc_raised_sum.nd (pi_enum rfl T.n_enumerate (pa_cons (pe_call (ok_upper_numbers T) (hr.mono (by decide)) rfl T.upper_numbers.g T.upper_numbers.F.kp (b_upper_numbers T) .nil pass0 (pa_cons (pv 0) (pa_cons (pv 1) pa_nil))) pa_nil)) (blkOk_by (own := [("index", 2), ("top", 3)]) (N := N_raised_sum) (sc := defScope s_raised_sum) (by decide +kernel)) (fun _ _ _ _ _ => (pg_tupK (K := K) (n := 2) rfl rfl (pgs_cons (pg_name (i := 2) sc_raised_sum.nd rfl (Or.inl rfl)) (pgs_cons (pg_name (i := 3) sc_raised_sum.nd rfl (Or.inl rfl)) pgs_nil)))) (fun _ _ _ _ _ => pts_nil) (fun _ _ _ _ _ => (pe_callBfun cr_comb rfl T.g_comb (pa_cons (pe_op op_add (pv 3) pe_int) (pa_cons (pe_op op_add (pe_op op_sub (pv 1) (pv 2)) pe_int) pa_nil))))) pa_nil)))), ?_⟩
    walk_at "rd"
    refine ⟨n, d, trivial, rfl, hn, hd1, hd, fun as p H1 hE s1 np hp => ?_⟩
    have hz : (iD as).length = as.length := by simp [iD]
    walk_at "rd"
    refine ⟨p, iD as, rfl, .inl (.inl hp), fun D hD => ?_⟩
    have hlen := hE.len
    refine lc_it (walk_enum (K := K) (a := p) (xs := iD as)) (fun i H' => ∃ ys : List Int, Same H1 H' ∧ H' D = some (.lst (ys.map V.int)) ∧ ys.length = i ∧ i ≤ as.length ∧ ∀ j t, j < i → as[j]? = some t → ys[j]? = some ((ch (t + 1) (d - j + 1) : Nat) : Int))
      ⟨[], same_upd hD, upd_same, rfl, Nat.zero_le _, fun j t h => by omega⟩ (fun i H' _ q => ?_) (fun i x H2 H3 hi q y => ?_) (fun H2 q => ?_)
    · obtain ⟨ys, q, _⟩ := q
      exact .inl (.inl (q _ _ hp))
    · obtain ⟨ys, q1, q2, q3, q4, q5⟩ := q
      obtain ⟨T1, x1, y1, rfl, nT, rfl, ex, ey⟩ := y
      rw [hz] at hi
      cases ex
      have hy : y1 = V.int ((as[i] : Nat) : Int) := by
        have ey : (iD as)[i]? = some y1 := ey
        unfold iD at ey
        rw [List.getElem?_map, List.getElem?_eq_getElem hi] at ey
        simpa using ey.symm
      subst hy
      have ha := hE.bound as[i] (List.getElem_mem hi)
      refine ⟨T1, _, rfl, .inl (.inl upd_same), rfl, ?_⟩
      walk_at "rd"
      generalize ht : as[i] = t at *
      have hti : as[i]? = some t := by rw [List.getElem?_eq_getElem hi, ht]
      refine ⟨by omega, by omega, by omega, by omega, ?_⟩
      rw [show ((t : Int) + 1).toNat = t + 1 by omega, show ((d : Int) - (i : Int) + 1).toNat = d - i + 1 by omega]
      have nD : T1 ≠ D := fun z => by rw [z, q2] at nT; cases nT
      refine ⟨ys.map V.int, ?_, ?_, ys ++ [((ch (t + 1) (d - i + 1) : Nat) : Int)], fun b o e => ?_, ?_, by simp; omega, by omega, fun j u hj hu => ?_⟩
      · rw [upd_ne (Ne.symm nD)]; exact q2
      · rw [List.length_map]
        have : (13 : Nat) < sizeLine := by decide
        omega
      · have e2 := q1 _ _ e
        rw [upd_ne (ne_of_none e hD), upd_ne (ne_of_none e2 nT)]
        exact e2
      · rw [upd_same]; simp
      · by_cases hji : j < i
        · rw [List.getElem?_append_left (by omega)]
          exact q5 j u hji hu
        · have e : j = i := by omega
          subst e
          rw [List.getElem?_append_right (by omega), q3, Nat.sub_self]
          rw [hti] at hu
          cases hu
          rfl
    · obtain ⟨ys, q1, q2, q3, q4, q5⟩ := q
      rw [hz] at q3
      walk_at "rd"
      refine ⟨D, ys, rfl, .inl (.inl q2), ?_⟩
      rw [sumR_get d as ys q3 fun j t ht => q5 j t (by rw [hz]; exact (List.getElem?_eq_some_iff.mp ht).1) ht]
      exact k as H2 hE (Same.trans s1 q1)
def sp_expansion : Sp := fun vs H Q _ => ∃ n d : Nat, True ∧ vs = [.int n, .int d] ∧ n ≤ 1000000 ∧ 1 ≤ d ∧ d ≤ 12 ∧ ∀ (as : List Nat) (p : Addr) H', Ex d n as → Same H H' → H p = none → H' p = some (.tup (iD as)) → Q (.ref p) H'
theorem ok_expansion (T : Txt K mg) : FnOk P w K mg base CX0 5 T.expansion.f T.expansion.fd P_expansion sp_expansion := by
  refine T.expansion.F.ok sc_expansion (fun vs H Q E h => ?_) (fun cdv A outer s H vs Q E hr h => ?_)
  · obtain ⟨n, d, -, rfl, _⟩ := h; rfl
  · obtain ⟨n, d, -, rfl, hn, hd1, hd, k⟩ := h
    refine ⟨_, (pss_cons (ps_expr (pe_call (ok_check_number_and_degree T) (hr.mono (by decide)) rfl T.check_number_and_degree.g T.check_number_and_degree.F.kp (b_check_number_and_degree T) .nil pass0 (pa_cons (pv 0) (pa_cons (pv 1) pa_nil))))
  (pss_one (ps_ret (pe_callTy (r := rTupOf K) call_tuple_of rfl T.n_tuple bo_tuple (pa_cons (pe_call (ok_upper_numbers T) (hr.mono (by decide)) rfl T.upper_numbers.g T.upper_numbers.F.kp (b_upper_numbers T) .nil pass0 (pa_cons (pv 0) (pa_cons (pv 1) pa_nil))) pa_nil))))), ?_⟩
    walk_at "rd"
    refine ⟨n, d, trivial, rfl, hn, hd1, hd, ?_⟩
    walk_at "rd"
    refine ⟨n, d, trivial, rfl, hn, hd1, by omega, fun as p H1 hE s1 np hp => ?_⟩
    walk_at "rd"
    refine ⟨p, _, rfl, .inl ⟨.inl (.inl hp), fun l hl => ?_⟩⟩
    refine k as l _ hE (Same.trans s1 (same_upd hl)) ?_ upd_same
    have q : H1 l = none := hl
    by_cases z : H l = none
    · exact z
    · cases e : H l with
      | none => rfl
      | some o => rw [s1 _ _ e] at q; cases q
def sp_grown : Sp := fun vs H Q _ => ∃ n d : Nat, True ∧ vs = [.int n, .int d] ∧ n ≤ 1000000 ∧ 1 ≤ d ∧ d ≤ 12 ∧ ∀ (as : List Nat) H', Ex d n as → Same H H' → Q (.int ((sumR d as : Nat) : Int)) H'
theorem ok_grown (T : Txt K mg) : FnOk P w K mg base CX0 5 T.grown.f T.grown.fd P_grown sp_grown := by
  refine T.grown.F.ok sc_grown (fun vs H Q E h => ?_) (fun cdv A outer s H vs Q E hr h => ?_)
  · obtain ⟨n, d, -, rfl, _⟩ := h; rfl
  · obtain ⟨n, d, -, rfl, hn, hd1, hd, k⟩ := h
    refine ⟨_, (pss_cons (ps_expr (pe_call (ok_check_number_and_degree T) (hr.mono (by decide)) rfl T.check_number_and_degree.g T.check_number_and_degree.F.kp (b_check_number_and_degree T) .nil pass0 (pa_cons (pv 0) (pa_cons (pv 1) pa_nil))))
  (pss_one (ps_ret (pe_call (ok_raised_sum T) (hr.mono (by decide)) rfl T.raised_sum.g T.raised_sum.F.kp (b_raised_sum T) .nil pass0 (pa_cons (pv 0) (pa_cons (pv 1) pa_nil)))))), ?_⟩
    walk_at "rd"
    refine ⟨n, d, trivial, rfl, hn, hd1, hd, ?_⟩
    walk_at "rd"
    exact ⟨n, d, trivial, rfl, hn, hd1, by omega, k⟩
def sp_law_comb : Sp := fun vs H Q _ => ∃ t m : Nat, True ∧ vs = [.int t, .int m] ∧ t < 2 ^ 21 ∧ m ≤ 16 ∧ Q (.int ((ch t m : Nat) : Int)) H
theorem ok_law_comb (T : Txt K mg) : FnOk P w K mg base CX0 1 T.law_comb.f T.law_comb.fd P_law_comb sp_law_comb := by
  refine T.law_comb.F.ok sc_law_comb (fun vs H Q E h => ?_) (fun cdv A outer s H vs Q E hr h => ?_)
  · obtain ⟨t, m, -, rfl, _⟩ := h; rfl
  · obtain ⟨t, m, -, rfl, ht, hm, k⟩ := h
    refine ⟨_, (pss_cons (ps_set (i := 2) sc_law_comb.nd rfl (Or.inl rfl) pe_int)
  (pss_cons (ps_for PassesOwn.never rfl (pi_range1 rfl T.n_range (pa_cons (pv 1) pa_nil)) (pg_name (i := 3) sc_law_comb.nd rfl (Or.inl rfl)) (pss_one (ps_set (i := 2) sc_law_comb.nd rfl (Or.inl rfl) (pe_op op_fdivZ (pe_op op_mulW (pv 2) (pe_op op_sub (pv 0) (pv 3))) (pe_op op_add (pv 3) pe_int)))))
  (pss_one (ps_ret (pe_ifExp (pt_cmpR op_ge (pv 0) (pv 1) (nomark _)) (pv 2) pe_int))))), ?_⟩
    walk_at "rd"
    refine ⟨by omega, by omega, for_range (lo := 0) (n := m) (fun i σ H' => H' = H ∧ ∃ v, σ = [some (.int t), some (.int m), some (.int ((ch t i : Nat) : Int)), v]) ⟨rfl, none, by rw [ch_0]; rfl⟩ ?_ ?_⟩
    · rintro i σ H' hi ⟨rfl, v, rfl⟩
      have hb := ch_bound ht (show i ≤ 16 by omega)
      walk_at "rd"
      refine ⟨wide_mul (a := 337) (b := 64) (by omega) (by omega) (by decide) (by decide) (by decide), ?_⟩
      walk_at "rd"
      have e : ((ch t i : Int) * ((t : Int) - (0 + (i : Int)))).fdiv (0 + (i : Int) + 1) = ((ch t (i + 1) : Nat) : Int) := by
        rw [Int.zero_add, ← ch_mul]
        exact Int.mul_fdiv_cancel _ (by omega)
      refine ⟨some (.int (0 + (i : Int))), ?_⟩
      simp only [List.set]
      rw [e]
    · rintro σ H' ⟨rfl, v, rfl⟩
      walk_at "rd"
      refine iteD (fun hc => ?_) (fun hc => ?_)
      · walk_at "rd"
        exact k
      · show Q (.int 0) _
        rw [ch_lt t m (by omega)] at k
        exact k
theorem kitA_int2 : PySem.W.kitAny K (.type "int") [.type "tuple", .type "list"] = some false := kitA_int
def sp_alike : Sp := fun vs H Q _ => ∃ x, vs = [.int x, .int x] ∧ ∀ H', Same H H' → Q (.bl true) H'
theorem ok_law_alike (T : Txt K mg) : FnOk P w K mg base CX0 1 T.law_alike.f T.law_alike.fd P_law_alike sp_alike := by
  refine T.law_alike.F.ok sc_law_alike (fun vs H Q E h => ?_) (fun cdv A outer s H vs Q E hr h => ?_)
  · obtain ⟨x, rfl, _⟩ := h; rfl
  · obtain ⟨x, rfl, k⟩ := h
    have G0 : FnOk P w K mg base CX0 0 T.law_alike.f T.law_alike.fd P_law_alike (fun _ _ _ _ => False) := fn_never
    refine ⟨_, (pss_cons (ps_if (pt_val (pe_callB (r := rIsiT K) call_isiT rfl T.n_isinstance bo_isinstance (pa_cons (pv 1) (pa_cons (pe_tup (pa_cons (pe_bltn (v := .ty "tuple") rfl T.n_tuple bo_tuple rfl) (pa_cons (pe_bltn (v := .ty "list") rfl T.n_list bo_list rfl) pa_nil))) pa_nil)))) (pss_cons (ps_if (PW.pt (pw_or (pt_not (pt_val (pe_callB (r := rIsiT K) call_isiT rfl T.n_isinstance bo_isinstance (pa_cons (pv 0) (pa_cons (pe_tup (pa_cons (pe_bltn (v := .ty "tuple") rfl T.n_tuple bo_tuple rfl) (pa_cons (pe_bltn (v := .ty "list") rfl T.n_list bo_list rfl) pa_nil))) pa_nil))))) (pw_or1 (pt_cmpR op_ne (pe_callB (r := rIsi K) call_isi rfl T.n_isinstance bo_isinstance (pa_cons (pv 0) (pa_cons (pe_bltn (v := .ty "list") rfl T.n_list bo_list rfl) pa_nil))) (pe_callB (r := rIsi K) call_isi rfl T.n_isinstance bo_isinstance (pa_cons (pv 1) (pa_cons (pe_bltn (v := .ty "list") rfl T.n_list bo_list rfl) pa_nil))) (nomark _))))) (pss_one (ps_ret pe_bl)) pss_nil)
  (pss_cons (ps_if (pt_cmpR op_ne (pe_callB (r := rLenS K) call_len_seq rfl T.n_len bo_len (pa_cons (pv 0) pa_nil)) (pe_callB (r := rLenS K) call_len_seq rfl T.n_len bo_len (pa_cons (pv 1) pa_nil)) (nomark _)) (pss_one (ps_ret pe_bl)) pss_nil)
  (pss_one (ps_ret (pe_cmpR (op_eqD hr.units) (pe_lc (own := [("k", 2)]) rfl sc_law_alike.nd (pi_range1 rfl T.n_range (pa_cons (pe_callB (r := rLenS K) call_len_seq rfl T.n_len bo_len (pa_cons (pv 1) pa_nil)) pa_nil)) (blkOk_by (own := [("k", 2)]) (N := N_law_alike) (sc := defScope s_law_alike) (by decide +kernel)) (fun _ _ _ _ _ => (pg_name (i := 2) sc_law_alike.nd rfl (Or.inl rfl))) (fun _ _ _ _ _ => pts_one (pt_not (pt_val (pe_call G0 (hr.mono (by decide)) rfl T.law_alike.g T.law_alike.F.kp (b_law_alike T) .nil pass0 (pa_cons (pe_ix (r := rIxT K) ix_tup (pv 0) (pv 2) (fun _ _ => rfl)) (pa_cons (pe_ix (r := rIxT K) ix_tup (pv 1) (pv 2) (fun _ _ => rfl)) pa_nil)))))) (fun _ _ _ _ _ => (pv 2))) (pe_lst pa_nil) (nomark _)))))) pss_nil)
  (pss_cons (ps_if (PW.pt (pw_or (pt_cmpR op_isN (pv 1) pe_non (nomark _)) (pw_or1 (pt_val (pe_callB (r := rIsi K) call_isi rfl T.n_isinstance bo_isinstance (pa_cons (pv 1) (pa_cons (pe_bltn (v := .ty "str") rfl T.n_str bo_str rfl) pa_nil))))))) (pss_one (ps_ret (pe_and (pe_cmpR op_eq (pv 0) (pv 1) (nomark _)) (pe_one (pe_cmpR op_eq (pe_callB (r := rIsi K) call_isi rfl T.n_isinstance bo_isinstance (pa_cons (pv 0) (pa_cons (pe_bltn (v := .ty "str") rfl T.n_str bo_str rfl) pa_nil))) (pe_callB (r := rIsi K) call_isi rfl T.n_isinstance bo_isinstance (pa_cons (pv 1) (pa_cons (pe_bltn (v := .ty "str") rfl T.n_str bo_str rfl) pa_nil))) (nomark _)))))) pss_nil)
  (pss_one (ps_ret (pe_and (pe_callB (r := rIsi K) call_isi rfl T.n_isinstance bo_isinstance (pa_cons (pv 0) (pa_cons (pe_bltn (v := .ty "int") rfl T.n_int bo_int rfl) pa_nil))) (pe_and (pe_cmpR op_eq (pe_callB (r := rIsi K) call_isi rfl T.n_isinstance bo_isinstance (pa_cons (pv 0) (pa_cons (pe_bltn (v := .ty "bool") rfl T.n_bool bo_bool rfl) pa_nil))) (pe_callB (r := rIsi K) call_isi rfl T.n_isinstance bo_isinstance (pa_cons (pv 1) (pa_cons (pe_bltn (v := .ty "bool") rfl T.n_bool bo_bool rfl) pa_nil))) (nomark _)) (pe_one (pe_cmpR op_eq (pv 0) (pv 1) (nomark _))))))))), ?_⟩
    walk_at "rd"
    refine ⟨two_line, fun p hp => ?_⟩
    refine ⟨_, _, _, _, _, _, rfl, upd_same, .cons (.ty _) (.cons (.ty _) .nil), .base (.int _), kitA_int, ?_⟩
    walk_at "rd"
    show Q _ _
    rw [decide_eq_true rfl]
    exact k _ (same_upd hp)
end

/-! ### the law's own draws -/
/-- the law's row at r: the script, how many cells are taken, a mixed number, a cell's rest -/
def SqN (K : PySem.W.Frag) (H : Hp) (r sa : Addr) (xs : List V) : Prop := (Rd H sa (.lst xs) ∧ sa ≠ r) ∨
  ∃ (o : Obj) (its : Array Value) (n : Nat), K.lookup sa = some o ∧ o.cls = .type "list" ∧ o.dict = none ∧ o.data = .seq its n ∧ its.size ≤ sizeLine ∧ Vals xs its.toList
theorem SqN.sq {K : PySem.W.Frag} {H : Hp} {r sa : Addr} {xs : List V} (h : SqN K H r sa xs) : SqL K H sa xs := by
  rcases h with ⟨h, _⟩ | h
  · exact .inl h
  · exact .inr h
theorem sqn_ne {K : PySem.W.Frag} {H : Hp} {r sa : Addr} {o : HO} {xs : List V} (h : SqN K H r sa xs) : SqN K (upd H r o) r sa xs := by
  rcases h with ⟨h | ⟨u, h⟩, n⟩ | h
  · exact .inl ⟨.inl ((upd_ne n).trans h), n⟩
  · exact .inl ⟨.inr ⟨u, (upd_ne n).trans h⟩, n⟩
  · exact .inr h
def RowAt (K : PySem.W.Frag) (H : Hp) (r sa : Addr) (ns : List Int) : Prop := ∃ (p s e : Int),
  H r = some (.lst [.ref sa, .int p, .int s, .int e]) ∧ SqN K H r sa (ns.map V.int) ∧ 0 ≤ p ∧ 0 ≤ s ∧ s < 2147483647 ∧ 0 ≤ e
/-- nothing but the row has changed -/
def ButRow (r : Addr) (H H' : Hp) : Prop := ∀ b, b ≠ r → H' b = H b
theorem RowAt.of {K : PySem.W.Frag} {H : Hp} {r sa : Addr} {ns : List Int} {p s e : Int} {xs : List V} (hx : xs = [.ref sa, .int p, .int s, .int e]) (hS : SqN K H r sa (ns.map V.int))
    (h1 : 0 ≤ p) (h2 : 0 ≤ s) (h3 : s < 2147483647) (h4 : 0 ≤ e) : RowAt K (upd H r (.lst xs)) r sa ns := by
  subst hx
  exact ⟨p, s, e, upd_same, sqn_ne hS, h1, h2, h3, h4⟩
theorem rd_sameL {H H' : Hp} {a : Addr} {xs : List V} (h : Rd H a (.lst xs)) (s : Same H H') : Rd H' a (.lst xs) := by
  rcases h with h | ⟨u, h⟩
  · exact .inl (s _ _ h)
  · exact .inr ⟨u, s _ _ h⟩
theorem RowAt.same {K : PySem.W.Frag} {H H' : Hp} {r sa : Addr} {ns : List Int} (h : RowAt K H r sa ns) (s : Same H H') : RowAt K H' r sa ns := by
  obtain ⟨p, sd, e, hrow, hS, hb⟩ := h
  refine ⟨p, sd, e, s _ _ hrow, ?_, hb⟩
  rcases hS with ⟨q, n⟩ | q
  · exact .inl ⟨rd_sameL q s, n⟩
  · exact .inr q
theorem ButRow.of {H : Hp} {r : Addr} {o : HO} : ButRow r H (upd H r o) := fun b n => upd_ne n
section
variable {P : Program} {w : World} {K : PySem.W.Frag} {mg : Str → Option Value} {base : Heap}
def sp_law_taken (K : PySem.W.Frag) : Sp := fun vs H Q _ => ∃ (r sa : Addr) (ns : List Int) (m : Int), vs = [.ref r, .int m] ∧ RowAt K H r sa ns ∧ 1 ≤ m ∧ m ≤ 1000000000 ∧
  ∀ (v : Int) H', 0 ≤ v → v < m → RowAt K H' r sa ns → ButRow r H H' → Q (.int v) H'
theorem ok_law_taken (T : Txt K mg) : FnOk P w K mg base CX0 1 T.law_taken.f T.law_taken.fd P_law_taken (sp_law_taken K) := by
  refine T.law_taken.F.ok sc_law_taken (fun vs H Q E h => ?_) (fun cdv A outer s H vs Q E hr h => ?_)
  · obtain ⟨r, sa, ns, m, rfl, _⟩ := h; rfl
  · obtain ⟨r, sa, ns, m, rfl, ⟨p, sd, e, hrow, hS, hp, hs, hs2, he⟩, hm, hm2, k⟩ := h
    refine ⟨_, (pss_cons (ps_if (pt_cmpR op_gt (pe_ix (r := rIxL K) ix_list (pv 0) pe_int (fun _ _ => rfl)) pe_int (nomark _)) (pss_cons (ps_set (i := 2) sc_law_taken.nd rfl (Or.inl rfl) (pe_op op_mod (pe_callTy call_int1 rfl T.n_int bo_int (pa_cons (pe_ix (r := rIxL K) ix_list (pv 0) pe_int (fun _ _ => rfl)) pa_nil)) (pv 1)))
  (pss_cons (ps_asg (pe_op op_fdivZ (pe_ix (r := rIxL K) ix_list (pv 0) pe_int (fun _ _ => rfl)) (pv 1)) (pg_sub (pv 0) pe_int set_list))
  (pss_one (ps_ret (pv 2))))) pss_nil)
  (pss_cons (ps_asg (pe_op op_add (pe_ix (r := rIxL K) ix_list (pv 0) pe_int (fun _ _ => rfl)) pe_int) (pg_sub (pv 0) pe_int set_list))
  (pss_cons (ps_if (pt_cmpR op_gt (pe_ix (r := rIxL K) ix_list (pv 0) pe_int (fun _ _ => rfl)) (pe_callB (r := rLenS K) call_len_seq rfl T.n_len bo_len (pa_cons (pe_ix (r := rIxL K) ix_list (pv 0) pe_int (fun _ _ => rfl)) pa_nil)) (nomark _)) (pss_cons (ps_asg (pe_op op_mod (pe_callTy call_int1 rfl T.n_int bo_int (pa_cons (pe_op op_add (pe_op op_mulW (pe_ix (r := rIxL K) ix_list (pv 0) pe_int (fun _ _ => rfl)) pe_int) pe_int) pa_nil)) pe_int) (pg_sub (pv 0) pe_int set_list))
  (pss_one (ps_ret (pe_op op_mod (pe_callTy call_int1 rfl T.n_int bo_int (pa_cons (pe_op op_fdivZ (pe_ix (r := rIxL K) ix_list (pv 0) pe_int (fun _ _ => rfl)) pe_int) pa_nil)) (pv 1))))) pss_nil)
  (pss_cons (ps_set (i := 3) sc_law_taken.nd rfl (Or.inl rfl) (pe_ix (r := rIxL K) ix_list (pe_ix (r := rIxL K) ix_list (pv 0) pe_int (fun _ _ => rfl)) (pe_op op_sub (pe_ix (r := rIxL K) ix_list (pv 0) pe_int (fun _ _ => rfl)) pe_int) (fun _ _ => rfl)))
  (pss_cons (ps_asg (pe_op op_mod (pe_callTy call_int1 rfl T.n_int bo_int (pa_cons (pe_op op_add (pe_op op_add (pe_op op_mulW (pe_ix (r := rIxL K) ix_list (pv 0) pe_int (fun _ _ => rfl)) pe_int) (pv 3)) pe_int) pa_nil)) pe_int) (pg_sub (pv 0) pe_int set_list))
  (pss_cons (ps_if (pt_cmpR op_ge (pv 3) (pe_op op_powW pe_int pe_int) (nomark _)) (pss_one (ps_asg (pe_op op_fdivZ (pv 3) (pv 1)) (pg_sub (pv 0) pe_int set_list))) pss_nil)
  (pss_one (ps_ret (pe_op op_mod (pe_callTy call_int1 rfl T.n_int bo_int (pa_cons (pv 3) pa_nil)) (pv 1)))))))))), ?_⟩
    walk_at "rd"
    refine iteD (fun h1 => ?_) (fun h1 => ?_)
    · walk_at "rd"
      refine k _ _ (Int.emod_nonneg _ (by omega)) (Int.emod_lt_of_pos _ (by omega)) (.of rfl hS hp hs hs2 ?_) .of
      rw [Int.fdiv_eq_ediv_of_nonneg _ (by omega)]
      exact Int.ediv_nonneg he (by omega)
    · walk_at "rd"
      refine ⟨_, _, rfl, .inl (sqn_ne hS).sq, ?_⟩
      walk_at "rd"
      refine iteD (fun h2 => ?_) (fun h2 => ?_)
      · walk_at "rd"
        refine k _ _ (Int.emod_nonneg _ (by omega)) (Int.emod_lt_of_pos _ (by omega)) (.of rfl (sqn_ne hS) (show 0 ≤ p + 1 by omega) (Int.emod_nonneg _ (by omega)) (Int.emod_lt_of_pos _ (by omega)) he) fun b n => ?_
        rw [upd_ne n, upd_ne n]
      · rw [List.length_map] at h2
        obtain ⟨c, hc⟩ : ∃ c, ns[p.toNat]? = some c := ⟨_, List.getElem?_eq_getElem (by omega)⟩
        have hat : atI (ns.map V.int) (p + 1 - 1) = some (V.int c) := by
          rw [show p + 1 - 1 = (p.toNat : Int) by omega]
          refine atI_nat ?_
          rw [List.getElem?_map, hc]; rfl
        walk_at "rd"
        refine ⟨_, _, _, _, rfl, rfl, (sqn_ne hS).sq, hat, ?_⟩
        walk_at "rd"
        refine iteD (fun h3 => ?_) (fun h3 => ?_)
        · walk_at "rd"
          have h3' : (0 : Int) ≤ c := by
            have : ((10 : Int) ^ (18 : Int).toNat) = 1000000000000000000 := by decide
            omega
          refine k _ _ (Int.emod_nonneg _ (by omega)) (Int.emod_lt_of_pos _ (by omega)) (.of rfl (sqn_ne (sqn_ne hS)) (show 0 ≤ p + 1 by omega) (Int.emod_nonneg _ (by omega)) (Int.emod_lt_of_pos _ (by omega)) ?_) fun b n => ?_
          · rw [Int.fdiv_eq_ediv_of_nonneg _ (by omega)]
            exact Int.ediv_nonneg h3' (by omega)
          · rw [upd_ne n, upd_ne n, upd_ne n]
        · walk_at "rd"
          refine k _ _ (Int.emod_nonneg _ (by omega)) (Int.emod_lt_of_pos _ (by omega)) (.of rfl (sqn_ne hS) (show 0 ≤ p + 1 by omega) (Int.emod_nonneg _ (by omega)) (Int.emod_lt_of_pos _ (by omega)) he) fun b n => ?_
          rw [upd_ne n, upd_ne n]
end

local macro_rules | `(tactic| walk_at "rd1") => `(tactic| refine ⟨_, _, _, _, rfl, rfl, .inl (.inl (by assumption)), (by assumption), ?_⟩)
section
variable {P : Program} {w : World} {K : PySem.W.Frag} {mg : Str → Option Value} {base : Heap}
theorem em_cases {p G : Prop} (a : p → G) (b : ¬ p → G) : G := by
  by_cases h : p
  · exact a h
  · exact b h
theorem ex_zero {d : Nat} {as : List Nat} (h : Ex d 0 as) : as = [] := by
  cases as with
  | nil => rfl
  | cons v as =>
    generalize hz : 0 = z at h
    cases h with
    | cons q1 q2 q3 _ => have := ch_pos q1; omega
theorem ex_eq_sum {d n : Nat} {as : List Nat} (h : Ex d n as) : sumC d (as.take as.length) = n := by rw [List.take_length]; exact h.sum
def topV (as : List Nat) (i : Nat) : V := if i = 0 then .non else .int ((as.getD (i - 1) 0 : Nat) : Int)
def sp_law (K : PySem.W.Frag) : Sp := fun vs H Q _ => ∃ (sa : Addr) (ns : List Int), vs = [.ref sa] ∧ SqL K H sa (ns.map V.int) ∧ ∀ H', Q (.bl true) H'
theorem ok_law (T : Txt K mg) : FnOk P w K mg base CX0 6 T.law.f T.law.fd P_law (sp_law K) := by
  refine T.law.F.ok sc_law (fun vs H Q E h => ?_) (fun cdv A outer s H vs Q E hr h => ?_)
  · obtain ⟨sa, ns, rfl, _⟩ := h; rfl
  · obtain ⟨sa, ns, rfl, hS, k⟩ := h
    refine ⟨_, (pss_cons (ps_set (i := 1) sc_law.nd rfl (Or.inl rfl) (pe_lst (pa_cons (pv 0) (pa_cons pe_int (pa_cons pe_int (pa_cons pe_int pa_nil))))))
  (pss_cons (ps_for PassesOwn.never rfl (pi_range1 rfl T.n_range (pa_cons pe_int pa_nil)) (pg_name (i := 2) sc_law.nd rfl (Or.inl rfl)) (pss_cons (ps_par rfl sc_law.nd (i := 3) (j := 4) rfl rfl (by decide) rfl rfl (pa_cons (pe_call (ok_law_taken T) (hr.mono (by decide)) rfl T.law_taken.g T.law_taken.F.kp (b_law_taken T) .nil pass0 (pa_cons (pv 1) (pa_cons (pe_op op_add (pe_ix (r := rIxL K) ix_list (pe_lst (pa_cons pe_int (pa_cons pe_int (pa_cons pe_int (pa_cons (pe_op op_powW pe_int pe_int) pa_nil))))) (pe_call (ok_law_taken T) (hr.mono (by decide)) rfl T.law_taken.g T.law_taken.F.kp (b_law_taken T) .nil pass0 (pa_cons (pv 1) (pa_cons pe_int pa_nil))) (fun _ _ => rfl)) pe_int) pa_nil))) (pa_cons (pe_op op_add pe_int (pe_call (ok_law_taken T) (hr.mono (by decide)) rfl T.law_taken.g T.law_taken.F.kp (b_law_taken T) .nil pass0 (pa_cons (pv 1) (pa_cons pe_int pa_nil)))) pa_nil)) rfl)
  (pss_cons (ps_asg (pe_tup (pa_cons (pe_call (ok_expansion T) (hr.mono (by decide)) rfl T.expansion.g T.expansion.F.kp (b_expansion T) .nil pass0 (pa_cons (pv 3) (pa_cons (pv 4) pa_nil))) (pa_cons pe_non (pa_cons pe_int (pa_cons pe_int pa_nil))))) (pg_tup rfl (pgs_cons (pg_name (i := 5) sc_law.nd rfl (Or.inl rfl)) (pgs_cons (pg_name (i := 6) sc_law.nd rfl (Or.inl rfl)) (pgs_cons (pg_name (i := 7) sc_law.nd rfl (Or.inl rfl)) (pgs_cons (pg_name (i := 8) sc_law.nd rfl (Or.inl rfl)) pgs_nil))))))
  (pss_cons (ps_if (PW.pt (pw_or (pt_not (pt_val (pe_callB (r := rIsi K) call_isi rfl T.n_isinstance bo_isinstance (pa_cons (pv 5) (pa_cons (pe_bltn (v := .ty "tuple") rfl T.n_tuple bo_tuple rfl) pa_nil))))) (pw_or1 (pt_cmpR op_gt (pe_callB (r := rLenS K) call_len_seq rfl T.n_len bo_len (pa_cons (pv 5) pa_nil)) (pv 4) (nomark _))))) (pss_one (ps_ret pe_bl)) pss_nil)
  (pss_cons (ps_for PassesOwn.never rfl (pi_range1 rfl T.n_range (pa_cons (pe_callB (r := rLenS K) call_len_seq rfl T.n_len bo_len (pa_cons (pv 5) pa_nil)) pa_nil)) (pg_name (i := 9) sc_law.nd rfl (Or.inl rfl)) (pss_cons (ps_if (PW.pt (pw_or (pt_not (pt_val (pe_callB (r := rIsi K) call_isi rfl T.n_isinstance bo_isinstance (pa_cons (pe_ix (r := rIxT K) ix_tup (pv 5) (pv 9) (fun _ _ => rfl)) (pa_cons (pe_bltn (v := .ty "int") rfl T.n_int bo_int rfl) pa_nil))))) (pw_or (pt_val (pe_callB (r := rIsi K) call_isi rfl T.n_isinstance bo_isinstance (pa_cons (pe_ix (r := rIxT K) ix_tup (pv 5) (pv 9) (fun _ _ => rfl)) (pa_cons (pe_bltn (v := .ty "bool") rfl T.n_bool bo_bool rfl) pa_nil)))) (pw_or1 (pt_cmpR op_lt (pe_ix (r := rIxT K) ix_tup (pv 5) (pv 9) (fun _ _ => rfl)) (pe_op op_sub (pv 4) (pv 9)) (nomark _)))))) (pss_one (ps_ret pe_bl)) pss_nil)
  (pss_cons (ps_if (PW.pt (pw_and (pt_cmpR op_notN (pv 6) pe_non (nomark _)) (pw_and1 (pt_cmpR op_ge (pe_ix (r := rIxT K) ix_tup (pv 5) (pv 9) (fun _ _ => rfl)) (pv 6) (nomark _))))) (pss_one (ps_ret pe_bl)) pss_nil)
  (pss_cons (ps_set (i := 6) sc_law.nd rfl (Or.inl rfl) (pe_ix (r := rIxT K) ix_tup (pv 5) (pv 9) (fun _ _ => rfl)))
  (pss_one (ps_par rfl sc_law.nd (i := 7) (j := 8) rfl rfl (by decide) rfl rfl (pa_cons (pe_op op_add (pv 7) (pe_call (ok_law_comb T) (hr.mono (by decide)) rfl T.law_comb.g T.law_comb.F.kp (b_law_comb T) .nil pass0 (pa_cons (pv 6) (pa_cons (pe_op op_sub (pv 4) (pv 9)) pa_nil)))) (pa_cons (pe_op op_add (pv 8) (pe_call (ok_law_comb T) (hr.mono (by decide)) rfl T.law_comb.g T.law_comb.F.kp (b_law_comb T) .nil pass0 (pa_cons (pe_op op_add (pv 6) pe_int) (pa_cons (pe_op op_add (pe_op op_sub (pv 4) (pv 9)) pe_int) pa_nil)))) pa_nil)) rfl))))))
  (pss_cons (ps_if (PW.pt (pw_or (pt_cmpR op_ne (pv 7) (pv 3) (nomark _)) (pw_or1 (pt_not (pt_val (pe_call (ok_law_alike T) (hr.mono (by decide)) rfl T.law_alike.g T.law_alike.F.kp (b_law_alike T) .nil pass0 (pa_cons (pe_call (ok_grown T) (hr.mono (by decide)) rfl T.grown.g T.grown.F.kp (b_grown T) .nil pass0 (pa_cons (pv 3) (pa_cons (pv 4) pa_nil))) (pa_cons (pv 8) pa_nil)))))))) (pss_one (ps_ret pe_bl)) pss_nil)
  (pss_cons (ps_if (PW.pt (pw_and (pt_cmpR op_gt (pv 3) pe_int (nomark _)) (pw_and1 (pt_cmpR op_ge (pe_call (ok_grown T) (hr.mono (by decide)) rfl T.grown.g T.grown.F.kp (b_grown T) .nil pass0 (pa_cons (pe_op op_sub (pv 3) pe_int) (pa_cons (pv 4) pa_nil))) (pv 8) (nomark _))))) (pss_one (ps_ret pe_bl)) pss_nil)
  (pss_cons (ps_set (i := 10) sc_law.nd rfl (Or.inl rfl) (pe_op op_add pe_int (pe_call (ok_law_taken T) (hr.mono (by decide)) rfl T.law_taken.g T.law_taken.F.kp (b_law_taken T) .nil pass0 (pa_cons (pv 1) (pa_cons pe_int pa_nil)))))
  (pss_one (ps_if (pt_cmpR op_ne (pe_call (ok_grown T) (hr.mono (by decide)) rfl T.grown.g T.grown.F.kp (b_grown T) .nil pass0 (pa_cons (pe_call (ok_law_comb T) (hr.mono (by decide)) rfl T.law_comb.g T.law_comb.F.kp (b_law_comb T) .nil pass0 (pa_cons (pe_op op_sub (pe_op op_add (pv 4) (pv 10)) pe_int) (pa_cons (pe_op op_sub (pv 10) pe_int) pa_nil))) (pa_cons (pv 4) pa_nil))) (pe_call (ok_law_comb T) (hr.mono (by decide)) rfl T.law_comb.g T.law_comb.F.kp (b_law_comb T) .nil pass0 (pa_cons (pe_op op_add (pv 4) (pv 10)) (pa_cons (pe_op op_sub (pv 10) pe_int) pa_nil))) (nomark _)) (pss_one (ps_ret pe_bl)) pss_nil))))))))))
  (pss_one (ps_ret (pe_cmpR op_eq (pe_call (ok_grown T) (hr.mono (by decide)) rfl T.grown.g T.grown.F.kp (b_grown T) .nil pass0 (pa_cons pe_int (pa_cons (pe_op op_add pe_int (pe_call (ok_law_taken T) (hr.mono (by decide)) rfl T.law_taken.g T.law_taken.F.kp (b_law_taken T) .nil pass0 (pa_cons (pv 1) (pa_cons pe_int pa_nil)))) pa_nil))) pe_int (nomark _)))))), ?_⟩
    walk_at "rd"
    refine ⟨(show 4 ≤ sizeLine by decide), fun r hrn => ?_⟩
    have row0 : RowAt K (upd H r (.lst [.ref sa, .int 0, .int 4156, .int 0])) r sa ns := by
      refine .of (ns := ns) rfl ?_ (by decide) (by decide) (by decide) (by decide)
      rcases hS with hS | hS
      · refine .inl ⟨hS, ?_⟩
        rcases hS with h | ⟨u, h⟩ <;> exact ne_of_none h hrn
      · exact .inr hS
    walk_at "rd"
    refine ⟨by decide, by decide, for_range (lo := 0) (n := 4) (fun i σ H' => RowAt K H' r sa ns ∧ ∃ v2 v3 v4 v5 v6 v7 v8 v9 v10, σ = [some (.ref sa), some (.ref r), v2, v3, v4, v5, v6, v7, v8, v9, v10])
      ⟨row0, none, none, none, none, none, none, none, none, none, rfl⟩ ?_ ?_⟩
    · rintro i σ H2 hi ⟨row2, v2, v3, v4, v5, v6, v7, v8, v9, v10, rfl⟩
      walk_at "rd"
      refine ⟨(show 4 ≤ sizeLine by decide), fun l hl => ?_⟩
      have s3 := same_upd (o := .lst [.int 4, .int 40, .int 1000, .int ((10 : Int) ^ (6 : Int).toNat)]) hl
      have nlr : l ≠ r := fun z => by obtain ⟨_, _, _, e, _⟩ := row2; rw [z, e] at hl; cases hl
      walk_at "rd"
      refine ⟨r, sa, ns, 4, rfl, row2.same s3, by decide, by decide, fun c H3 c0 c4 row3 b3 => ?_⟩
      have hl3 : H3 l = some (.lst [.int 4, .int 40, .int 1000, .int ((10 : Int) ^ (6 : Int).toNat)]) := (b3 l nlr).trans upd_same
      obtain ⟨m, hm1, hm2, hat⟩ : ∃ m : Int, 0 ≤ m ∧ m ≤ 1000000 ∧ atI [V.int 4, V.int 40, V.int 1000, V.int ((10 : Int) ^ (6 : Int).toNat)] c = some (.int m) := by
        have : c = 0 ∨ c = 1 ∨ c = 2 ∨ c = 3 := by omega
        rcases this with rfl | rfl | rfl | rfl
        · exact ⟨4, by decide, by decide, rfl⟩
        · exact ⟨40, by decide, by decide, rfl⟩
        · exact ⟨1000, by decide, by decide, rfl⟩
        · exact ⟨(10 : Int) ^ (6 : Int).toNat, by decide, by decide, rfl⟩
      refine ⟨_, _, _, _, rfl, rfl, .inl (.inl hl3), hat, ?_⟩
      walk_at "rd"
      refine ⟨r, sa, ns, m + 1, rfl, row3, by omega, by omega, fun v H4 v0 vm row4 b4 => ?_⟩
      obtain ⟨n, rfl⟩ := Int.eq_ofNat_of_zero_le v0
      have hn : n ≤ 1000000 := by omega
      walk_at "rd"
      refine ⟨r, sa, ns, 12, rfl, row4, by decide, by decide, fun v H5 v0' vm' row5 b5 => ?_⟩
      obtain ⟨d0, rfl⟩ := Int.eq_ofNat_of_zero_le v0'
      have hd0 : d0 < 12 := by omega
      walk_at "rd"
      dsimp only
      rw [show (1 : Int) + (d0 : Int) = ((d0 + 1 : Nat) : Int) by omega]
      generalize hd : d0 + 1 = d
      have hd1 : 1 ≤ d := by omega
      have hd2 : d ≤ 12 := by omega
      walk_at "rd"
      refine ⟨n, d, trivial, rfl, hn, hd1, hd2, fun as p H6 hE s6 np hp => ?_⟩
      have row6 := row5.same s6
      walk_at "rd"
      refine ⟨(show 4 ≤ sizeLine by decide), fun q hq => ?_⟩
      have s7 := same_upd (o := .tup [.ref p, .non, .int 0, .int 0]) hq
      have row7 := row6.same s7
      have hp7 := s7 _ _ hp
      refine ⟨_, _, rfl, .inl (.inl upd_same), rfl, ?_⟩
      generalize upd H6 q (.tup [.ref p, .non, .int 0, .int 0]) = H7 at *
      have hz : (iD as).length = as.length := by simp [iD]
      have hlen := hE.len
      walk_at "rd"
      rw [hz]
      refine iteD (fun hc => absurd hc (by omega)) (fun _ => ?_)
      walk_at "rd"
      refine ⟨by omega, by omega, for_range (lo := 0) (n := (iD as).length) (fun j σ H' => H' = H7 ∧ ∃ x9, σ = [some (.ref sa), some (.ref r), some (.int (0 + (i : Int))), some (.int n), some (.int d), some (.ref p), some (topV as j), some (.int ((sumC d (as.take j) : Nat) : Int)), some (.int ((sumR d (as.take j) : Nat) : Int)), x9, v10])
        ⟨rfl, _, rfl⟩ ?_ ?_⟩
      · rintro j σ H' hj ⟨rfl, x9, rfl⟩
        rw [hz] at hj
        have hge := hE.ge j as[j] (List.getElem?_eq_getElem hj)
        have hbd := hE.bound as[j] (List.getElem_mem hj)
        have hdesc : ∀ s, 0 < j → as[j - 1]? = some s → as[j] < s := fun s h0 hs => hE.desc (j - 1) s as[j] hs (by rw [show j - 1 + 1 = j by omega]; exact List.getElem?_eq_getElem hj)
        have htk := take_snoc (List.getElem?_eq_getElem hj)
        have hat2 : atI (iD as) (0 + (j : Int)) = some (V.int ((as[j] : Nat) : Int)) := by
          rw [Int.zero_add]
          refine atI_nat ?_
          unfold iD
          rw [List.getElem?_map, List.getElem?_eq_getElem hj]
          rfl
        walk_at "rd"
        refine iteD (fun hc => absurd hc (by omega)) (fun _ => ?_)
        walk_at "rd"
        refine em_cases (p := j = 0) (fun h0 => ?_) (fun h0 => ?_)
        focus
          have e : topV as j = .non := if_pos h0
          rw [e]
          refine iteF ?_
        rotate_left
        focus
          have e : topV as j = .int ((as.getD (j - 1) 0 : Nat) : Int) := if_neg h0
          have h2 := hdesc (as.getD (j - 1) 0) (by omega) (by rw [List.getD_eq_getElem?_getD, List.getElem?_eq_getElem (by omega)]; rfl)
          rw [e]
          refine iteT ?_
          walk_at "rd"
          refine iteD (fun hc => absurd hc (by omega)) (fun _ => ?_)
        all_goals
          walk_at "rd"
          refine ⟨as[j], d - j, trivial, ?_, by omega, by omega, ?_⟩
          · rw [show ((d - j : Nat) : Int) = (d : Int) - (0 + (j : Int)) by omega]; rfl
          walk_at "rd"
          refine ⟨as[j] + 1, d - j + 1, trivial, ?_, by omega, by omega, ?_⟩
          · rw [show ((d - j + 1 : Nat) : Int) = (d : Int) - (0 + (j : Int)) + 1 by omega]; rfl
          walk_at "rd"
          refine ⟨some (.int (0 + (j : Int))), ?_⟩
          have e1 : topV as (j + 1) = .int ((as[j] : Nat) : Int) := by
            unfold topV
            rw [if_neg (by omega), Nat.add_sub_cancel, List.getD_eq_getElem?_getD, List.getElem?_eq_getElem hj]
            rfl
          have e2 : sumC d (as.take (j + 1)) = sumC d (as.take j) + ch as[j] (d - j) := by
            rw [htk, sumC_snoc, List.length_take, Nat.min_eq_left (by omega)]
          have e3 : sumR d (as.take (j + 1)) = sumR d (as.take j) + ch (as[j] + 1) (d - j + 1) := by
            rw [htk, sumR_snoc, List.length_take, Nat.min_eq_left (by omega)]
          rw [e1, e2, e3]
          simp only [List.set, Int.natCast_add]
      · rintro σ H' ⟨rfl, x9, rfl⟩
        rw [hz, List.take_length, hE.sum]
        walk_at "rd"
        refine iteVn (fun hc => absurd rfl hc) (fun _ => ?_)
        walk_at "rd"
        refine ⟨n, d, trivial, rfl, hn, hd1, hd2, fun as2 H8 hE2 s8 => ?_⟩
        rw [← hE.uniq hE2]
        have row8 := row7.same s8
        walk_at "rd"
        intro H9 s9
        have row9 := row8.same s9
        walk_at "rd"
        refine em_cases (p := 0 < n) (fun h0 => ?_) (fun h0 => ?_)
        focus
          refine iteD (fun _ => ?_) (fun hc => absurd (show (0 : Int) < (n : Int) by omega) hc)
          walk_at "rd"
          refine ⟨n - 1, d, trivial, ?_, by omega, hd1, hd2, fun as3 H10 hE3 s10 => ?_⟩
          · rw [show ((n - 1 : Nat) : Int) = (n : Int) - 1 by omega]; rfl
          have row10 := row9.same s10
          have hlt := hE3.mono hE (by omega)
          walk_at "rd"
          refine iteD (fun hc => absurd hc (by omega)) (fun _ => ?_)
        rotate_left
        focus
          have row10 := row9
          refine iteD (fun hc => absurd (show (0 : Int) < (n : Int) from hc) (by omega)) (fun _ => ?_)
        all_goals
          walk_at "rd"
          refine ⟨r, sa, ns, 5, rfl, row10, by decide, by decide, fun v H11 w0 w5 row11 b11 => ?_⟩
          obtain ⟨c, rfl⟩ := Int.eq_ofNat_of_zero_le w0
          have hc5 : c < 5 := by omega
          have hsm := small_comb d (by omega) (c + 1) (by omega)
          rw [show d + (c + 1) - 1 = d + c by omega, Nat.add_sub_cancel] at hsm
          walk_at "rd"
          refine ⟨d + c, c, trivial, ?_, by omega, by omega, ?_⟩
          · show [V.int ((d : Int) + (1 + (c : Int)) - 1), V.int (1 + (c : Int) - 1)] = _
            rw [show (d : Int) + (1 + (c : Int)) - 1 = ((d + c : Nat) : Int) by omega, show 1 + (c : Int) - 1 = (c : Int) by omega]
          walk_at "rd"
          refine ⟨ch (d + c) c, d, trivial, rfl, hsm, hd1, hd2, fun as4 H12 hE4 s12 => ?_⟩
          have row12 := row11.same s12
          walk_at "rd"
          refine ⟨d + c + 1, c, trivial, ?_, by omega, by omega, ?_⟩
          · show [V.int ((d : Int) + (1 + (c : Int))), V.int (1 + (c : Int) - 1)] = _
            rw [show (d : Int) + (1 + (c : Int)) = ((d + c + 1 : Nat) : Int) by omega, show 1 + (c : Int) - 1 = (c : Int) by omega]
          have e4 : sumR d as4 = ch (d + c + 1) c := by
            obtain ⟨d', rfl⟩ : ∃ d', d = d' + 1 := ⟨d - 1, by omega⟩
            rw [ch_symm (d' + 1 + c) c (d' + 1) (by omega)] at hE4
            rw [Ex.one hE4 (by omega)]
            exact ch_symm _ _ _ (by omega)
          rw [e4]
          walk_at "rd"
          refine iteVn (fun hc => absurd rfl hc) (fun _ => ?_)
          walk_at "rd"
          exact ⟨row12, _, _, _, _, _, _, _, _, _, rfl⟩
    · rintro σ H2 ⟨row2, v2, v3, v4, v5, v6, v7, v8, v9, v10, rfl⟩
      walk_at "rd"
      refine ⟨r, sa, ns, 12, rfl, row2, by decide, by decide, fun c H3 c0 c4 row3 b3 => ?_⟩
      obtain ⟨d, rfl⟩ := Int.eq_ofNat_of_zero_le c0
      walk_at "rd"
      refine ⟨0, d + 1, trivial, ?_, by decide, by omega, by omega, fun as H4 hE s4 => ?_⟩
      · rw [show ((d + 1 : Nat) : Int) = 1 + (d : Int) by omega]; rfl
      have e := ex_zero hE
      subst e
      walk_at "rd"
      exact k _
end

/-! ### the end -/
section
open PySem.Spec PyProof.Rows LamX
/-- as the layer's end with tables; handed on besides: the whole top -/
theorem walk_top {l : PySem.W.OpenLaw} {n k : Nat} {q : Program} {loose : List Str} {XP : (Str → Option Value) → Heap → Prop} {YP : World → Heap → Prop} {d : DefRec} {K : Params → PySem.W.Frag} {CX : World → CXT} {x : Str}
    (hn : l.most = some n) (hn2 : n ≤ sizeLine) (hdf : d.params.defaults = []) (hr : Room k callerA) (hY : ∀ (w : World) (h : Heap), YP w h → (K w.params).In h)
    (F : ∀ (w : World) (s₀ : Shared) (mg mb : Str → Option Value) (fa : Addr) (h : Heap), PySem.W.Ground q loose [] XP w s₀ mg mb h → (K w.params).In h → h.Ns mainGlobals mg → mg d.name = some (.ref fa) → LawAtS l w (K w.params) (CX w) k n x mg fa h)
    (hCX : ∀ (w : World) (H : Hp) (s : Shared) (e : Value) (s' : Shared), CX w [] H s (fun _ _ _ => False) e s' → False) :
    PySem.W.WalkO q loose XP YP l.row.toRowW d [] (fun f vs => PySem.call f vs) := by
  refine Att.attach_callB hn hdf fun w s₀ s₁ mg mb fa o pm cd doc a vs ns G Y ho hd hcd hmg hobj hints hlen hbits hg => ?_
  have KX := hY w _ Y
  obtain ⟨fd, cs, sp, hT, nT, C, hb, hsp, hF⟩ := F w s₀ mg mb fa _ G KX G.T.g hmg
  exact law_callTs KX G.T.g G.T.b G.T.builtins G.T.nolimit hg hT nT C G.T.bmain hobj hints (Nat.le_trans hlen hn2) hr hF hb (fun H hH hS => hsp H a ns hlen hbits hH hS) fun H e s' => hCX w H s₁ e s'
/-- the code object and its table of a def, by the written part -/
theorem tab_in {K : PySem.W.Frag} {x : Str} {f c P : Addr} {oc e : Value} {od dd : Option Addr} {fd : FuncData} {vs : Array Value} {s1 s2 : Array (Option Value)} (a : PySem.W.nsIn K mainGlobals x = some (some (.ref f))) (l : K.lookup f = some ⟨oc, od, .func fd, s1⟩) (hc : fd.code = .ref c)
    (lc : K.lookup c = some ⟨e, dd, .fields vs, s2⟩) (hv : vs[11]? = some (.ref P)) : PySem.W.tabIn K x = some (c, P) := by
  unfold PySem.W.tabIn
  rw [a]
  simp only [l, hc, lc, hv]
/-- a whole number of the top that the head does not write out -/
theorem loose_int {q : Program} {lv : List (Str × PySem.W.WData)} {mg : Str → Option Value} {h : Heap} {x : Str} {i : Int} (X : PySem.W.XL q lv mg h) (hm : (x, PySem.W.WData.int i) ∈ lv) : ∃ t, mg x = some (.int i t) := by
  obtain ⟨v, a, r⟩ := X.2.val _ hm
  cases r
  exact ⟨_, a⟩
end

theorem law_at {l : PySem.W.OpenLaw} {w : World} {K : PySem.W.Frag} {mg mb : Str → Option Value} {q : Program} {loose : List Str} {mean : ExcName → Option Value} {fa : Addr} {h : Heap} (TT : PyProof.Rows.Top q loose mean mg mb h) (X : K.In h) (G : h.Ns mainGlobals mg) (hfa : mg "law" = some (.ref fa))
    (T : Txt K mg) : LamX.LawAtS l w K CX0 6 63 "script" mg fa h := by
  have e := hfa.symm.trans T.law.g
  cases e
  refine ⟨T.law.fd, [], sp_law K, fun p hp => (by cases hp), fun p hp => (by cases hp), fun p hp => (by cases hp), fun s u => ?_, fun H a ns hl hbits hT hS => ?_, fun base hb hn hT => ok_law T⟩
  · obtain ⟨oc, od, kV, doc, pm, an, cdv, ct, osl, e, lk, hcd⟩ := T.law.F.ex
    rw [e]
    exact .of_eq rfl
  · exact ⟨a, ns, rfl, hS, fun _ => rfl⟩
theorem fin {l : PySem.W.OpenLaw} {w : World} {K : PySem.W.Frag} {mg mb : Str → Option Value} {q : Program} {loose : List Str} {mean : ExcName → Option Value} {fa : Addr} {h : Heap} {t1 t2 : Tok}
    (TT : PyProof.Rows.Top q loose mean mg mb h) (X : K.In h) (G : h.Ns mainGlobals mg) (hfa : mg "law" = some (.ref fa))
    (is_integer : DefAt K mg "is_integer" s_is_integer)
    (is_integer_in : DefAt K mg "is_integer_in" s_is_integer_in)
    (check_integer_in : DefAt K mg "check_integer_in" s_check_integer_in)
    (check_number_and_degree : DefAt K mg "check_number_and_degree" s_check_number_and_degree)
    (expansion : DefAt K mg "expansion" s_expansion)
    (upper_numbers : DefAt K mg "upper_numbers" s_upper_numbers)
    (greatest_top : DefAt K mg "greatest_top" s_greatest_top)
    (grown : DefAt K mg "grown" s_grown)
    (raised_sum : DefAt K mg "raised_sum" s_raised_sum)
    (law_taken : DefAt K mg "_law_taken" s_law_taken)
    (law_comb : DefAt K mg "_law_comb" s_law_comb)
    (law_alike : DefAt K mg "_law_alike" s_law_alike)
    (law : DefAt K mg "law" s_law)
    (z1 : PySem.W.nsIn K mainGlobals "len" = some none) (z2 : PySem.W.nsIn K mainGlobals "isinstance" = some none) (z3 : PySem.W.nsIn K mainGlobals "sum" = some none) (z4 : PySem.W.nsIn K mainGlobals "int" = some none) (z5 : PySem.W.nsIn K mainGlobals "bool" = some none)
    (z6 : PySem.W.nsIn K mainGlobals "str" = some none) (z7 : PySem.W.nsIn K mainGlobals "tuple" = some none) (z8 : PySem.W.nsIn K mainGlobals "list" = some none) (z9 : PySem.W.nsIn K mainGlobals "range" = some none) (z10 : PySem.W.nsIn K mainGlobals "enumerate" = some none)
    (y1 : PySem.W.nsIn K mainGlobals "comb" = some (some (.builtin "math.comb")))
    (y2 : PySem.W.nsIn K mainGlobals "MOST_NUMBER" = some (some (.int 1000000 t1))) (y3 : PySem.W.nsIn K mainGlobals "MOST_DEGREE_OF_EXPANSION" = some (some (.int 12 t2))) : LamX.LawAtS l w K CX0 6 63 "script" mg fa h :=
  law_at TT X G hfa
    { is_integer := is_integer, is_integer_in := is_integer_in, check_integer_in := check_integer_in, check_number_and_degree := check_number_and_degree, expansion := expansion, upper_numbers := upper_numbers, greatest_top := greatest_top, grown := grown, raised_sum := raised_sum, law_taken := law_taken, law_comb := law_comb, law_alike := law_alike, law := law, n_len := PySem.W.mg_none_of X G z1, n_isinstance := PySem.W.mg_none_of X G z2, n_sum := PySem.W.mg_none_of X G z3, n_int := PySem.W.mg_none_of X G z4, n_bool := PySem.W.mg_none_of X G z5, n_str := PySem.W.mg_none_of X G z6, n_tuple := PySem.W.mg_none_of X G z7, n_list := PySem.W.mg_none_of X G z8, n_range := PySem.W.mg_none_of X G z9, n_enumerate := PySem.W.mg_none_of X G z10,
      g_comb := PySem.W.mg_of X G y1, tN := t1, g_MOST_NUMBER := PySem.W.mg_of X G y2, tD := t2, g_MOST_DEGREE_OF_EXPANSION := PySem.W.mg_of X G y3 }

end Toy
open PySem PySem.W PyProof.Rows
set_option maxRecDepth 100000 in
set_option maxHeartbeats 0 in
theorem PySem.Challenge.cw_idealcore_k56_expansions_and_growth_holds : PySem.Challenge.rw_idealcore_k56_expansions_and_growth.Holds := by
  w_on; o_law; k_head; (case hw => w_witness2)
  k_fill
  refine Toy.walk_top (l := PySem.Challenge.rw_idealcore_k56_expansions_and_growth) (n := 63) (k := 6) (x := "script") (CX := fun _ => L2.CX0) rfl (by decide) rfl ⟨rfl, by decide, by decide⟩ (fun w h Y => Y) ?F (fun _ _ _ _ _ z => z)
  case F =>
    intro w s0 mg mb fa h GG KX G hmg
    refine' Toy.fin GG.T KX G hmg
      (Toy.defI KX G ?a_is_integer ?l_is_integer ?c_is_integer ?k_is_integer)
      (Toy.defI KX G ?a_is_integer_in ?l_is_integer_in ?c_is_integer_in ?k_is_integer_in)
      (Toy.defI KX G ?a_check_integer_in ?l_check_integer_in ?c_check_integer_in ?k_check_integer_in)
      (Toy.defI KX G ?a_check_number_and_degree ?l_check_number_and_degree ?c_check_number_and_degree ?k_check_number_and_degree)
      (Toy.defI KX G ?a_expansion ?l_expansion ?c_expansion ?k_expansion)
      (Toy.defI KX G ?a_upper_numbers ?l_upper_numbers ?c_upper_numbers ?k_upper_numbers)
      (Toy.defI KX G ?a_greatest_top ?l_greatest_top ?c_greatest_top ?k_greatest_top)
      (Toy.defI KX G ?a_grown ?l_grown ?c_grown ?k_grown)
      (Toy.defI KX G ?a_raised_sum ?l_raised_sum ?c_raised_sum ?k_raised_sum)
      (Toy.defI KX G ?a_law_taken ?l_law_taken ?c_law_taken ?k_law_taken)
      (Toy.defI KX G ?a_law_comb ?l_law_comb ?c_law_comb ?k_law_comb)
      (Toy.defI KX G ?a_law_alike ?l_law_alike ?c_law_alike ?k_law_alike)
      (Toy.defI KX G ?a_law ?l_law ?c_law ?k_law)
      ?z1 ?z2 ?z3 ?z4 ?z5 ?z6 ?z7 ?z8 ?z9 ?z10 ?y1 ?y2 ?y3
    (case z1 => k_is); (case z2 => k_is); (case z3 => k_is); (case z4 => k_is); (case z5 => k_is); (case z6 => k_is); (case z7 => k_is); (case z8 => k_is); (case z9 => k_is); (case z10 => k_is)
    (case a_is_integer => k_is); (case l_is_integer => k_is); (case c_is_integer => k_is); (case k_is_integer => k_is)
    (case a_is_integer_in => k_is); (case l_is_integer_in => k_is); (case c_is_integer_in => k_is); (case k_is_integer_in => k_is)
    (case a_check_integer_in => k_is); (case l_check_integer_in => k_is); (case c_check_integer_in => k_is); (case k_check_integer_in => k_is)
    (case a_check_number_and_degree => k_is); (case l_check_number_and_degree => k_is); (case c_check_number_and_degree => k_is); (case k_check_number_and_degree => k_is)
    (case a_expansion => k_is); (case l_expansion => k_is); (case c_expansion => k_is); (case k_expansion => k_is)
    (case a_upper_numbers => k_is); (case l_upper_numbers => k_is); (case c_upper_numbers => k_is); (case k_upper_numbers => k_is)
    (case a_greatest_top => k_is); (case l_greatest_top => k_is); (case c_greatest_top => k_is); (case k_greatest_top => k_is)
    (case a_grown => k_is); (case l_grown => k_is); (case c_grown => k_is); (case k_grown => k_is)
    (case a_raised_sum => k_is); (case l_raised_sum => k_is); (case c_raised_sum => k_is); (case k_raised_sum => k_is)
    (case a_law_taken => k_is); (case l_law_taken => k_is); (case c_law_taken => k_is); (case k_law_taken => k_is)
    (case a_law_comb => k_is); (case l_law_comb => k_is); (case c_law_comb => k_is); (case k_law_comb => k_is)
    (case a_law_alike => k_is); (case l_law_alike => k_is); (case c_law_alike => k_is); (case k_law_alike => k_is)
    (case a_law => k_is); (case l_law => k_is); (case c_law => k_is); (case k_law => k_is)
    (case y1 => k_is); (case y2 => k_is); (case y3 => k_is)
#print axioms PySem.Challenge.cw_idealcore_k56_expansions_and_growth_holds
namespace Toy

end Toy
