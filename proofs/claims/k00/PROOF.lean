import PyProof.Rows.All
import Wide.All
import OpenK.AllK
import Wide.FinOn
import HandS.ForMost
import HandS.ForExc
import HandS.IsInst
import HandS.Gcd
import HandS.Wide
import HandS.Nested
import HandS.EndTab
import HandS.EndOwn
import PySem.Challenge.RW_idealcore_k00_numbers

set_option Elab.async false
set_option linter.all false
set_option maxRecDepth 100000
set_option maxHeartbeats 4000000
namespace Toy
open PySem L2
/-! ### the text by places -/
def topS (i : Nat) : Stmt := PySem.Challenge.pw_idealcore_k00_numbers.main.body.getD i (.Pass ⟨0, 0, 0, 0⟩)
/-! ### what a def of the top is -/
structure DefAt (K : PySem.W.Frag) (mg : Str → Option Value) (x : Str) (st : Stmt) where
  f : Addr
  fd : FuncData
  F : Fun K x x st f fd
  g : mg x = some (.ref f)
noncomputable def defI {K : PySem.W.Frag} {h : Heap} {mg : Str → Option Value} (X : K.In h) (G : h.Ns mainGlobals mg) {x : Str} {st : Stmt} {f : Addr} {oc : Value} {od an : Option Addr} {osl : Array (Option Value)} {kV doc pm cdv ct : Value}
    (a : PySem.W.nsIn K mainGlobals x = some (some (.ref f))) (l : K.lookup f = some ⟨oc, od, .func (PySem.W.fnOf x x (defArgs st) (defBody st) (defScope st) .none kV doc pm an cdv ct), osl⟩)
    (c : PySem.W.codeIn K cdv x = true) (k : PySem.W.keepIn K (.ref f) = true) : DefAt K mg x st :=
  ⟨f, _, fun_mk (st := st) l c k, PySem.W.mg_of X G a⟩
/-! ### rules of my own -/
section
variable {X : Cx}
/-- // by any divisor but 0, below 2 ^ 9000 in size -/
def CDivZ (_ j : Int) : Prop := j ≠ 0 ∧ j.natAbs.log2 < 9000
theorem op_fdivZ : OpR X (binaryOp .FloorDiv) (rI CDivZ fun i j => .int (i.fdiv j)) := opI fun _ _ _ _ _ _ _ hc q =>
  PyProof.Rows.floordiv_int hc.1 q (.inl (PyProof.noPylong_of_log2 hc.2))
theorem cdivZ {i j : Int} {b : Nat} (h : j ≠ 0) (hb : j.natAbs < 2 ^ b) (h0 : 0 < b) (h9 : b ≤ 9000) : CDivZ i j := ⟨h, Nat.lt_of_lt_of_le (PySem.Flt.log2_lt_of h0 hb) h9⟩
/-- ** with a small exponent -/
def CPowW (i j : Int) : Prop := 0 ≤ j ∧ (Builtin.Int.intBits i : Int) * j ≤ 2 ^ 27
theorem op_powW : OpR X (binaryOp .Pow) (rI CPowW fun i j => .int (i ^ j.toNat)) := opI fun _ _ _ _ _ _ _ hc q =>
  PyProof.Rows.pow_int hc.1 hc.2 q
end
def rLenS (K : PySem.W.Frag) : List V → Hp → VK → Prop := fun xs H Q => ∃ p ys, xs = [.ref p] ∧ (SqL K H p ys ∨ SqT K H p ys) ∧ Q (.int ys.length) H
theorem bo_len : bootBuiltins "len" = some (.builtin "len") := by decide +kernel
theorem bo_isinstance : bootBuiltins "isinstance" = some (.builtin "isinstance") := by decide +kernel
theorem bo_abs : bootBuiltins "abs" = some (.builtin "abs") := by decide +kernel
theorem bo_int : bootBuiltins "int" = some (.type "int") := by decide +kernel
theorem bo_bool : bootBuiltins "bool" = some (.type "bool") := by decide +kernel
theorem bo_str : bootBuiltins "str" = some (.type "str") := by decide +kernel
theorem bo_tuple : bootBuiltins "tuple" = some (.type "tuple") := by decide +kernel
theorem bo_list : bootBuiltins "list" = some (.type "list") := by decide +kernel
/-! ### heaps -/
/-- all but what stands at r is as it was -/
def KeepBut (r : Addr) (H H' : Hp) : Prop := ∀ b o, b ≠ r → H b = some o → H' b = some o
theorem KeepBut.of {r : Addr} {H H' : Hp} (h : Same H H') : KeepBut r H H' := fun b o _ e => h b o e
theorem KeepBut.trans {r : Addr} {H H1 H2 : Hp} (a : KeepBut r H H1) (b : KeepBut r H1 H2) : KeepBut r H H2 := fun c o n e => b c o n (a c o n e)
theorem same_upd {H : Hp} {p : Addr} {o : HO} (h : H p = none) : Same H (upd H p o) := fun b u e => by
  rw [upd_ne (ne_of_none e h)]; exact e
theorem Same.upd' {H H' : Hp} {p : Addr} {o : HO} (s : Same H H') (h : H' p = none) : Same H (upd H' p o) := Same.trans s (same_upd h)
theorem Same.tup {K : PySem.W.Frag} {H H' : Hp} {a : Addr} {xs : List V} (e : Same H H') (h : SqT K H a xs) : SqT K H' a xs := by
  rcases h with (h | ⟨o, h⟩) | h
  · exact .inl (.inl (e _ _ h))
  · exact .inl (.inr ⟨o, e _ _ h⟩)
  · exact .inr h
/-- an own exception class over ValueError, without an __init__ of its own -/
structure ExcAt (K : PySem.W.Frag) (mg : Str → Option Value) (x : Str) where
  C : Addr
  g : mg x = some (.ref C)
  x : PySem.W.excIn K C [.type "ValueError", .type "Exception", .type "BaseException", .type "object"] "ValueError.__new__" = true
  k : PySem.W.keepIn K (.ref C) = true
  be : PySem.W.subIn K (.ref C) (.type "BaseException") = some true
  ty : PySem.W.typeIn K (.ref C) = some (.type "type")
  is : PySem.W.isClsIn K C = true
  se : PySem.W.subIn K (.ref C) (.ref C) = some true
def NBn : Nat := 10 ^ 200
def NBi : Int := 10 ^ 200
theorem nb_eq : NBi = (NBn : Int) := by decide +kernel

/-! ### the defs of the text: places, slots, scopes -/
abbrev s_zero_of : Stmt := topS 8
abbrev N_zero_of : List Str := ["field"]
abbrev P_zero_of : List Str := ["field"]
theorem sc_zero_of : FnScope N_zero_of P_zero_of (defScope s_zero_of) := ⟨rfl, rfl, rfl, by decide +kernel, rfl, by decide +kernel, by decide +kernel⟩

abbrev s_is_zero_in : Stmt := topS 9
abbrev N_is_zero_in : List Str := ["field", "n"]
abbrev P_is_zero_in : List Str := ["field", "n"]
theorem sc_is_zero_in : FnScope N_is_zero_in P_is_zero_in (defScope s_is_zero_in) := ⟨rfl, rfl, rfl, by decide +kernel, rfl, by decide +kernel, by decide +kernel⟩

abbrev s_inverse_modulo : Stmt := topS 10
abbrev N_inverse_modulo : List Str := ["n", "prime", "inverse", "_"]
abbrev P_inverse_modulo : List Str := ["n", "prime"]
theorem sc_inverse_modulo : FnScope N_inverse_modulo P_inverse_modulo (defScope s_inverse_modulo) := ⟨rfl, rfl, rfl, by decide +kernel, rfl, by decide +kernel, by decide +kernel⟩

abbrev s_make_number : Stmt := topS 11
abbrev N_make_number : List Str := ["field", "n", "d", "common"]
abbrev P_make_number : List Str := ["field", "n", "d"]
theorem sc_make_number : FnScope N_make_number P_make_number (defScope s_make_number) := ⟨rfl, rfl, rfl, by decide +kernel, rfl, by decide +kernel, by decide +kernel⟩

abbrev s_add_numbers : Stmt := topS 12
abbrev N_add_numbers : List Str := ["field", "a", "b"]
abbrev P_add_numbers : List Str := ["field", "a", "b"]
theorem sc_add_numbers : FnScope N_add_numbers P_add_numbers (defScope s_add_numbers) := ⟨rfl, rfl, rfl, by decide +kernel, rfl, by decide +kernel, by decide +kernel⟩

abbrev s_multiply_numbers : Stmt := topS 13
abbrev N_multiply_numbers : List Str := ["field", "a", "b"]
abbrev P_multiply_numbers : List Str := ["field", "a", "b"]
theorem sc_multiply_numbers : FnScope N_multiply_numbers P_multiply_numbers (defScope s_multiply_numbers) := ⟨rfl, rfl, rfl, by decide +kernel, rfl, by decide +kernel, by decide +kernel⟩

abbrev s_invert_number : Stmt := topS 14
abbrev N_invert_number : List Str := ["field", "a"]
abbrev P_invert_number : List Str := ["field", "a"]
theorem sc_invert_number : FnScope N_invert_number P_invert_number (defScope s_invert_number) := ⟨rfl, rfl, rfl, by decide +kernel, rfl, by decide +kernel, by decide +kernel⟩

abbrev s_is_integer : Stmt := topS 18
abbrev N_is_integer : List Str := ["value"]
abbrev P_is_integer : List Str := ["value"]
theorem sc_is_integer : FnScope N_is_integer P_is_integer (defScope s_is_integer) := ⟨rfl, rfl, rfl, by decide +kernel, rfl, by decide +kernel, by decide +kernel⟩

abbrev s_is_integer_in : Stmt := topS 19
abbrev N_is_integer_in : List Str := ["value", "low", "high"]
abbrev P_is_integer_in : List Str := ["value", "low", "high"]
theorem sc_is_integer_in : FnScope N_is_integer_in P_is_integer_in (defScope s_is_integer_in) := ⟨rfl, rfl, rfl, by decide +kernel, rfl, by decide +kernel, by decide +kernel⟩

abbrev s_is_tuple_of : Stmt := topS 20
abbrev N_is_tuple_of : List Str := ["value", "many"]
abbrev P_is_tuple_of : List Str := ["value", "many"]
theorem sc_is_tuple_of : FnScope N_is_tuple_of P_is_tuple_of (defScope s_is_tuple_of) := ⟨rfl, rfl, rfl, by decide +kernel, rfl, by decide +kernel, by decide +kernel⟩

abbrev s_is_field : Stmt := topS 21
abbrev N_is_field : List Str := ["value"]
abbrev P_is_field : List Str := ["value"]
theorem sc_is_field : FnScope N_is_field P_is_field (defScope s_is_field) := ⟨rfl, rfl, rfl, by decide +kernel, rfl, by decide +kernel, by decide +kernel⟩

abbrev s_is_fraction : Stmt := topS 22
abbrev N_is_fraction : List Str := ["value"]
abbrev P_is_fraction : List Str := ["value"]
theorem sc_is_fraction : FnScope N_is_fraction P_is_fraction (defScope s_is_fraction) := ⟨rfl, rfl, rfl, by decide +kernel, rfl, by decide +kernel, by decide +kernel⟩

abbrev s_is_number : Stmt := topS 23
abbrev N_is_number : List Str := ["field", "value"]
abbrev P_is_number : List Str := ["field", "value"]
theorem sc_is_number : FnScope N_is_number P_is_number (defScope s_is_number) := ⟨rfl, rfl, rfl, by decide +kernel, rfl, by decide +kernel, by decide +kernel⟩

abbrev s_check_field : Stmt := topS 24
abbrev N_check_field : List Str := ["value"]
abbrev P_check_field : List Str := ["value"]
theorem sc_check_field : FnScope N_check_field P_check_field (defScope s_check_field) := ⟨rfl, rfl, rfl, by decide +kernel, rfl, by decide +kernel, by decide +kernel⟩

abbrev s_check_number : Stmt := topS 25
abbrev N_check_number : List Str := ["field", "value"]
abbrev P_check_number : List Str := ["field", "value"]
theorem sc_check_number : FnScope N_check_number P_check_number (defScope s_check_number) := ⟨rfl, rfl, rfl, by decide +kernel, rfl, by decide +kernel, by decide +kernel⟩

abbrev s_check_integer : Stmt := topS 26
abbrev N_check_integer : List Str := ["value"]
abbrev P_check_integer : List Str := ["value"]
theorem sc_check_integer : FnScope N_check_integer P_check_integer (defScope s_check_integer) := ⟨rfl, rfl, rfl, by decide +kernel, rfl, by decide +kernel, by decide +kernel⟩

abbrev s_number : Stmt := topS 28
abbrev N_number : List Str := ["field", "n", "d"]
abbrev P_number : List Str := ["field", "n", "d"]
theorem sc_number : FnScope N_number P_number (defScope s_number) := ⟨rfl, rfl, rfl, by decide +kernel, rfl, by decide +kernel, by decide +kernel⟩

abbrev s_number_sum : Stmt := topS 29
abbrev N_number_sum : List Str := ["field", "a", "b"]
abbrev P_number_sum : List Str := ["field", "a", "b"]
theorem sc_number_sum : FnScope N_number_sum P_number_sum (defScope s_number_sum) := ⟨rfl, rfl, rfl, by decide +kernel, rfl, by decide +kernel, by decide +kernel⟩

abbrev s_number_product : Stmt := topS 30
abbrev N_number_product : List Str := ["field", "a", "b"]
abbrev P_number_product : List Str := ["field", "a", "b"]
theorem sc_number_product : FnScope N_number_product P_number_product (defScope s_number_product) := ⟨rfl, rfl, rfl, by decide +kernel, rfl, by decide +kernel, by decide +kernel⟩

abbrev s_number_inverse : Stmt := topS 31
abbrev N_number_inverse : List Str := ["field", "a"]
abbrev P_number_inverse : List Str := ["field", "a"]
theorem sc_number_inverse : FnScope N_number_inverse P_number_inverse (defScope s_number_inverse) := ⟨rfl, rfl, rfl, by decide +kernel, rfl, by decide +kernel, by decide +kernel⟩

abbrev s_law_taken : Stmt := topS 33
abbrev N_law_taken : List Str := ["row", "many", "found", "cell"]
abbrev P_law_taken : List Str := ["row", "many"]
theorem sc_law_taken : FnScope N_law_taken P_law_taken (defScope s_law_taken) := ⟨rfl, rfl, rfl, by decide +kernel, rfl, by decide +kernel, by decide +kernel⟩

abbrev s_law_pick : Stmt := topS 34
abbrev N_law_pick : List Str := ["row", "things"]
abbrev P_law_pick : List Str := ["row", "things"]
theorem sc_law_pick : FnScope N_law_pick P_law_pick (defScope s_law_pick) := ⟨rfl, rfl, rfl, by decide +kernel, rfl, by decide +kernel, by decide +kernel⟩

abbrev s_law_integer : Stmt := topS 35
abbrev N_law_integer : List Str := ["row", "found"]
abbrev P_law_integer : List Str := ["row"]
theorem sc_law_integer : FnScope N_law_integer P_law_integer (defScope s_law_integer) := ⟨rfl, rfl, rfl, by decide +kernel, rfl, by decide +kernel, by decide +kernel⟩

abbrev s_law_zero : Stmt := topS 36
abbrev N_law_zero : List Str := ["field"]
abbrev P_law_zero : List Str := ["field"]
theorem sc_law_zero : FnScope N_law_zero P_law_zero (defScope s_law_zero) := ⟨rfl, rfl, rfl, by decide +kernel, rfl, by decide +kernel, by decide +kernel⟩

abbrev s_law_refused : Stmt := topS 37
abbrev N_law_refused : List Str := ["kind", "field", "n", "d", "works", "found"]
abbrev P_law_refused : List Str := ["kind", "field", "n", "d"]
theorem sc_law_refused : FnScope N_law_refused P_law_refused (defScope s_law_refused) := ⟨rfl, rfl, rfl, by decide +kernel, rfl, by decide +kernel, by decide +kernel⟩

abbrev s_law_alike : Stmt := topS 38
abbrev N_law_alike : List Str := ["found", "due", "k"]
abbrev P_law_alike : List Str := ["found", "due"]
theorem sc_law_alike : FnScope N_law_alike P_law_alike (defScope s_law_alike) := ⟨rfl, rfl, rfl, by decide +kernel, rfl, by decide +kernel, by decide +kernel⟩

abbrev s_law_gcd : Stmt := topS 39
abbrev N_law_gcd : List Str := ["a", "b", "turn"]
abbrev P_law_gcd : List Str := ["a", "b"]
theorem sc_law_gcd : FnScope N_law_gcd P_law_gcd (defScope s_law_gcd) := ⟨rfl, rfl, rfl, by decide +kernel, rfl, by decide +kernel, by decide +kernel⟩

abbrev s_law_num : Stmt := topS 40
abbrev N_law_num : List Str := ["field", "n", "d", "k", "shared"]
abbrev P_law_num : List Str := ["field", "n", "d"]
theorem sc_law_num : FnScope N_law_num P_law_num (defScope s_law_num) := ⟨rfl, rfl, rfl, by decide +kernel, rfl, by decide +kernel, by decide +kernel⟩

abbrev s_law : Stmt := topS 41
abbrev N_law : List Str := ["script", "row", "field", "turn", "n", "d", "more", "less", "a", "b", "far"]
abbrev P_law : List Str := ["script"]
theorem sc_law : FnScope N_law P_law (defScope s_law) := ⟨rfl, rfl, rfl, by decide +kernel, rfl, by decide +kernel, by decide +kernel⟩

structure Txt (K : PySem.W.Frag) (mg : Str → Option Value) where
  zero_of : DefAt K mg "zero_of" s_zero_of
  is_zero_in : DefAt K mg "is_zero_in" s_is_zero_in
  inverse_modulo : DefAt K mg "inverse_modulo" s_inverse_modulo
  make_number : DefAt K mg "make_number" s_make_number
  add_numbers : DefAt K mg "add_numbers" s_add_numbers
  multiply_numbers : DefAt K mg "multiply_numbers" s_multiply_numbers
  invert_number : DefAt K mg "invert_number" s_invert_number
  is_integer : DefAt K mg "is_integer" s_is_integer
  is_integer_in : DefAt K mg "is_integer_in" s_is_integer_in
  is_tuple_of : DefAt K mg "is_tuple_of" s_is_tuple_of
  is_field : DefAt K mg "is_field" s_is_field
  is_fraction : DefAt K mg "is_fraction" s_is_fraction
  is_number : DefAt K mg "is_number" s_is_number
  check_field : DefAt K mg "check_field" s_check_field
  check_number : DefAt K mg "check_number" s_check_number
  check_integer : DefAt K mg "check_integer" s_check_integer
  number : DefAt K mg "number" s_number
  number_sum : DefAt K mg "number_sum" s_number_sum
  number_product : DefAt K mg "number_product" s_number_product
  number_inverse : DefAt K mg "number_inverse" s_number_inverse
  law_taken : DefAt K mg "_law_taken" s_law_taken
  law_pick : DefAt K mg "_law_pick" s_law_pick
  law_integer : DefAt K mg "_law_integer" s_law_integer
  law_zero : DefAt K mg "_law_zero" s_law_zero
  law_refused : DefAt K mg "_law_refused" s_law_refused
  law_alike : DefAt K mg "_law_alike" s_law_alike
  law_gcd : DefAt K mg "_law_gcd" s_law_gcd
  law_num : DefAt K mg "_law_num" s_law_num
  law : DefAt K mg "law" s_law
  n_len : mg "len" = none
  n_isinstance : mg "isinstance" = none
  n_abs : mg "abs" = none
  n_int : mg "int" = none
  n_bool : mg "bool" = none
  n_str : mg "str" = none
  n_tuple : mg "tuple" = none
  n_list : mg "list" = none
  n_range : mg "range" = none
  g_gcd : mg "gcd" = some (.builtin "math.gcd")
  ZeroDivisor : ExcAt K mg "ZeroDivisor"
  aPRIMES : Addr
  g_PRIMES : mg "PRIMES" = some (.ref aPRIMES)
  t_PRIMES : ∀ H, SqT K H aPRIMES ([2, 3, 5, 7, 11, 13, 17, 19, 23, 29, 31].map V.int)
  tNB : Tok
  g_NUMBER_BOUND : mg "NUMBER_BOUND" = some (.int NBi tNB)
section
variable {P : Program} {w : World} {K : PySem.W.Frag} {mg : Str → Option Value} {base : Heap}
theorem b_zero_of (T : Txt K mg) : Binds K T.zero_of.fd P_zero_of [] := T.zero_of.F.binds fun _ _ _ _ _ _ us hl => match us, hl with | [_], _ => rfl
theorem b_is_zero_in (T : Txt K mg) : Binds K T.is_zero_in.fd P_is_zero_in [] := T.is_zero_in.F.binds fun _ _ _ _ _ _ us hl => match us, hl with | [_, _], _ => rfl
theorem b_inverse_modulo (T : Txt K mg) : Binds K T.inverse_modulo.fd P_inverse_modulo [] := T.inverse_modulo.F.binds fun _ _ _ _ _ _ us hl => match us, hl with | [_, _], _ => rfl
theorem b_make_number (T : Txt K mg) : Binds K T.make_number.fd P_make_number [] := T.make_number.F.binds fun _ _ _ _ _ _ us hl => match us, hl with | [_, _, _], _ => rfl
theorem b_add_numbers (T : Txt K mg) : Binds K T.add_numbers.fd P_add_numbers [] := T.add_numbers.F.binds fun _ _ _ _ _ _ us hl => match us, hl with | [_, _, _], _ => rfl
theorem b_multiply_numbers (T : Txt K mg) : Binds K T.multiply_numbers.fd P_multiply_numbers [] := T.multiply_numbers.F.binds fun _ _ _ _ _ _ us hl => match us, hl with | [_, _, _], _ => rfl
theorem b_invert_number (T : Txt K mg) : Binds K T.invert_number.fd P_invert_number [] := T.invert_number.F.binds fun _ _ _ _ _ _ us hl => match us, hl with | [_, _], _ => rfl
theorem b_is_integer (T : Txt K mg) : Binds K T.is_integer.fd P_is_integer [] := T.is_integer.F.binds fun _ _ _ _ _ _ us hl => match us, hl with | [_], _ => rfl
theorem b_is_integer_in (T : Txt K mg) : Binds K T.is_integer_in.fd P_is_integer_in [] := T.is_integer_in.F.binds fun _ _ _ _ _ _ us hl => match us, hl with | [_, _, _], _ => rfl
theorem b_is_tuple_of (T : Txt K mg) : Binds K T.is_tuple_of.fd P_is_tuple_of [] := T.is_tuple_of.F.binds fun _ _ _ _ _ _ us hl => match us, hl with | [_, _], _ => rfl
theorem b_is_field (T : Txt K mg) : Binds K T.is_field.fd P_is_field [] := T.is_field.F.binds fun _ _ _ _ _ _ us hl => match us, hl with | [_], _ => rfl
theorem b_is_fraction (T : Txt K mg) : Binds K T.is_fraction.fd P_is_fraction [] := T.is_fraction.F.binds fun _ _ _ _ _ _ us hl => match us, hl with | [_], _ => rfl
theorem b_is_number (T : Txt K mg) : Binds K T.is_number.fd P_is_number [] := T.is_number.F.binds fun _ _ _ _ _ _ us hl => match us, hl with | [_, _], _ => rfl
theorem b_check_field (T : Txt K mg) : Binds K T.check_field.fd P_check_field [] := T.check_field.F.binds fun _ _ _ _ _ _ us hl => match us, hl with | [_], _ => rfl
theorem b_check_number (T : Txt K mg) : Binds K T.check_number.fd P_check_number [] := T.check_number.F.binds fun _ _ _ _ _ _ us hl => match us, hl with | [_, _], _ => rfl
theorem b_check_integer (T : Txt K mg) : Binds K T.check_integer.fd P_check_integer [] := T.check_integer.F.binds fun _ _ _ _ _ _ us hl => match us, hl with | [_], _ => rfl
theorem b_number (T : Txt K mg) : Binds K T.number.fd P_number [] := T.number.F.binds fun _ _ _ _ _ _ us hl => match us, hl with | [_, _, _], _ => rfl
theorem b_number_sum (T : Txt K mg) : Binds K T.number_sum.fd P_number_sum [] := T.number_sum.F.binds fun _ _ _ _ _ _ us hl => match us, hl with | [_, _, _], _ => rfl
theorem b_number_product (T : Txt K mg) : Binds K T.number_product.fd P_number_product [] := T.number_product.F.binds fun _ _ _ _ _ _ us hl => match us, hl with | [_, _, _], _ => rfl
theorem b_number_inverse (T : Txt K mg) : Binds K T.number_inverse.fd P_number_inverse [] := T.number_inverse.F.binds fun _ _ _ _ _ _ us hl => match us, hl with | [_, _], _ => rfl
theorem b_law_taken (T : Txt K mg) : Binds K T.law_taken.fd P_law_taken [] := T.law_taken.F.binds fun _ _ _ _ _ _ us hl => match us, hl with | [_, _], _ => rfl
theorem b_law_pick (T : Txt K mg) : Binds K T.law_pick.fd P_law_pick [] := T.law_pick.F.binds fun _ _ _ _ _ _ us hl => match us, hl with | [_, _], _ => rfl
theorem b_law_integer (T : Txt K mg) : Binds K T.law_integer.fd P_law_integer [] := T.law_integer.F.binds fun _ _ _ _ _ _ us hl => match us, hl with | [_], _ => rfl
theorem b_law_zero (T : Txt K mg) : Binds K T.law_zero.fd P_law_zero [] := T.law_zero.F.binds fun _ _ _ _ _ _ us hl => match us, hl with | [_], _ => rfl
theorem b_law_refused (T : Txt K mg) : Binds K T.law_refused.fd P_law_refused [] := T.law_refused.F.binds fun _ _ _ _ _ _ us hl => match us, hl with | [_, _, _, _], _ => rfl
theorem b_law_alike (T : Txt K mg) : Binds K T.law_alike.fd P_law_alike [] := T.law_alike.F.binds fun _ _ _ _ _ _ us hl => match us, hl with | [_, _], _ => rfl
theorem b_law_gcd (T : Txt K mg) : Binds K T.law_gcd.fd P_law_gcd [] := T.law_gcd.F.binds fun _ _ _ _ _ _ us hl => match us, hl with | [_, _], _ => rfl
theorem b_law_num (T : Txt K mg) : Binds K T.law_num.fd P_law_num [] := T.law_num.F.binds fun _ _ _ _ _ _ us hl => match us, hl with | [_, _, _], _ => rfl
theorem b_law (T : Txt K mg) : Binds K T.law.fd P_law [] := T.law.F.binds fun _ _ _ _ _ _ us hl => match us, hl with | [_], _ => rfl
end

/-! ### reading, step by step -/
theorem iteV {a b : Int} {A B : Prop} (h1 : a = b → A) (h2 : a ≠ b → B) : if decide (V.int a = V.int b) = true then A else B := by
  by_cases h : a = b
  · rw [if_pos (decide_eq_true (congrArg V.int h))]; exact h1 h
  · rw [if_neg (by rw [decide_eq_false (fun z => h (V.int.inj z))]; exact Bool.false_ne_true)]; exact h2 h
theorem iteVn {a b : Int} {A B : Prop} (h1 : a ≠ b → A) (h2 : a = b → B) : if (!decide (V.int a = V.int b)) = true then A else B := by
  by_cases h : a = b
  · rw [if_neg (by rw [decide_eq_true (congrArg V.int h)]; exact Bool.false_ne_true)]; exact h2 h
  · rw [if_pos (by rw [decide_eq_false (fun z => h (V.int.inj z))]; rfl)]; exact h1 h
theorem iteD {c A B : Prop} [Decidable c] (h1 : c → A) (h2 : ¬ c → B) : if decide c = true then A else B := by
  by_cases h : c
  · rw [if_pos (decide_eq_true h)]; exact h1 h
  · rw [if_neg (by rw [decide_eq_false h]; exact Bool.false_ne_true)]; exact h2 h
theorem iteDn {c A B : Prop} [Decidable c] (h1 : ¬ c → A) (h2 : c → B) : if (!decide c) = true then A else B := by
  by_cases h : c
  · rw [if_neg (by rw [decide_eq_true h]; exact Bool.false_ne_true)]; exact h2 h
  · rw [if_pos (by rw [decide_eq_false h]; rfl)]; exact h1 h
theorem iteB {b : Bool} {A B : Prop} (h1 : b = true → A) (h2 : b = false → B) : if b = true then A else B := by
  cases b with
  | true => exact iteT (h1 rfl)
  | false => exact iteF (h2 rfl)
theorem iteN0 {i : Int} {A B : Prop} (h1 : i ≠ 0 → A) (h2 : i = 0 → B) : if (i != 0) = true then A else B := by
  by_cases h : i = 0
  · rw [if_neg (by simp [h])]; exact h2 h
  · rw [if_pos (by simpa using h)]; exact h1 h
theorem vdec {a b : Int} : decide (V.int a = V.int b) = decide (a = b) := by
  by_cases h : a = b
  · subst h; simp
  · rw [decide_eq_false h, decide_eq_false (fun z => h (V.int.inj z))]
theorem sql_ne {K : PySem.W.Frag} {H : Hp} {r a : Addr} {o : HO} {xs : List V} (h : SqL K H a xs) (n : a ≠ r) : SqL K (upd H r o) a xs := by
  rcases h with (h | ⟨u, h⟩) | h
  · exact .inl (.inl (by rw [upd_ne n]; exact h))
  · exact .inl (.inr ⟨u, by rw [upd_ne n]; exact h⟩)
  · exact .inr h
theorem mulW64 {i j : Int} (hi : i.natAbs < 2 ^ 64) (hj : j.natAbs < 2 ^ 64) : CMulW i j := wide_mul hi hj (by decide) (by decide) (by decide)
section
variable {K : PySem.W.Frag}
theorem kit_int_int : PySem.W.kitOne K (.type "int") (.type "int") = some true := kit_ty (by decide +kernel)
theorem kit_int_bool : PySem.W.kitOne K (.type "int") (.type "bool") = some false := kit_ty (by decide +kernel)
theorem kit_int_str : PySem.W.kitOne K (.type "int") (.type "str") = some false := kit_ty (by decide +kernel)
theorem kit_int_tuple : PySem.W.kitOne K (.type "int") (.type "tuple") = some false := kit_ty (by decide +kernel)
theorem kit_int_list : PySem.W.kitOne K (.type "int") (.type "list") = some false := kit_ty (by decide +kernel)
theorem kit_tuple_tuple : PySem.W.kitOne K (.type "tuple") (.type "tuple") = some true := kit_ty (by decide +kernel)
theorem kit_tuple_list : PySem.W.kitOne K (.type "tuple") (.type "list") = some false := kit_ty (by decide +kernel)
theorem kit_tuple_str : PySem.W.kitOne K (.type "tuple") (.type "str") = some false := kit_ty (by decide +kernel)
theorem kit_tuple_int : PySem.W.kitOne K (.type "tuple") (.type "int") = some false := kit_ty (by decide +kernel)
theorem kit_tuple_bool : PySem.W.kitOne K (.type "tuple") (.type "bool") = some false := kit_ty (by decide +kernel)
theorem kitA_int : PySem.W.kitAny K (.type "int") [.type "tuple", .type "list"] = some false :=
  kitAny_cons kit_int_tuple (fun _ => kitAny_cons kit_int_list (fun _ => kitAny_nil) (fun z => nomatch z)) (fun z => nomatch z)
theorem kitA_tuple : PySem.W.kitAny K (.type "tuple") [.type "tuple", .type "list"] = some true :=
  kitAny_cons kit_tuple_tuple (fun z => nomatch z) (fun _ => rfl)
end
local macro_rules | `(tactic| walk_at "rd1") => `(tactic| first
  | refine ⟨_, rfl, ?_⟩
  | refine ⟨_, _, rfl, rfl, ?_⟩
  | refine ⟨_, _, rfl, ?_⟩
  | refine ⟨rfl, ?_⟩
  | refine ⟨(show (0 : Int) < _ by omega), ?_⟩
  | refine .inl ⟨_, rfl, ?_⟩
  | refine ⟨mulW64 (by omega) (by omega), ?_⟩
  | refine ⟨cdivZ (b := 64) (by omega) (by omega) (by decide) (by decide), ?_⟩
  | refine ⟨(show CPowW _ _ from ⟨by decide, by decide +kernel⟩), ?_⟩
  | refine ⟨_, _, rfl, .inr (.inl (.inl (by assumption))), ?_⟩
  | refine ⟨_, _, rfl, .inl (.inl (.inl (by assumption))), ?_⟩
  | refine ⟨_, _, rfl, .inl (.inl upd_same), rfl, ?_⟩
  | refine iteT ?_
  | refine iteF ?_
  | refine ⟨_, _, _, _, rfl, rfl, .inl (.inl (by assumption)), rfl, ?_⟩
  | refine ⟨_, _, _, _, rfl, rfl, .inl (.inl upd_same), rfl, ?_⟩
  | refine ⟨_, _, _, _, rfl, rfl, (by assumption), rfl, ?_⟩
  | refine ⟨_, _, _, _, rfl, rfl, upd_same, rfl, ?_⟩
  | refine ⟨_, _, _, _, _, rfl, .ty _, .base (.int _), kit_int_int, ?_⟩
  | refine ⟨_, _, _, _, _, rfl, .ty _, .base (.int _), kit_int_bool, ?_⟩
  | refine ⟨_, _, _, _, _, rfl, .ty _, .base (.int _), kit_int_str, ?_⟩
  | refine ⟨_, _, _, _, _, rfl, .ty _, .base (.tup (by assumption)), kit_tuple_tuple, ?_⟩
  | refine ⟨_, _, _, _, _, rfl, .ty _, .base (.tup (by assumption)), kit_tuple_list, ?_⟩
  | refine ⟨_, _, _, _, _, rfl, .ty _, .base (.tup (by assumption)), kit_tuple_str, ?_⟩)
local macro_rules | `(tactic| walk_at "rd") => `(tactic| repeat walk_at "rd1")

/-! ### numbers: what the program reckons -/
def FieldsP : List Int := [2, 3, 5, 7, 11, 13, 17, 19, 23, 29, 31]
def IsF (f : Int) : Prop := f = 0 ∨ f ∈ FieldsP
theorem IsF.lt {f : Int} (h : IsF f) : 0 ≤ f ∧ f ≤ 31 := by
  rcases h with h | h
  · omega
  · simp only [FieldsP, List.mem_cons, List.not_mem_nil, or_false] at h
    omega
theorem IsF.pos {f : Int} (h : IsF f) (h0 : f ≠ 0) : 2 ≤ f := by
  rcases h with h | h
  · exact absurd h h0
  · simp only [FieldsP, List.mem_cons, List.not_mem_nil, or_false] at h
    omega
/-- x times n modulo p, k times -/
def powM (n p : Int) : Nat → Int
  | 0 => 1
  | k + 1 => powM n p k * n % p
theorem powM_lt {n p : Int} (hp : 2 ≤ p) : ∀ k, 0 ≤ powM n p k ∧ powM n p k < p
  | 0 => by show (0 : Int) ≤ 1 ∧ (1 : Int) < p; omega
  | k + 1 => ⟨Int.emod_nonneg _ (by omega), Int.emod_lt_of_pos _ (by omega)⟩
def invP (n p : Int) : Int := powM n p (p - 2).toNat
def sgnG (n d : Int) : Int := if d < 0 then -((Nat.gcd n.natAbs d.natAbs : Nat) : Int) else ((Nat.gcd n.natAbs d.natAbs : Nat) : Int)
def lowQ (n d : Int) : Int × Int := (n.fdiv (sgnG n d), d.fdiv (sgnG n d))
def mkN (f n d : Int) : Int × Int := if f = 0 then lowQ n d else (n * invP (d % f) f % f, 1)
def isZ (f n : Int) : Bool := if f = 0 then decide (n = 0) else decide (n % f = 0)
theorem sgnG_abs (n d : Int) : (sgnG n d).natAbs = Nat.gcd n.natAbs d.natAbs := by
  unfold sgnG; split <;> omega
theorem sgnG_ne {n d : Int} (h : d ≠ 0) : sgnG n d ≠ 0 := by
  intro z
  have e := sgnG_abs n d
  rw [z] at e
  have : 0 < Nat.gcd n.natAbs d.natAbs := Nat.gcd_pos_of_pos_right _ (by omega)
  simp at e; omega
theorem sgnG_le {n d : Int} (h : d ≠ 0) : (sgnG n d).natAbs ≤ d.natAbs := by
  rw [sgnG_abs]; exact Nat.le_of_dvd (by omega) (Nat.gcd_dvd_right _ _)
/-- v is the number a / b of the field f (b is 1 modulo a prime) -/
def NumV (H : Hp) (f : Int) (v : V) (x : Int × Int) : Prop :=
  (f = 0 ∧ ∃ p, v = .ref p ∧ H p = some (.tup [.int x.1, .int x.2])) ∨ (f ≠ 0 ∧ v = .int x.1 ∧ x.2 = 1)
theorem NumV.same {H H' : Hp} {f : Int} {v : V} {x : Int × Int} (n : NumV H f v x) (s : Same H H') : NumV H' f v x := by
  rcases n with ⟨h, p, e, q⟩ | h
  · exact .inl ⟨h, p, e, s _ _ q⟩
  · exact .inr h
def BB : Nat := 2 ^ 4000
theorem two_line : 2 ≤ sizeLine := by decide
section
variable {P : Program} {w : World} {K : PySem.W.Frag} {mg : Str → Option Value} {base : Heap}
def sp_zero_of : Sp := fun vs H Q _ => ∃ f, vs = [.int f] ∧ ∀ v H', NumV H' f v (0, 1) → Same H H' → Q v H'
theorem ok_zero_of (T : Txt K mg) : FnOk P w K mg base CX0 1 T.zero_of.f T.zero_of.fd P_zero_of sp_zero_of := by
  refine T.zero_of.F.ok sc_zero_of (fun vs H Q E h => ?_) (fun cdv A outer s H vs Q E hr h => ?_)
  · obtain ⟨f, rfl, _⟩ := h; rfl
  · obtain ⟨f, rfl, k⟩ := h
    refine ⟨_, (pss_one (ps_ret (pe_ifExp (pt_cmpR op_eq (pv 0) pe_int (nomark _)) (pe_tup (pa_cons pe_int (pa_cons pe_int pa_nil))) pe_int))), ?_⟩
    walk_at "rd"
    refine iteV (fun hf => ?_) (fun hf => ?_)
    · refine ⟨two_line, fun p hp => ?_⟩
      exact k _ _ (.inl ⟨hf, p, rfl, upd_same⟩) (same_upd hp)
    · exact k _ _ (.inr ⟨hf, rfl, rfl⟩) (Same.refl _)
def sp_is_zero_in : Sp := fun vs H Q _ => ∃ f n, vs = [.int f, .int n] ∧ IsF f ∧ Q (.bl (isZ f n)) H
theorem ok_is_zero_in (T : Txt K mg) : FnOk P w K mg base CX0 1 T.is_zero_in.f T.is_zero_in.fd P_is_zero_in sp_is_zero_in := by
  refine T.is_zero_in.F.ok sc_is_zero_in (fun vs H Q E h => ?_) (fun cdv A outer s H vs Q E hr h => ?_)
  · obtain ⟨f, n, rfl, _⟩ := h; rfl
  · obtain ⟨f, n, rfl, hF, k⟩ := h
    refine ⟨_, (pss_one (ps_ret (pe_ifExp (pt_cmpR op_eq (pv 0) pe_int (nomark _)) (pe_cmpR op_eq (pv 1) pe_int (nomark _)) (pe_cmpR op_eq (pe_op op_mod (pv 1) (pv 0)) pe_int (nomark _))))), ?_⟩
    walk_at "rd"
    unfold isZ at k
    refine iteV (fun hf => ?_) (fun hf => ?_)
    · rw [if_pos hf] at k
      walk_at "rd"
      show Q _ _
      rw [vdec]; exact k
    · rw [if_neg hf] at k
      have := hF.pos hf
      walk_at "rd"
      show Q _ _
      rw [vdec]; exact k
def sp_inverse_modulo : Sp := fun vs H Q _ => ∃ n p, vs = [.int n, .int p] ∧ 2 ≤ p ∧ p ≤ 31 ∧ n.natAbs < 2 ^ 64 ∧ Q (.int (invP n p)) H
theorem ok_inverse_modulo (T : Txt K mg) : FnOk P w K mg base CX0 1 T.inverse_modulo.f T.inverse_modulo.fd P_inverse_modulo sp_inverse_modulo := by
  refine T.inverse_modulo.F.ok sc_inverse_modulo (fun vs H Q E h => ?_) (fun cdv A outer s H vs Q E hr h => ?_)
  · obtain ⟨n, p, rfl, _⟩ := h; rfl
  · obtain ⟨n, p, rfl, hp, hp2, hn, k⟩ := h
    refine ⟨_, (pss_cons (ps_set (i := 2) sc_inverse_modulo.nd rfl (Or.inl rfl) pe_int)
  (pss_cons (ps_for PassesOwn.never rfl (pi_range1 rfl T.n_range (pa_cons (pe_op op_sub (pv 1) pe_int) pa_nil)) (pg_name (i := 3) sc_inverse_modulo.nd rfl (Or.inl rfl)) (pss_one (ps_set (i := 2) sc_inverse_modulo.nd rfl (Or.inl rfl) (pe_op op_mod (pe_op op_mulW (pv 2) (pv 0)) (pv 1)))))
  (pss_one (ps_ret (pv 2))))), ?_⟩
    walk_at "rd"
    refine ⟨by omega, by omega, for_range (lo := 0) (n := (p - 2).toNat) (fun i σ H' => H' = H ∧ ∃ v, σ = [some (.int n), some (.int p), some (.int (powM n p i)), v]) ⟨rfl, none, rfl⟩ ?_ ?_⟩
    · rintro i σ H' hi ⟨rfl, v, rfl⟩
      have hb := powM_lt (n := n) hp i
      walk_at "rd"
      exact ⟨_, rfl⟩
    · rintro σ H' ⟨rfl, v, rfl⟩
      walk_at "rd"
      exact k
def sp_make_number : Sp := fun vs H Q _ => ∃ f n d, vs = [.int f, .int n, .int d] ∧ IsF f ∧ n.natAbs < BB ∧ d.natAbs < BB ∧ (f = 0 → d ≠ 0) ∧ ∀ v H', NumV H' f v (mkN f n d) → Same H H' → Q v H'
theorem ok_make_number (T : Txt K mg) : FnOk P w K mg base CX0 2 T.make_number.f T.make_number.fd P_make_number sp_make_number := by
  refine T.make_number.F.ok sc_make_number (fun vs H Q E h => ?_) (fun cdv A outer s H vs Q E hr h => ?_)
  · obtain ⟨f, n, d, rfl, _⟩ := h; rfl
  · obtain ⟨f, n, d, rfl, hF, hn, hd, h0, k⟩ := h
    refine ⟨_, (pss_cons (ps_if (pt_truth (pv 0) (by intro _; rfl)) (pss_one (ps_ret (pe_op op_mod (pe_op op_mulW (pv 1) (pe_call (ok_inverse_modulo T) (hr.mono (by decide)) rfl T.inverse_modulo.g T.inverse_modulo.F.kp (b_inverse_modulo T) .nil pass0 (pa_cons (pe_op op_mod (pv 2) (pv 0)) (pa_cons (pv 0) pa_nil)))) (pv 0)))) pss_nil)
  (pss_cons (ps_set (i := 3) sc_make_number.nd rfl (Or.inl rfl) (pe_callBfun cr_gcd rfl T.g_gcd (pa_cons (pv 1) (pa_cons (pv 2) pa_nil))))
  (pss_cons (ps_if (pt_cmpR op_lt (pv 2) pe_int (nomark _)) (pss_one (ps_set (i := 3) sc_make_number.nd rfl (Or.inl rfl) (pe_un un_neg (pv 3)))) pss_nil)
  (pss_one (ps_ret (pe_tup (pa_cons (pe_op op_fdivZ (pv 1) (pv 3)) (pa_cons (pe_op op_fdivZ (pv 2) (pv 3)) pa_nil)))))))), ?_⟩
    walk_at "rd"
    unfold mkN at k
    refine iteN0 (fun hf => ?_) (fun hf => ?_)
    · rw [if_neg hf] at k
      have h2 := hF.pos hf
      have h31 := hF.lt
      walk_at "rd"
      have e1 := Int.emod_nonneg d (show f ≠ 0 by omega)
      have e2 := Int.emod_lt_of_pos d (show 0 < f by omega)
      refine ⟨h2, h31.2, by omega, ?_⟩
      walk_at "rd"
      have e3 := powM_lt (n := d % f) h2 (f - 2).toNat
      have e4 : invP (d % f) f = powM (d % f) f (f - 2).toNat := rfl
      refine ⟨wide_mul (a := 4000) (b := 64) hn (by omega) (by decide) (by decide) (by decide), ?_⟩
      walk_at "rd"
      exact k _ _ (.inr ⟨hf, rfl, rfl⟩) (Same.refl _)
    · rw [if_pos hf] at k
      have d0 := h0 hf
      walk_at "rd"
      have hg := sgnG_ne (n := n) d0
      have hl := sgnG_le (n := n) d0
      have hgb : (sgnG n d).natAbs < BB := Nat.lt_of_le_of_lt hl hd
      refine iteD (fun hd0 => ?_) (fun hd0 => ?_)
      · have e : -((Nat.gcd n.natAbs d.natAbs : Nat) : Int) = sgnG n d := by unfold sgnG; rw [if_pos hd0]
        unfold lowQ at k
        rw [← e] at k hg hgb
        walk_at "rd"
        refine ⟨cdivZ (b := 4000) hg hgb (by decide) (by decide), ?_⟩
        walk_at "rd"
        refine ⟨cdivZ (b := 4000) hg hgb (by decide) (by decide), ?_⟩
        refine ⟨two_line, fun p hp => ?_⟩
        exact k _ _ (.inl ⟨hf, p, rfl, upd_same⟩) (same_upd hp)
      · have e : ((Nat.gcd n.natAbs d.natAbs : Nat) : Int) = sgnG n d := by unfold sgnG; rw [if_neg hd0]
        unfold lowQ at k
        rw [← e] at k hg hgb
        walk_at "rd"
        refine ⟨cdivZ (b := 4000) hg hgb (by decide) (by decide), ?_⟩
        walk_at "rd"
        refine ⟨cdivZ (b := 4000) hg hgb (by decide) (by decide), ?_⟩
        refine ⟨two_line, fun p hp => ?_⟩
        exact k _ _ (.inl ⟨hf, p, rfl, upd_same⟩) (same_upd hp)
end

/-! ### the program's other defs over numbers -/
def SS : Nat := 2 ^ 1500
def S3 : Nat := 2 ^ 3000
def addN (f : Int) (a b : Int × Int) : Int × Int := if f = 0 then lowQ (a.1 * b.2 + b.1 * a.2) (a.2 * b.2) else ((a.1 + b.1) % f, 1)
def mulN (f : Int) (a b : Int × Int) : Int × Int := if f = 0 then lowQ (a.1 * b.1) (a.2 * b.2) else (a.1 * b.1 % f, 1)
def invN (f : Int) (a : Int × Int) : Int × Int := if f = 0 then lowQ a.2 a.1 else (invP a.1 f, 1)
theorem ss_mul {i j : Int} (hi : i.natAbs < SS) (hj : j.natAbs < SS) : CMulW i j := wide_mul (a := 1500) (b := 1500) hi hj (by decide) (by decide) (by decide)
theorem ss_lt {i j : Int} (hi : i.natAbs < SS) (hj : j.natAbs < SS) : (i * j).natAbs < S3 := wide_lt (a := 1500) (b := 1500) hi hj
theorem s3_bb : S3 + S3 ≤ BB := by decide +kernel
theorem s3_add {i j : Int} (hi : i.natAbs < S3) (hj : j.natAbs < S3) : (i + j).natAbs < BB := by
  have := s3_bb; omega
theorem ss_s3 : SS ≤ S3 := by decide +kernel
/-- a number that may be passed -/
def NumOk (f : Int) (a : Int × Int) : Prop := if f = 0 then a.1.natAbs < NBn ∧ 0 < a.2 ∧ a.2.natAbs < NBn ∧ Nat.gcd a.1.natAbs a.2.natAbs = 1 else 0 ≤ a.1 ∧ a.1 < f ∧ a.2 = 1
theorem nb_ss : NBn ≤ SS := by decide +kernel
theorem NumOk.small {f : Int} {a : Int × Int} (hF : IsF f) (h : NumOk f a) : a.1.natAbs < SS ∧ a.2.natAbs < SS ∧ a.2 ≠ 0 := by
  have := nb_ss
  have h32 : 32 ≤ SS := by decide +kernel
  unfold NumOk at h
  split at h
  · omega
  · have := hF.lt
    omega
section
variable {P : Program} {w : World} {K : PySem.W.Frag} {mg : Str → Option Value} {base : Heap}
theorem NumV.q {H : Hp} {v : V} {x : Int × Int} (h : NumV H 0 v x) : ∃ p, v = .ref p ∧ H p = some (.tup [.int x.1, .int x.2]) := by
  rcases h with ⟨_, h⟩ | ⟨h, _⟩
  · exact h
  · exact absurd rfl h
theorem NumV.m {H : Hp} {f : Int} {v : V} {x : Int × Int} (h : NumV H f v x) (hf : f ≠ 0) : v = .int x.1 ∧ x.2 = 1 := by
  rcases h with ⟨h, _⟩ | ⟨_, h⟩
  · exact absurd h hf
  · exact h
def sp_add_numbers : Sp := fun vs H Q _ => ∃ f va vb a b, vs = [.int f, va, vb] ∧ IsF f ∧ NumV H f va a ∧ NumV H f vb b ∧ NumOk f a ∧ NumOk f b ∧ ∀ v H', NumV H' f v (addN f a b) → Same H H' → Q v H'
theorem ok_add_numbers (T : Txt K mg) : FnOk P w K mg base CX0 3 T.add_numbers.f T.add_numbers.fd P_add_numbers sp_add_numbers := by
  refine T.add_numbers.F.ok sc_add_numbers (fun vs H Q E h => ?_) (fun cdv A outer s H vs Q E hr h => ?_)
  · obtain ⟨f, va, vb, a, b, rfl, _⟩ := h; rfl
  · obtain ⟨f, va, vb, a, b, rfl, hF, na, nb, oa, ob, k⟩ := h
    refine ⟨_, (pss_cons (ps_if (pt_truth (pv 0) (by intro _; rfl)) (pss_one (ps_ret (pe_op op_mod (pe_op op_add (pv 1) (pv 2)) (pv 0)))) pss_nil)
  (pss_one (ps_ret (pe_call (ok_make_number T) (hr.mono (by decide)) rfl T.make_number.g T.make_number.F.kp (b_make_number T) .nil pass0 (pa_cons pe_int (pa_cons (pe_op op_add (pe_op op_mulW (pe_ix (r := rIxT K) ix_tup (pv 1) pe_int (fun _ _ => rfl)) (pe_ix (r := rIxT K) ix_tup (pv 2) pe_int (fun _ _ => rfl))) (pe_op op_mulW (pe_ix (r := rIxT K) ix_tup (pv 2) pe_int (fun _ _ => rfl)) (pe_ix (r := rIxT K) ix_tup (pv 1) pe_int (fun _ _ => rfl)))) (pa_cons (pe_op op_mulW (pe_ix (r := rIxT K) ix_tup (pv 1) pe_int (fun _ _ => rfl)) (pe_ix (r := rIxT K) ix_tup (pv 2) pe_int (fun _ _ => rfl))) pa_nil))))))), ?_⟩
    obtain ⟨a1, a2, a3⟩ := oa.small hF
    obtain ⟨b1, b2, b3⟩ := ob.small hF
    unfold addN at k
    walk_at "rd"
    refine iteN0 (fun hf => ?_) (fun hf => ?_)
    · rw [if_neg hf] at k
      obtain ⟨rfl, _⟩ := na.m hf
      obtain ⟨rfl, _⟩ := nb.m hf
      have h2 := hF.pos hf
      walk_at "rd"
      exact k _ _ (.inr ⟨hf, rfl, rfl⟩) (Same.refl _)
    · subst hf
      rw [if_pos rfl] at k
      obtain ⟨p, rfl, hp⟩ := na.q
      obtain ⟨q, rfl, hq⟩ := nb.q
      walk_at "rd"
      refine ⟨ss_mul a1 b2, ?_⟩
      walk_at "rd"
      refine ⟨ss_mul b1 a2, ?_⟩
      walk_at "rd"
      refine ⟨ss_mul a2 b2, ?_⟩
      walk_at "rd"
      exact ⟨0, _, _, rfl, .inl rfl, s3_add (ss_lt a1 b2) (ss_lt b1 a2), Nat.lt_of_lt_of_le (ss_lt a2 b2) (by have := s3_bb; omega), fun _ => Int.mul_ne_zero a3 b3, fun v H' n s => k v H' n s⟩
def sp_multiply_numbers : Sp := fun vs H Q _ => ∃ f va vb a b, vs = [.int f, va, vb] ∧ IsF f ∧ NumV H f va a ∧ NumV H f vb b ∧ NumOk f a ∧ NumOk f b ∧ ∀ v H', NumV H' f v (mulN f a b) → Same H H' → Q v H'
theorem ok_multiply_numbers (T : Txt K mg) : FnOk P w K mg base CX0 3 T.multiply_numbers.f T.multiply_numbers.fd P_multiply_numbers sp_multiply_numbers := by
  refine T.multiply_numbers.F.ok sc_multiply_numbers (fun vs H Q E h => ?_) (fun cdv A outer s H vs Q E hr h => ?_)
  · obtain ⟨f, va, vb, a, b, rfl, _⟩ := h; rfl
  · obtain ⟨f, va, vb, a, b, rfl, hF, na, nb, oa, ob, k⟩ := h
    refine ⟨_, (pss_cons (ps_if (pt_truth (pv 0) (by intro _; rfl)) (pss_one (ps_ret (pe_op op_mod (pe_op op_mulW (pv 1) (pv 2)) (pv 0)))) pss_nil)
  (pss_one (ps_ret (pe_call (ok_make_number T) (hr.mono (by decide)) rfl T.make_number.g T.make_number.F.kp (b_make_number T) .nil pass0 (pa_cons pe_int (pa_cons (pe_op op_mulW (pe_ix (r := rIxT K) ix_tup (pv 1) pe_int (fun _ _ => rfl)) (pe_ix (r := rIxT K) ix_tup (pv 2) pe_int (fun _ _ => rfl))) (pa_cons (pe_op op_mulW (pe_ix (r := rIxT K) ix_tup (pv 1) pe_int (fun _ _ => rfl)) (pe_ix (r := rIxT K) ix_tup (pv 2) pe_int (fun _ _ => rfl))) pa_nil))))))), ?_⟩
    obtain ⟨a1, a2, a3⟩ := oa.small hF
    obtain ⟨b1, b2, b3⟩ := ob.small hF
    unfold mulN at k
    walk_at "rd"
    refine iteN0 (fun hf => ?_) (fun hf => ?_)
    · rw [if_neg hf] at k
      obtain ⟨rfl, _⟩ := na.m hf
      obtain ⟨rfl, _⟩ := nb.m hf
      have h2 := hF.pos hf
      walk_at "rd"
      refine ⟨ss_mul a1 b1, ?_⟩
      walk_at "rd"
      exact k _ _ (.inr ⟨hf, rfl, rfl⟩) (Same.refl _)
    · subst hf
      rw [if_pos rfl] at k
      obtain ⟨p, rfl, hp⟩ := na.q
      obtain ⟨q, rfl, hq⟩ := nb.q
      walk_at "rd"
      refine ⟨ss_mul a1 b1, ?_⟩
      walk_at "rd"
      refine ⟨ss_mul a2 b2, ?_⟩
      walk_at "rd"
      exact ⟨0, _, _, rfl, .inl rfl, Nat.lt_of_lt_of_le (ss_lt a1 b1) (by have := s3_bb; omega), Nat.lt_of_lt_of_le (ss_lt a2 b2) (by have := s3_bb; omega), fun _ => Int.mul_ne_zero a3 b3, fun v H' n s => k v H' n s⟩
def sp_invert_number : Sp := fun vs H Q _ => ∃ f va a, vs = [.int f, va] ∧ IsF f ∧ NumV H f va a ∧ NumOk f a ∧ a.1 ≠ 0 ∧ ∀ v H', NumV H' f v (invN f a) → Same H H' → Q v H'
theorem ok_invert_number (T : Txt K mg) : FnOk P w K mg base CX0 3 T.invert_number.f T.invert_number.fd P_invert_number sp_invert_number := by
  refine T.invert_number.F.ok sc_invert_number (fun vs H Q E h => ?_) (fun cdv A outer s H vs Q E hr h => ?_)
  · obtain ⟨f, va, a, rfl, _⟩ := h; rfl
  · obtain ⟨f, va, a, rfl, hF, na, oa, a0, k⟩ := h
    refine ⟨_, (pss_cons (ps_if (pt_truth (pv 0) (by intro _; rfl)) (pss_one (ps_ret (pe_call (ok_inverse_modulo T) (hr.mono (by decide)) rfl T.inverse_modulo.g T.inverse_modulo.F.kp (b_inverse_modulo T) .nil pass0 (pa_cons (pv 1) (pa_cons (pv 0) pa_nil))))) pss_nil)
  (pss_one (ps_ret (pe_call (ok_make_number T) (hr.mono (by decide)) rfl T.make_number.g T.make_number.F.kp (b_make_number T) .nil pass0 (pa_cons pe_int (pa_cons (pe_ix (r := rIxT K) ix_tup (pv 1) pe_int (fun _ _ => rfl)) (pa_cons (pe_ix (r := rIxT K) ix_tup (pv 1) pe_int (fun _ _ => rfl)) pa_nil))))))), ?_⟩
    obtain ⟨a1, a2, a3⟩ := oa.small hF
    unfold invN at k
    walk_at "rd"
    refine iteN0 (fun hf => ?_) (fun hf => ?_)
    · rw [if_neg hf] at k
      obtain ⟨rfl, _⟩ := na.m hf
      have h2 := hF.pos hf
      have h31 := hF.lt
      unfold NumOk at oa
      rw [if_neg hf] at oa
      walk_at "rd"
      refine ⟨h2, h31.2, by omega, ?_⟩
      exact k _ _ (.inr ⟨hf, rfl, rfl⟩) (Same.refl _)
    · subst hf
      rw [if_pos rfl] at k
      obtain ⟨p, rfl, hp⟩ := na.q
      walk_at "rd"
      have h3 := s3_bb
      have h4 := ss_s3
      exact ⟨0, _, _, rfl, .inl rfl, by omega, by omega, fun _ => a0, fun v H' n s => k v H' n s⟩
def sp_is_integer : Sp := fun vs H Q _ => ∃ n, vs = [.int n] ∧ Q (.bl true) H
theorem ok_is_integer (T : Txt K mg) : FnOk P w K mg base CX0 1 T.is_integer.f T.is_integer.fd P_is_integer sp_is_integer := by
  refine T.is_integer.F.ok sc_is_integer (fun vs H Q E h => ?_) (fun cdv A outer s H vs Q E hr h => ?_)
  · obtain ⟨n, rfl, _⟩ := h; rfl
  · obtain ⟨n, rfl, k⟩ := h
    refine ⟨_, (pss_one (ps_ret (pe_and (pe_callB (r := rIsi K) call_isi rfl T.n_isinstance bo_isinstance (pa_cons (pv 0) (pa_cons (pe_bltn (v := .ty "int") rfl T.n_int bo_int rfl) pa_nil))) (pe_one (pe_not (pe_callB (r := rIsi K) call_isi rfl T.n_isinstance bo_isinstance (pa_cons (pv 0) (pa_cons (pe_bltn (v := .ty "bool") rfl T.n_bool bo_bool rfl) pa_nil)))))))), ?_⟩
    walk_at "rd"
    exact k
def sp_is_integer_in : Sp := fun vs H Q _ => ∃ n lo hi, vs = [.int n, .int lo, .int hi] ∧ Q (.bl (decide (lo ≤ n ∧ n ≤ hi))) H
theorem ok_is_integer_in (T : Txt K mg) : FnOk P w K mg base CX0 2 T.is_integer_in.f T.is_integer_in.fd P_is_integer_in sp_is_integer_in := by
  refine T.is_integer_in.F.ok sc_is_integer_in (fun vs H Q E h => ?_) (fun cdv A outer s H vs Q E hr h => ?_)
  · obtain ⟨n, lo, hi, rfl, _⟩ := h; rfl
  · obtain ⟨n, lo, hi, rfl, k⟩ := h
    refine ⟨_, (pss_one (ps_ret (pe_and (pe_call (ok_is_integer T) (hr.mono (by decide)) rfl T.is_integer.g T.is_integer.F.kp (b_is_integer T) .nil pass0 (pa_cons (pv 0) pa_nil)) (pe_one (pe_chain op_le op_le (pv 1) (pv 0) (pv 2)))))), ?_⟩
    walk_at "rd"
    refine iteD (fun h1 => ?_) (fun h1 => ?_)
    · walk_at "rd"
      have e : decide (lo ≤ n ∧ n ≤ hi) = decide (n ≤ hi) := by simp [h1]
      rw [e] at k; exact k
    · have e : decide (lo ≤ n ∧ n ≤ hi) = false := by simp [h1]
      rw [e] at k; exact k
def sp_is_tuple_of : Sp := fun vs H Q _ => ∃ (p : Addr) (xs : List V) (m : Int), vs = [.ref p, .int m] ∧ H p = some (.tup xs) ∧ Q (.bl (decide ((xs.length : Int) = m))) H
theorem ok_is_tuple_of (T : Txt K mg) : FnOk P w K mg base CX0 1 T.is_tuple_of.f T.is_tuple_of.fd P_is_tuple_of sp_is_tuple_of := by
  refine T.is_tuple_of.F.ok sc_is_tuple_of (fun vs H Q E h => ?_) (fun cdv A outer s H vs Q E hr h => ?_)
  · obtain ⟨p, xs, m, rfl, _⟩ := h; rfl
  · obtain ⟨p, xs, m, rfl, hp, k⟩ := h
    refine ⟨_, (pss_one (ps_ret (pe_and (pe_callB (r := rIsi K) call_isi rfl T.n_isinstance bo_isinstance (pa_cons (pv 0) (pa_cons (pe_bltn (v := .ty "tuple") rfl T.n_tuple bo_tuple rfl) pa_nil))) (pe_one (pe_cmpR op_eq (pe_callB (r := rLenS K) call_len_seq rfl T.n_len bo_len (pa_cons (pv 0) pa_nil)) (pv 1) (nomark _)))))), ?_⟩
    walk_at "rd"
    rw [← vdec] at k; exact k
def sp_is_field : Sp := fun vs H Q _ => ∃ f, vs = [.int f] ∧ IsF f ∧ Q (.bl true) H
theorem ok_is_field (T : Txt K mg) : FnOk P w K mg base CX0 2 T.is_field.f T.is_field.fd P_is_field sp_is_field := by
  refine T.is_field.F.ok sc_is_field (fun vs H Q E h => ?_) (fun cdv A outer s H vs Q E hr h => ?_)
  · obtain ⟨f, rfl, _⟩ := h; rfl
  · obtain ⟨f, rfl, hF, k⟩ := h
    refine ⟨_, (pss_one (ps_ret (pe_and (pe_call (ok_is_integer T) (hr.mono (by decide)) rfl T.is_integer.g T.is_integer.F.kp (b_is_integer T) .nil pass0 (pa_cons (pv 0) pa_nil)) (pe_one (pe_or (pe_cmpR op_eq (pv 0) pe_int (nomark _)) (pe_one (pe_cmpR op_in_seq (pv 0) (pe_glob rfl T.g_PRIMES (v := .ref T.aPRIMES) rfl) (by rfl)))))))), ?_⟩
    walk_at "rd"
    refine iteV (fun h1 => ?_) (fun h1 => ?_)
    · exact k
    · walk_at "rd"
      refine ⟨_, _, rfl, .inr (T.t_PRIMES _), rfl, by decide, ?_⟩
      have e : inV (V.int f) ([2, 3, 5, 7, 11, 13, 17, 19, 23, 29, 31].map V.int) = true := by
        rcases hF with h | h
        · exact absurd h h1
        · simp only [FieldsP, List.mem_cons, List.not_mem_nil, or_false] at h
          rcases h with h | h | h | h | h | h | h | h | h | h | h <;> subst h <;> decide
      rw [e]
      exact k
def sp_is_fraction : Sp := fun vs H Q _ => ∃ (p : Addr) (a : Int × Int), vs = [.ref p] ∧ H p = some (.tup [.int a.1, .int a.2]) ∧ NumOk 0 a ∧ Q (.bl true) H
theorem ok_is_fraction (T : Txt K mg) : FnOk P w K mg base CX0 2 T.is_fraction.f T.is_fraction.fd P_is_fraction sp_is_fraction := by
  refine T.is_fraction.F.ok sc_is_fraction (fun vs H Q E h => ?_) (fun cdv A outer s H vs Q E hr h => ?_)
  · obtain ⟨p, a, rfl, _⟩ := h; rfl
  · obtain ⟨p, a, rfl, hp, oa, k⟩ := h
    refine ⟨_, (pss_cons (ps_if (PW.pt (pw_or (pt_not (pt_val (pe_call (ok_is_tuple_of T) (hr.mono (by decide)) rfl T.is_tuple_of.g T.is_tuple_of.F.kp (b_is_tuple_of T) .nil pass0 (pa_cons (pv 0) (pa_cons pe_int pa_nil))))) (pw_or (pt_not (pt_val (pe_call (ok_is_integer T) (hr.mono (by decide)) rfl T.is_integer.g T.is_integer.F.kp (b_is_integer T) .nil pass0 (pa_cons (pe_ix (r := rIxT K) ix_tup (pv 0) pe_int (fun _ _ => rfl)) pa_nil)))) (pw_or1 (pt_not (pt_val (pe_call (ok_is_integer T) (hr.mono (by decide)) rfl T.is_integer.g T.is_integer.F.kp (b_is_integer T) .nil pass0 (pa_cons (pe_ix (r := rIxT K) ix_tup (pv 0) pe_int (fun _ _ => rfl)) pa_nil)))))))) (pss_one (ps_ret pe_bl)) pss_nil)
  (pss_one (ps_ret (pe_and (pe_cmpR op_lt (pe_callB call_abs rfl T.n_abs bo_abs (pa_cons (pe_ix (r := rIxT K) ix_tup (pv 0) pe_int (fun _ _ => rfl)) pa_nil)) (pe_glob rfl T.g_NUMBER_BOUND (v := .int NBi) ⟨_, rfl⟩) (nomark _)) (pe_and (pe_chain op_lt op_lt pe_int (pe_ix (r := rIxT K) ix_tup (pv 0) pe_int (fun _ _ => rfl)) (pe_glob rfl T.g_NUMBER_BOUND (v := .int NBi) ⟨_, rfl⟩)) (pe_one (pe_cmpR op_eq (pe_callBfun cr_gcd rfl T.g_gcd (pa_cons (pe_ix (r := rIxT K) ix_tup (pv 0) pe_int (fun _ _ => rfl)) (pa_cons (pe_ix (r := rIxT K) ix_tup (pv 0) pe_int (fun _ _ => rfl)) pa_nil))) pe_int (nomark _)))))))), ?_⟩
    unfold NumOk at oa
    rw [if_pos rfl] at oa
    walk_at "rd"
    refine ⟨_, _, _, rfl, hp, ?_⟩
    walk_at "rd"
    have hN := nb_eq
    refine iteD (fun h1 => ?_) (fun h1 => ?_)
    · walk_at "rd"
      refine iteD (fun h2 => ?_) (fun h2 => ?_)
      · walk_at "rd"
        refine iteD (fun h3 => ?_) (fun h3 => ?_)
        · walk_at "rd"
          rw [oa.2.2.2]
          exact k
        · exact absurd (show a.2 < NBi by omega) h3
      · exact absurd oa.2.1 h2
    · refine absurd ?_ h1
      split <;> omega
def sp_is_number : Sp := fun vs H Q _ => ∃ f v a, vs = [.int f, v] ∧ NumV H f v a ∧ NumOk f a ∧ Q (.bl true) H
theorem ok_is_number (T : Txt K mg) : FnOk P w K mg base CX0 3 T.is_number.f T.is_number.fd P_is_number sp_is_number := by
  refine T.is_number.F.ok sc_is_number (fun vs H Q E h => ?_) (fun cdv A outer s H vs Q E hr h => ?_)
  · obtain ⟨f, v, a, rfl, _⟩ := h; rfl
  · obtain ⟨f, v, a, rfl, na, oa, k⟩ := h
    refine ⟨_, (pss_cons (ps_if (pt_cmpR op_eq (pv 0) pe_int (nomark _)) (pss_one (ps_ret (pe_call (ok_is_fraction T) (hr.mono (by decide)) rfl T.is_fraction.g T.is_fraction.F.kp (b_is_fraction T) .nil pass0 (pa_cons (pv 1) pa_nil)))) pss_nil)
  (pss_one (ps_ret (pe_call (ok_is_integer_in T) (hr.mono (by decide)) rfl T.is_integer_in.g T.is_integer_in.F.kp (b_is_integer_in T) .nil pass0 (pa_cons (pv 1) (pa_cons pe_int (pa_cons (pe_op op_sub (pv 0) pe_int) pa_nil))))))), ?_⟩
    walk_at "rd"
    refine iteV (fun hf => ?_) (fun hf => ?_)
    · subst hf
      obtain ⟨p, rfl, hp⟩ := na.q
      walk_at "rd"
      exact ⟨_, a, rfl, hp, oa, k⟩
    · obtain ⟨rfl, h1⟩ := na.m hf
      unfold NumOk at oa
      rw [if_neg hf] at oa
      walk_at "rd"
      refine ⟨_, _, _, rfl, ?_⟩
      rw [decide_eq_true (show 0 ≤ a.1 ∧ a.1 ≤ f - 1 by omega)]
      exact k
def sp_check_field : Sp := fun vs H Q _ => ∃ f, vs = [.int f] ∧ IsF f ∧ Q .non H
theorem ok_check_field (T : Txt K mg) : FnOk P w K mg base CX0 3 T.check_field.f T.check_field.fd P_check_field sp_check_field := by
  refine T.check_field.F.ok sc_check_field (fun vs H Q E h => ?_) (fun cdv A outer s H vs Q E hr h => ?_)
  · obtain ⟨f, rfl, _⟩ := h; rfl
  · obtain ⟨f, rfl, hF, k⟩ := h
    refine ⟨_, (pss_one (ps_if (pt_not (pt_val (pe_call (ok_is_field T) (hr.mono (by decide)) rfl T.is_field.g T.is_field.F.kp (b_is_field T) .nil pass0 (pa_cons (pv 0) pa_nil)))) (pss_one ps_never) pss_nil)), ?_⟩
    walk_at "rd"
    refine ⟨hF, ?_⟩
    walk_at "rd"
    exact k
def sp_check_number : Sp := fun vs H Q _ => ∃ f v a, vs = [.int f, v] ∧ NumV H f v a ∧ NumOk f a ∧ Q .non H
theorem ok_check_number (T : Txt K mg) : FnOk P w K mg base CX0 4 T.check_number.f T.check_number.fd P_check_number sp_check_number := by
  refine T.check_number.F.ok sc_check_number (fun vs H Q E h => ?_) (fun cdv A outer s H vs Q E hr h => ?_)
  · obtain ⟨f, v, a, rfl, _⟩ := h; rfl
  · obtain ⟨f, v, a, rfl, na, oa, k⟩ := h
    refine ⟨_, (pss_one (ps_if (pt_not (pt_val (pe_call (ok_is_number T) (hr.mono (by decide)) rfl T.is_number.g T.is_number.F.kp (b_is_number T) .nil pass0 (pa_cons (pv 0) (pa_cons (pv 1) pa_nil))))) (pss_one ps_never) pss_nil)), ?_⟩
    walk_at "rd"
    refine ⟨_, _, a, rfl, na, oa, ?_⟩
    walk_at "rd"
    exact k
def sp_check_integer : Sp := fun vs H Q _ => ∃ n, vs = [.int n] ∧ Q .non H
theorem ok_check_integer (T : Txt K mg) : FnOk P w K mg base CX0 2 T.check_integer.f T.check_integer.fd P_check_integer sp_check_integer := by
  refine T.check_integer.F.ok sc_check_integer (fun vs H Q E h => ?_) (fun cdv A outer s H vs Q E hr h => ?_)
  · obtain ⟨n, rfl, _⟩ := h; rfl
  · obtain ⟨n, rfl, k⟩ := h
    refine ⟨_, (pss_one (ps_if (pt_not (pt_val (pe_call (ok_is_integer T) (hr.mono (by decide)) rfl T.is_integer.g T.is_integer.F.kp (b_is_integer T) .nil pass0 (pa_cons (pv 0) pa_nil)))) (pss_one ps_never) pss_nil)), ?_⟩
    walk_at "rd"
    exact k
def sp_number (C : Addr) : Sp := fun vs H Q E => ∃ f n d, vs = [.int f, .int n, .int d] ∧ IsF f ∧ n.natAbs < BB ∧ d.natAbs < BB ∧ (isZ f d = true → E (.ref C) none H) ∧ (isZ f d = false → ∀ v H', NumV H' f v (mkN f n d) → Same H H' → Q v H')
theorem ok_number (T : Txt K mg) : FnOk P w K mg base (L2.CX P w) 4 T.number.f T.number.fd P_number (sp_number T.ZeroDivisor.C) := by
  refine T.number.F.okX sc_number (fun vs H Q E h => ?_) (fun cdv A outer s H vs Q E hr h => ?_)
  · obtain ⟨f, n, d, rfl, _⟩ := h; rfl
  · obtain ⟨f, n, d, rfl, hF, hn, hd, kz, k⟩ := h
    refine ⟨_, (pss_cons (ps_expr (pe_call (ok_check_field T) (hr.mono (by decide)) rfl T.check_field.g T.check_field.F.kp (b_check_field T) .nil pass0 (pa_cons (pv 0) pa_nil)))
  (pss_cons (ps_expr (pe_call (ok_check_integer T) (hr.mono (by decide)) rfl T.check_integer.g T.check_integer.F.kp (b_check_integer T) .nil pass0 (pa_cons (pv 1) pa_nil)))
  (pss_cons (ps_expr (pe_call (ok_check_integer T) (hr.mono (by decide)) rfl T.check_integer.g T.check_integer.F.kp (b_check_integer T) .nil pass0 (pa_cons (pv 2) pa_nil)))
  (pss_cons (ps_if (pt_val (pe_call (ok_is_zero_in T) (hr.mono (by decide)) rfl T.is_zero_in.g T.is_zero_in.F.kp (b_is_zero_in T) .nil pass0 (pa_cons (pv 0) (pa_cons (pv 2) pa_nil)))) (pss_one (ps_raise rfl (takes_of rfl rfl rfl rfl) (pmk_own PySem.F.excBase_ValueError T.ZeroDivisor.x T.ZeroDivisor.g T.ZeroDivisor.k (raises_own T.ZeroDivisor.be T.ZeroDivisor.ty) rfl))) pss_nil)
  (pss_one (ps_ret (pe_call (ok_make_number T) (hr.mono (by decide)) rfl T.make_number.g T.make_number.F.kp (b_make_number T) .nil pass0 (pa_cons (pv 0) (pa_cons (pv 1) (pa_cons (pv 2) pa_nil)))))))))), ?_⟩
    walk_at "rd"
    refine ⟨hF, ?_⟩
    walk_at "rd"
    refine ⟨hF, ?_⟩
    walk_at "rd"
    refine iteB (fun hz => ?_) (fun hz => ?_)
    · exact kz hz
    · walk_at "rd"
      refine ⟨_, _, _, rfl, hF, hn, hd, fun h0 e => ?_, k hz⟩
      subst h0 e
      exact absurd hz (by decide)
def sp_number_sum : Sp := fun vs H Q _ => ∃ f va vb a b, vs = [.int f, va, vb] ∧ IsF f ∧ NumV H f va a ∧ NumV H f vb b ∧ NumOk f a ∧ NumOk f b ∧ ∀ v H', NumV H' f v (addN f a b) → Same H H' → Q v H'
theorem ok_number_sum (T : Txt K mg) : FnOk P w K mg base CX0 5 T.number_sum.f T.number_sum.fd P_number_sum sp_number_sum := by
  refine T.number_sum.F.ok sc_number_sum (fun vs H Q E h => ?_) (fun cdv A outer s H vs Q E hr h => ?_)
  · obtain ⟨f, va, vb, a, b, rfl, _⟩ := h; rfl
  · obtain ⟨f, va, vb, a, b, rfl, hF, na, nb, oa, ob, k⟩ := h
    refine ⟨_, (pss_cons (ps_expr (pe_call (ok_check_field T) (hr.mono (by decide)) rfl T.check_field.g T.check_field.F.kp (b_check_field T) .nil pass0 (pa_cons (pv 0) pa_nil)))
  (pss_cons (ps_expr (pe_call (ok_check_number T) (hr.mono (by decide)) rfl T.check_number.g T.check_number.F.kp (b_check_number T) .nil pass0 (pa_cons (pv 0) (pa_cons (pv 1) pa_nil))))
  (pss_cons (ps_expr (pe_call (ok_check_number T) (hr.mono (by decide)) rfl T.check_number.g T.check_number.F.kp (b_check_number T) .nil pass0 (pa_cons (pv 0) (pa_cons (pv 2) pa_nil))))
  (pss_one (ps_ret (pe_call (ok_add_numbers T) (hr.mono (by decide)) rfl T.add_numbers.g T.add_numbers.F.kp (b_add_numbers T) .nil pass0 (pa_cons (pv 0) (pa_cons (pv 1) (pa_cons (pv 2) pa_nil))))))))), ?_⟩
    walk_at "rd"
    refine ⟨hF, ?_⟩
    walk_at "rd"
    refine ⟨_, _, a, rfl, na, oa, ?_⟩
    walk_at "rd"
    refine ⟨_, _, b, rfl, nb, ob, ?_⟩
    walk_at "rd"
    exact ⟨_, _, _, a, b, rfl, hF, na, nb, oa, ob, k⟩
def sp_number_product : Sp := fun vs H Q _ => ∃ f va vb a b, vs = [.int f, va, vb] ∧ IsF f ∧ NumV H f va a ∧ NumV H f vb b ∧ NumOk f a ∧ NumOk f b ∧ ∀ v H', NumV H' f v (mulN f a b) → Same H H' → Q v H'
theorem ok_number_product (T : Txt K mg) : FnOk P w K mg base CX0 5 T.number_product.f T.number_product.fd P_number_product sp_number_product := by
  refine T.number_product.F.ok sc_number_product (fun vs H Q E h => ?_) (fun cdv A outer s H vs Q E hr h => ?_)
  · obtain ⟨f, va, vb, a, b, rfl, _⟩ := h; rfl
  · obtain ⟨f, va, vb, a, b, rfl, hF, na, nb, oa, ob, k⟩ := h
    refine ⟨_, (pss_cons (ps_expr (pe_call (ok_check_field T) (hr.mono (by decide)) rfl T.check_field.g T.check_field.F.kp (b_check_field T) .nil pass0 (pa_cons (pv 0) pa_nil)))
  (pss_cons (ps_expr (pe_call (ok_check_number T) (hr.mono (by decide)) rfl T.check_number.g T.check_number.F.kp (b_check_number T) .nil pass0 (pa_cons (pv 0) (pa_cons (pv 1) pa_nil))))
  (pss_cons (ps_expr (pe_call (ok_check_number T) (hr.mono (by decide)) rfl T.check_number.g T.check_number.F.kp (b_check_number T) .nil pass0 (pa_cons (pv 0) (pa_cons (pv 2) pa_nil))))
  (pss_one (ps_ret (pe_call (ok_multiply_numbers T) (hr.mono (by decide)) rfl T.multiply_numbers.g T.multiply_numbers.F.kp (b_multiply_numbers T) .nil pass0 (pa_cons (pv 0) (pa_cons (pv 1) (pa_cons (pv 2) pa_nil))))))))), ?_⟩
    walk_at "rd"
    refine ⟨hF, ?_⟩
    walk_at "rd"
    refine ⟨_, _, a, rfl, na, oa, ?_⟩
    walk_at "rd"
    refine ⟨_, _, b, rfl, nb, ob, ?_⟩
    walk_at "rd"
    exact ⟨_, _, _, a, b, rfl, hF, na, nb, oa, ob, k⟩
/-- a number as data -/
def numD (f : Int) (a : Int × Int) : PyData := if f = 0 then .tuple [.int a.1, .int a.2] else .int a.1
theorem NumV.dp {H : Hp} {f : Int} {v : V} {a : Int × Int} (n : NumV H f v a) : Dp K H v (numD f a) := by
  unfold numD
  rcases n with ⟨h, p, rfl, hp⟩ | ⟨h, rfl, _⟩
  · rw [if_pos h]
    exact .tup (.inl (.inl hp)) (.cons (.int _) (.cons (.int _) .nil))
  · rw [if_neg h]
    exact .int _
theorem numD_shaped (f : Int) (a : Int × Int) : SeqAt.shaped (numD f a) = true := by
  unfold numD
  split <;> rfl
theorem numD_eqv (f : Int) (a b : Int × Int) : (numD f a).eqv (numD f b) = if f = 0 then (a.1 == b.1 && a.2 == b.2) else a.1 == b.1 := by
  unfold numD
  split
  · show (a.1 == b.1 && (a.2 == b.2 && true)) = _
    rw [Bool.and_true]
  · rfl
theorem numD_zero {f : Int} {a : Int × Int} (oa : NumOk f a) : (numD f a).eqv (numD f (0, 1)) = decide (a.1 = 0) := by
  rw [numD_eqv]
  unfold NumOk at oa
  split
  · rename_i h
    rw [if_pos h] at oa
    by_cases ha : a.1 = 0
    · have e := oa.2.2.2
      rw [ha] at e
      simp at e
      have e2 : a.2 = 1 := by omega
      simp [ha, e2]
    · simp [ha]
  · by_cases ha : a.1 = 0 <;> simp [ha]
def sp_number_inverse (C : Addr) : Sp := fun vs H Q E => ∃ f va a, vs = [.int f, va] ∧ IsF f ∧ NumV H f va a ∧ NumOk f a ∧ (a.1 = 0 → ∀ H', Same H H' → E (.ref C) none H') ∧ (a.1 ≠ 0 → ∀ v H', NumV H' f v (invN f a) → Same H H' → Q v H')
theorem ok_number_inverse (T : Txt K mg) : FnOk P w K mg base (L2.CX P w) 5 T.number_inverse.f T.number_inverse.fd P_number_inverse (sp_number_inverse T.ZeroDivisor.C) := by
  refine T.number_inverse.F.okX sc_number_inverse (fun vs H Q E h => ?_) (fun cdv A outer s H vs Q E hr h => ?_)
  · obtain ⟨f, va, a, rfl, _⟩ := h; rfl
  · obtain ⟨f, va, a, rfl, hF, na, oa, kz, k⟩ := h
    refine ⟨_, (pss_cons (ps_expr (pe_call (ok_check_field T) (hr.mono (by decide)) rfl T.check_field.g T.check_field.F.kp (b_check_field T) .nil pass0 (pa_cons (pv 0) pa_nil)))
  (pss_cons (ps_expr (pe_call (ok_check_number T) (hr.mono (by decide)) rfl T.check_number.g T.check_number.F.kp (b_check_number T) .nil pass0 (pa_cons (pv 0) (pa_cons (pv 1) pa_nil))))
  (pss_cons (ps_if (pt_cmpR (op_eqD hr.units) (pv 1) (pe_call (ok_zero_of T) (hr.mono (by decide)) rfl T.zero_of.g T.zero_of.F.kp (b_zero_of T) .nil pass0 (pa_cons (pv 0) pa_nil)) (nomark _)) (pss_one (ps_raise rfl (takes_of rfl rfl rfl rfl) (pmk_own PySem.F.excBase_ValueError T.ZeroDivisor.x T.ZeroDivisor.g T.ZeroDivisor.k (raises_own T.ZeroDivisor.be T.ZeroDivisor.ty) rfl))) pss_nil)
  (pss_one (ps_ret (pe_call (ok_invert_number T) (hr.mono (by decide)) rfl T.invert_number.g T.invert_number.F.kp (b_invert_number T) .nil pass0 (pa_cons (pv 0) (pa_cons (pv 1) pa_nil)))))))), ?_⟩
    walk_at "rd"
    refine ⟨hF, ?_⟩
    walk_at "rd"
    refine ⟨_, _, a, rfl, na, oa, ?_⟩
    walk_at "rd"
    intro v H1 nz s1
    have na1 := na.same s1
    refine ⟨_, _, na1.dp, nz.dp, numD_shaped _ _, numD_shaped _ _, ?_⟩
    rw [numD_zero oa]
    walk_at "rd"
    refine iteD (fun h0 => ?_) (fun h0 => ?_)
    · exact kz h0 _ s1
    · walk_at "rd"
      exact ⟨_, _, a, rfl, hF, na1, oa, h0, fun v H' n s => k h0 v H' n (Same.trans s1 s)⟩
end

/-! ### the law's own draws -/
/-- the law's row at r: the script, how many cells are taken, a mixed number, a cell's rest -/
def SqN (K : PySem.W.Frag) (H : Hp) (r sa : Addr) (xs : List V) : Prop := (Rd H sa (.lst xs) ∧ sa ≠ r) ∨
  ∃ (o : Obj) (its : Array Value) (n : Nat), K.lookup sa = some o ∧ o.cls = .type "list" ∧ o.dict = none ∧ o.data = .seq its n ∧ its.size ≤ sizeLine ∧ Vals xs its.toList
theorem SqN.sq {K : PySem.W.Frag} {H : Hp} {r sa : Addr} {xs : List V} (h : SqN K H r sa xs) : SqL K H sa xs := by
  rcases h with ⟨h, _⟩ | h
  · exact .inl h
  · exact .inr h
theorem sqn_ne {K : PySem.W.Frag} {H : Hp} {r sa : Addr} {o : HO} {xs : List V} (h : SqN K H r sa xs) : SqN K (upd H r o) r sa xs := by
  rcases h with ⟨h | ⟨u, h⟩, n⟩ | h
  · exact .inl ⟨.inl ((upd_ne n).trans h), n⟩
  · exact .inl ⟨.inr ⟨u, (upd_ne n).trans h⟩, n⟩
  · exact .inr h
def RowAt (K : PySem.W.Frag) (H : Hp) (r : Addr) : Prop := ∃ (sa : Addr) (ns : List Int) (p s e : Int),
  H r = some (.lst [.ref sa, .int p, .int s, .int e]) ∧ SqN K H r sa (ns.map V.int) ∧ 0 ≤ p ∧ 0 ≤ s ∧ s < 2147483647 ∧ 0 ≤ e
/-- nothing but the row has changed -/
def ButRow (r : Addr) (H H' : Hp) : Prop := ∀ b, b ≠ r → H' b = H b
theorem RowAt.of {K : PySem.W.Frag} {H : Hp} {r sa : Addr} {ns : List Int} {p s e : Int} {xs : List V} (hx : xs = [.ref sa, .int p, .int s, .int e]) (hS : SqN K H r sa (ns.map V.int))
    (h1 : 0 ≤ p) (h2 : 0 ≤ s) (h3 : s < 2147483647) (h4 : 0 ≤ e) : RowAt K (upd H r (.lst xs)) r := by
  subst hx
  exact ⟨sa, ns, p, s, e, upd_same, sqn_ne hS, h1, h2, h3, h4⟩
theorem ButRow.of {H : Hp} {r : Addr} {o : HO} : ButRow r H (upd H r o) := fun b n => upd_ne n
section
variable {P : Program} {w : World} {K : PySem.W.Frag} {mg : Str → Option Value} {base : Heap}
def sp_law_taken (K : PySem.W.Frag) : Sp := fun vs H Q _ => ∃ (r : Addr) (m : Int), vs = [.ref r, .int m] ∧ RowAt K H r ∧ 1 ≤ m ∧ m ≤ 1000000000 ∧
  ∀ (v : Int) H', 0 ≤ v → v < m → RowAt K H' r → ButRow r H H' → Q (.int v) H'
theorem ok_law_taken (T : Txt K mg) : FnOk P w K mg base CX0 1 T.law_taken.f T.law_taken.fd P_law_taken (sp_law_taken K) := by
  refine T.law_taken.F.ok sc_law_taken (fun vs H Q E h => ?_) (fun cdv A outer s H vs Q E hr h => ?_)
  · obtain ⟨r, m, rfl, _⟩ := h; rfl
  · obtain ⟨r, m, rfl, ⟨sa, ns, p, sd, e, hrow, hS, hp, hs, hs2, he⟩, hm, hm2, k⟩ := h
    refine ⟨_, (pss_cons (ps_if (pt_cmpR op_gt (pe_ix (r := rIxL K) ix_list (pv 0) pe_int (fun _ _ => rfl)) pe_int (nomark _)) (pss_cons (ps_set (i := 2) sc_law_taken.nd rfl (Or.inl rfl) (pe_op op_mod (pe_callTy call_int1 rfl T.n_int bo_int (pa_cons (pe_ix (r := rIxL K) ix_list (pv 0) pe_int (fun _ _ => rfl)) pa_nil)) (pv 1)))
  (pss_cons (ps_asg (pe_op op_fdivZ (pe_ix (r := rIxL K) ix_list (pv 0) pe_int (fun _ _ => rfl)) (pv 1)) (pg_sub (pv 0) pe_int set_list))
  (pss_one (ps_ret (pv 2))))) pss_nil)
  (pss_cons (ps_asg (pe_op op_add (pe_ix (r := rIxL K) ix_list (pv 0) pe_int (fun _ _ => rfl)) pe_int) (pg_sub (pv 0) pe_int set_list))
  (pss_cons (ps_if (pt_cmpR op_gt (pe_ix (r := rIxL K) ix_list (pv 0) pe_int (fun _ _ => rfl)) (pe_callB (r := rLenS K) call_len_seq rfl T.n_len bo_len (pa_cons (pe_ix (r := rIxL K) ix_list (pv 0) pe_int (fun _ _ => rfl)) pa_nil)) (nomark _)) (pss_cons (ps_asg (pe_op op_mod (pe_callTy call_int1 rfl T.n_int bo_int (pa_cons (pe_op op_add (pe_op op_mulW (pe_ix (r := rIxL K) ix_list (pv 0) pe_int (fun _ _ => rfl)) pe_int) pe_int) pa_nil)) pe_int) (pg_sub (pv 0) pe_int set_list))
  (pss_one (ps_ret (pe_op op_mod (pe_callTy call_int1 rfl T.n_int bo_int (pa_cons (pe_op op_fdivZ (pe_ix (r := rIxL K) ix_list (pv 0) pe_int (fun _ _ => rfl)) pe_int) pa_nil)) (pv 1))))) pss_nil)
  (pss_cons (ps_set (i := 3) sc_law_taken.nd rfl (Or.inl rfl) (pe_ix (r := rIxL K) ix_list (pe_ix (r := rIxL K) ix_list (pv 0) pe_int (fun _ _ => rfl)) (pe_op op_sub (pe_ix (r := rIxL K) ix_list (pv 0) pe_int (fun _ _ => rfl)) pe_int) (fun _ _ => rfl)))
  (pss_cons (ps_asg (pe_op op_mod (pe_callTy call_int1 rfl T.n_int bo_int (pa_cons (pe_op op_add (pe_op op_add (pe_op op_mulW (pe_ix (r := rIxL K) ix_list (pv 0) pe_int (fun _ _ => rfl)) pe_int) (pv 3)) pe_int) pa_nil)) pe_int) (pg_sub (pv 0) pe_int set_list))
  (pss_cons (ps_if (pt_cmpR op_ge (pv 3) (pe_op op_powW pe_int pe_int) (nomark _)) (pss_one (ps_asg (pe_op op_fdivZ (pv 3) (pv 1)) (pg_sub (pv 0) pe_int set_list))) pss_nil)
  (pss_one (ps_ret (pe_op op_mod (pe_callTy call_int1 rfl T.n_int bo_int (pa_cons (pv 3) pa_nil)) (pv 1)))))))))), ?_⟩
    walk_at "rd"
    refine iteD (fun h1 => ?_) (fun h1 => ?_)
    · walk_at "rd"
      refine k _ _ (Int.emod_nonneg _ (by omega)) (Int.emod_lt_of_pos _ (by omega)) (.of rfl hS hp hs hs2 ?_) .of
      rw [Int.fdiv_eq_ediv_of_nonneg _ (by omega)]
      exact Int.ediv_nonneg he (by omega)
    · walk_at "rd"
      refine ⟨_, _, rfl, .inl (sqn_ne hS).sq, ?_⟩
      walk_at "rd"
      refine iteD (fun h2 => ?_) (fun h2 => ?_)
      · walk_at "rd"
        refine k _ _ (Int.emod_nonneg _ (by omega)) (Int.emod_lt_of_pos _ (by omega)) (.of rfl (sqn_ne hS) (show 0 ≤ p + 1 by omega) (Int.emod_nonneg _ (by omega)) (Int.emod_lt_of_pos _ (by omega)) he) fun b n => ?_
        rw [upd_ne n, upd_ne n]
      · rw [List.length_map] at h2
        obtain ⟨c, hc⟩ : ∃ c, ns[p.toNat]? = some c := ⟨_, List.getElem?_eq_getElem (by omega)⟩
        have hat : atI (ns.map V.int) (p + 1 - 1) = some (V.int c) := by
          rw [show p + 1 - 1 = (p.toNat : Int) by omega]
          refine atI_nat ?_
          rw [List.getElem?_map, hc]; rfl
        walk_at "rd"
        refine ⟨_, _, _, _, rfl, rfl, (sqn_ne hS).sq, hat, ?_⟩
        walk_at "rd"
        refine iteD (fun h3 => ?_) (fun h3 => ?_)
        · walk_at "rd"
          have h3' : (0 : Int) ≤ c := by
            have : ((10 : Int) ^ (18 : Int).toNat) = 1000000000000000000 := by decide
            omega
          refine k _ _ (Int.emod_nonneg _ (by omega)) (Int.emod_lt_of_pos _ (by omega)) (.of rfl (sqn_ne (sqn_ne hS)) (show 0 ≤ p + 1 by omega) (Int.emod_nonneg _ (by omega)) (Int.emod_lt_of_pos _ (by omega)) ?_) fun b n => ?_
          · rw [Int.fdiv_eq_ediv_of_nonneg _ (by omega)]
            exact Int.ediv_nonneg h3' (by omega)
          · rw [upd_ne n, upd_ne n, upd_ne n]
        · walk_at "rd"
          refine k _ _ (Int.emod_nonneg _ (by omega)) (Int.emod_lt_of_pos _ (by omega)) (.of rfl (sqn_ne hS) (show 0 ≤ p + 1 by omega) (Int.emod_nonneg _ (by omega)) (Int.emod_lt_of_pos _ (by omega)) he) fun b n => ?_
          rw [upd_ne n, upd_ne n]
/-- things is a list at p: the draw gives one of its items -/
def sp_law_pick (K : PySem.W.Frag) : Sp := fun vs H Q _ => ∃ (r l : Addr) (xs : List V), vs = [.ref r, .ref l] ∧ RowAt K H r ∧ SqL K H l xs ∧ l ≠ r ∧ 1 ≤ xs.length ∧ xs.length ≤ 1000000000 ∧
  ∀ (v : V) H', v ∈ xs → RowAt K H' r → ButRow r H H' → Q v H'
theorem sql_but {K : PySem.W.Frag} {H H' : Hp} {r a : Addr} {xs : List V} (h : SqL K H a xs) (n : a ≠ r) (b : ButRow r H H') : SqL K H' a xs := by
  rcases h with (h | ⟨u, h⟩) | h
  · exact .inl (.inl ((b a n).trans h))
  · exact .inl (.inr ⟨u, (b a n).trans h⟩)
  · exact .inr h
theorem ok_law_pick (T : Txt K mg) : FnOk P w K mg base CX0 2 T.law_pick.f T.law_pick.fd P_law_pick (sp_law_pick K) := by
  refine T.law_pick.F.ok sc_law_pick (fun vs H Q E h => ?_) (fun cdv A outer s H vs Q E hr h => ?_)
  · obtain ⟨r, l, xs, rfl, _⟩ := h; rfl
  · obtain ⟨r, l, xs, rfl, hrow, hl, hne, h1, h2, k⟩ := h
    refine ⟨_, (pss_one (ps_ret (pe_ix (r := rIxL K) ix_list (pv 1) (pe_call (ok_law_taken T) (hr.mono (by decide)) rfl T.law_taken.g T.law_taken.F.kp (b_law_taken T) .nil pass0 (pa_cons (pv 0) (pa_cons (pe_callB (r := rLenS K) call_len_seq rfl T.n_len bo_len (pa_cons (pv 1) pa_nil)) pa_nil))) (fun _ _ => rfl)))), ?_⟩
    walk_at "rd"
    refine ⟨_, _, rfl, .inl hl, ?_⟩
    walk_at "rd"
    refine ⟨hrow, by omega, by omega, fun v H' v0 v1 hrow' hb => ?_⟩
    have hlt : v.toNat < xs.length := by omega
    refine ⟨_, _, _, xs[v.toNat], rfl, rfl, sql_but hl hne hb, ?_, ?_⟩
    · exact at_of (show v = (v.toNat : Int) by omega) (List.getElem?_eq_getElem hlt)
    · exact k _ _ (List.getElem_mem hlt) hrow' hb
def BI : Nat := 21000000000000000000
def sp_law_integer (K : PySem.W.Frag) : Sp := fun vs H Q _ => ∃ (r : Addr), vs = [.ref r] ∧ RowAt K H r ∧ ∀ (v : Int) H', v.natAbs ≤ BI → RowAt K H' r → ButRow r H H' → Q (.int v) H'
theorem ok_law_integer (T : Txt K mg) : FnOk P w K mg base CX0 2 T.law_integer.f T.law_integer.fd P_law_integer (sp_law_integer K) := by
  refine T.law_integer.F.ok sc_law_integer (fun vs H Q E h => ?_) (fun cdv A outer s H vs Q E hr h => ?_)
  · obtain ⟨r, rfl, _⟩ := h; rfl
  · obtain ⟨r, rfl, hrow, k⟩ := h
    refine ⟨_, (pss_cons (ps_set (i := 1) sc_law_integer.nd rfl (Or.inl rfl) (pe_op op_sub (pe_call (ok_law_taken T) (hr.mono (by decide)) rfl T.law_taken.g T.law_taken.F.kp (b_law_taken T) .nil pass0 (pa_cons (pv 0) (pa_cons pe_int pa_nil))) pe_int))
  (pss_cons (ps_if (pt_cmpR op_eq (pe_call (ok_law_taken T) (hr.mono (by decide)) rfl T.law_taken.g T.law_taken.F.kp (b_law_taken T) .nil pass0 (pa_cons (pv 0) (pa_cons pe_int pa_nil))) pe_int (nomark _)) (pss_one (ps_set (i := 1) sc_law_integer.nd rfl (Or.inl rfl) (pe_op op_add (pe_op op_mulW (pe_op op_add (pe_op op_mulW (pv 1) (pe_op op_powW pe_int pe_int)) (pe_call (ok_law_taken T) (hr.mono (by decide)) rfl T.law_taken.g T.law_taken.F.kp (b_law_taken T) .nil pass0 (pa_cons (pv 0) (pa_cons (pe_op op_powW pe_int pe_int) pa_nil)))) (pe_op op_powW pe_int pe_int)) (pe_call (ok_law_taken T) (hr.mono (by decide)) rfl T.law_taken.g T.law_taken.F.kp (b_law_taken T) .nil pass0 (pa_cons (pv 0) (pa_cons (pe_op op_powW pe_int pe_int) pa_nil)))))) pss_nil)
  (pss_one (ps_ret (pv 1))))), ?_⟩
    walk_at "rd"
    refine ⟨hrow, by omega, by omega, fun v H1 v0 v1 row1 b1 => ?_⟩
    walk_at "rd"
    refine ⟨row1, by omega, by omega, fun u H2 u0 u1 row2 b2 => ?_⟩
    walk_at "rd"
    have b12 : ButRow r H H2 := fun b n => (b2 b n).trans (b1 b n)
    refine iteV (fun h0 => ?_) (fun h0 => ?_)
    · walk_at "rd"
      have e9 : ((10 : Int) ^ Int.toNat 9) = 1000000000 := by decide
      rw [e9]
      refine ⟨mulW64 (by omega) (by omega), ?_⟩
      walk_at "rd"
      refine ⟨row2, by omega, by omega, fun v3 H3 p0 p1 row3 b3 => ?_⟩
      walk_at "rd"
      rw [e9] at p1 ⊢
      refine ⟨row3, by omega, by omega, fun v4 H4 q0 q1 row4 b4 => ?_⟩
      walk_at "rd"
      refine k _ _ ?_ row4 fun b n => (b4 b n).trans ((b3 b n).trans (b12 b n))
      show (((v - 20) * 1000000000 + v3) * 1000000000 + v4).natAbs ≤ 21000000000000000000
      omega
    · walk_at "rd"
      refine k _ _ ?_ row2 b12
      show (v - 20).natAbs ≤ 21000000000000000000
      omega
def sp_law_zero : Sp := fun vs H Q _ => ∃ f, vs = [.int f] ∧ 0 ≤ f ∧ ∀ v H', NumV H' f v (0, 1) → Same H H' → Q v H'
theorem ok_law_zero (T : Txt K mg) : FnOk P w K mg base CX0 1 T.law_zero.f T.law_zero.fd P_law_zero sp_law_zero := by
  refine T.law_zero.F.ok sc_law_zero (fun vs H Q E h => ?_) (fun cdv A outer s H vs Q E hr h => ?_)
  · obtain ⟨f, rfl, _⟩ := h; rfl
  · obtain ⟨f, rfl, f0, k⟩ := h
    refine ⟨_, (pss_one (ps_ret (pe_ifExp (pt_cmpR op_gt (pv 0) pe_int (nomark _)) pe_int (pe_tup (pa_cons pe_int (pa_cons pe_int pa_nil)))))), ?_⟩
    walk_at "rd"
    refine iteD (fun hf => ?_) (fun hf => ?_)
    · exact k _ _ (.inr ⟨by omega, rfl, rfl⟩) (Same.refl _)
    · refine ⟨two_line, fun p hp => ?_⟩
      exact k _ _ (.inl ⟨by omega, p, rfl, upd_same⟩) (same_upd hp)
end

/-! ### the law's own reckoning -/
theorem fn_never {P : Program} {w : World} {K : PySem.W.Frag} {mg : Str → Option Value} {base : Heap} {CX : CXT} {k : Nat} {f : Addr} {fd : FuncData} {ps : List Str} : FnOk P w K mg base CX k f fd ps (fun _ _ _ _ => False) :=
  ⟨fun _ _ _ _ h => h.elim, fun _ _ _ _ _ _ _ _ _ _ _ _ _ h => h.elim⟩
theorem inv_all : ∀ f ∈ FieldsP, ∀ r ∈ (List.range 31).map (fun i : Nat => (i : Int)), 0 < r → r < f → r * invP r f % f = 1 := by decide +kernel
theorem inv_ok {f r : Int} (hf : f ∈ FieldsP) (h0 : 0 < r) (h1 : r < f) : r * invP r f % f = 1 := by
  have hb := (IsF.lt (.inr hf)).2
  refine inv_all f hf r ?_ h0 h1
  refine List.mem_map.mpr ⟨r.toNat, List.mem_range.mpr (by omega), by omega⟩
theorem inv_dvd {f d : Int} (hf : f ∈ FieldsP) (hd : d % f ≠ 0) : f ∣ d * invP (d % f) f - 1 := by
  have h2 := IsF.pos (.inr hf) (by intro z; subst z; revert hf; decide)
  have e1 := Int.emod_nonneg d (show f ≠ 0 by omega)
  have e2 := Int.emod_lt_of_pos d (show 0 < f by omega)
  have h := inv_ok hf (show 0 < d % f by omega) e2
  have h3 : f ∣ (d % f) * invP (d % f) f - 1 := Int.dvd_of_emod_eq_zero (by rw [Int.sub_emod, h]; have : (1 : Int) % f = 1 := Int.emod_eq_of_lt (by omega) (by omega); rw [this]; rfl)
  have h4 : d * invP (d % f) f - 1 = ((d % f) * invP (d % f) f - 1) + f * ((d / f) * invP (d % f) f) := by
    have this := Int.emod_add_mul_ediv d f
    generalize invP (d % f) f = e
    generalize d % f = r at this
    generalize d / f = q at this
    subst this
    grind
  rw [h4]
  exact Int.dvd_add h3 (Int.dvd_mul_right _ _)
/-- the one k below f with f ∣ k * d - n -/
theorem num_one {f n d k : Int} (hf : f ∈ FieldsP) (hd : d % f ≠ 0) (k0 : 0 ≤ k) (k1 : k < f) : (k * d - n) % f = 0 ↔ k = n * invP (d % f) f % f := by
  have h := inv_dvd hf hd
  generalize invP (d % f) f = e at *
  constructor
  · intro hk
    have h1 : f ∣ k * d - n := Int.dvd_of_emod_eq_zero hk
    have h2 : f ∣ n * e - k := by
      have : n * e - k = k * (d * e - 1) - (k * d - n) * e := by grind
      rw [this]
      exact Int.dvd_sub (Int.dvd_trans h (Int.dvd_mul_left _ _)) (Int.dvd_trans h1 (Int.dvd_mul_right _ _))
    have h3 := Int.emod_emod_of_dvd (n * e - k) (Int.dvd_refl f)
    have h4 : (n * e - k) % f = 0 := Int.emod_eq_zero_of_dvd h2
    have h5 : n * e % f = k % f := (Int.emod_eq_emod_iff_emod_sub_eq_zero).mpr h4
    rw [h5, Int.emod_eq_of_lt k0 k1]
  · intro hk
    refine Int.emod_eq_zero_of_dvd ?_
    have h1 : f ∣ n * e - k := by
      rw [hk]
      exact Int.dvd_self_sub_emod
    have : k * d - n = n * (d * e - 1) - (n * e - k) * d := by grind
    rw [this]
    exact Int.dvd_sub (Int.dvd_trans h (Int.dvd_mul_left _ _)) (Int.dvd_trans h1 (Int.dvd_mul_right _ _))
theorem gcd_clock : 2 ^ 19999 * (BB + BB) < 3 ^ 19999 := by decide +kernel
theorem gcd_step {A B i S : Nat} (hB : 0 < B) (hBA : 1 ≤ i → B ≤ A) (h : (A + B) * 3 ^ (i - 1) ≤ 2 ^ (i - 1) * S) : (B + A % B) * 3 ^ (i + 1 - 1) ≤ 2 ^ (i + 1 - 1) * S := by
  have hr := Nat.mod_lt A hB
  cases i with
  | zero =>
    have := Nat.mod_le A B
    simp only [Nat.zero_sub, Nat.zero_add, Nat.sub_self, Nat.pow_zero, Nat.mul_one, Nat.one_mul] at h ⊢
    omega
  | succ j =>
    have hA := hBA (by omega)
    have h1 : B * 1 ≤ B * (A / B) := Nat.mul_le_mul_left _ (Nat.div_pos hA hB)
    have h2 := Nat.div_add_mod A B
    have h3 : 3 * (B + A % B) ≤ 2 * (A + B) := by omega
    show (B + A % B) * 3 ^ (j + 1) ≤ 2 ^ (j + 1) * S
    have h' : (A + B) * 3 ^ j ≤ 2 ^ j * S := h
    have h4 := Nat.mul_le_mul_right (3 ^ j) h3
    rw [Nat.pow_succ, Nat.pow_succ]
    generalize 3 ^ j = x at *
    generalize 2 ^ j = y at *
    have e1 : (B + A % B) * (x * 3) = 3 * (B + A % B) * x := by rw [Nat.mul_comm x 3, ← Nat.mul_assoc, Nat.mul_comm _ 3]
    have e2 : 2 * (A + B) * x = 2 * ((A + B) * x) := Nat.mul_assoc _ _ _
    have e3 : y * 2 * S = 2 * (y * S) := by rw [Nat.mul_comm y 2, Nat.mul_assoc]
    rw [e1, e3]
    omega
theorem gcd_end {A B : Nat} (h : (A + B) * 3 ^ (20000 - 1) ≤ 2 ^ (20000 - 1) * (BB + BB)) : A + B = 0 := by
  have hc := gcd_clock
  have e : 20000 - 1 = 19999 := rfl
  rw [e] at h
  generalize 3 ^ 19999 = x at *
  generalize 2 ^ 19999 * (BB + BB) = y at *
  cases Nat.eq_zero_or_pos (A + B) with
  | inl z => exact z
  | inr z =>
    have := Nat.mul_le_mul_right x z
    omega
section
variable {P : Program} {w : World} {K : PySem.W.Frag} {mg : Str → Option Value} {base : Heap}
def sp_law_gcd : Sp := fun vs H Q _ => ∃ a b, vs = [.int a, .int b] ∧ a.natAbs < BB ∧ b.natAbs < BB ∧ Q (.int ((Nat.gcd a.natAbs b.natAbs : Nat) : Int)) H
theorem ok_law_gcd (T : Txt K mg) : FnOk P w K mg base CX0 1 T.law_gcd.f T.law_gcd.fd P_law_gcd sp_law_gcd := by
  refine T.law_gcd.F.ok sc_law_gcd (fun vs H Q E h => ?_) (fun cdv A outer s H vs Q E hr h => ?_)
  · obtain ⟨a, b, rfl, _⟩ := h; rfl
  · obtain ⟨a0, b0, rfl, ha, hb, k⟩ := h
    refine ⟨_, (pss_cons (ps_par rfl sc_law_gcd.nd (i := 0) (j := 1) rfl rfl (by decide) rfl rfl (pa_cons (pe_callB call_abs rfl T.n_abs bo_abs (pa_cons (pv 0) pa_nil)) (pa_cons (pe_callB call_abs rfl T.n_abs bo_abs (pa_cons (pv 1) pa_nil)) pa_nil)) rfl)
  (pss_cons (ps_for PassesOwn.never rfl (pi_range1 rfl T.n_range (pa_cons pe_int pa_nil)) (pg_name (i := 2) sc_law_gcd.nd rfl (Or.inl rfl)) (pss_cons (ps_if (pt_cmpR op_eq (pv 1) pe_int (nomark _)) (pss_one (ps_ret (pv 0))) pss_nil)
  (pss_one (ps_par rfl sc_law_gcd.nd (i := 0) (j := 1) rfl rfl (by decide) rfl rfl (pa_cons (pv 1) (pa_cons (pe_op op_mod (pe_callTy call_int1 rfl T.n_int bo_int (pa_cons (pv 0) pa_nil)) (pv 1)) pa_nil)) rfl))))
  (pss_one (ps_ret (pv 0))))), ?_⟩
    walk_at "rd"
    have ea : (if a0 < 0 then -a0 else a0) = (a0.natAbs : Int) := by split <;> omega
    have eb : (if b0 < 0 then -b0 else b0) = (b0.natAbs : Int) := by split <;> omega
    rw [ea, eb]
    refine ⟨by omega, by omega, for_range (lo := 0) (n := 20000) (fun i σ H' => H' = H ∧ ∃ (A B : Nat) (v : Option V), σ = [some (.int (A : Int)), some (.int (B : Int)), v] ∧ Nat.gcd A B = Nat.gcd a0.natAbs b0.natAbs ∧ (1 ≤ i → B ≤ A) ∧ (A + B) * 3 ^ (i - 1) ≤ 2 ^ (i - 1) * (BB + BB))
      ⟨rfl, _, _, none, rfl, rfl, fun h => absurd h (by decide), by show (a0.natAbs + b0.natAbs) * 1 ≤ 1 * (BB + BB); omega⟩ ?_ ?_⟩
    · rintro i σ H' hi ⟨rfl, A, B, v, rfl, hg, hBA, hS⟩
      walk_at "rd"
      refine iteV (fun hB => ?_) (fun hB => ?_)
      · walk_at "rd"
        have e : B = 0 := by omega
        rw [e, Nat.gcd_zero_right] at hg
        rw [← hg] at k
        exact k
      · have hB0 : 0 < B := by omega
        walk_at "rd"
        refine ⟨B, A % B, some (.int (0 + (i : Int))), ?_, ?_, ?_, ?_⟩
        · show [some (V.int (B : Int)), some (V.int ((A : Int) % (B : Int))), some (V.int (0 + (i : Int)))] = _
          rw [← Int.natCast_emod]
        · rw [Nat.gcd_comm B, ← Nat.gcd_rec, Nat.gcd_comm, hg]
        · intro _
          exact Nat.le_of_lt (Nat.mod_lt _ hB0)
        · exact gcd_step hB0 hBA hS
    · rintro σ H' ⟨rfl, A, B, v, rfl, hg, hBA, hS⟩
      walk_at "rd"
      have e : A + B = 0 := gcd_end hS
      have eA : A = 0 := by omega
      have eB : B = 0 := by omega
      subst eA eB
      rw [← hg] at k
      exact k
def sp_law_num : Sp := fun vs H Q _ => ∃ f n d, vs = [.int f, .int n, .int d] ∧ IsF f ∧ n.natAbs < BB ∧ d.natAbs < BB ∧ isZ f d = false ∧ ∀ v H', NumV H' f v (mkN f n d) → Same H H' → Q v H'
theorem ok_law_num (T : Txt K mg) : FnOk P w K mg base CX0 2 T.law_num.f T.law_num.fd P_law_num sp_law_num := by
  refine T.law_num.F.ok sc_law_num (fun vs H Q E h => ?_) (fun cdv A outer s H vs Q E hr h => ?_)
  · obtain ⟨f, n, d, rfl, _⟩ := h; rfl
  · obtain ⟨f, n, d, rfl, hF, hn, hd, hz, k⟩ := h
    refine ⟨_, (pss_cons (ps_if (pt_cmpR op_gt (pv 0) pe_int (nomark _)) (pss_one (ps_ret (pe_ix (r := rIxL K) ix_list (pe_lc (own := [("k", 3)]) rfl sc_law_num.nd (pi_range1 rfl T.n_range (pa_cons (pv 0) pa_nil)) (blkOk_by (own := [("k", 3)]) (N := N_law_num) (sc := defScope s_law_num) (by decide +kernel)) (fun _ _ _ _ _ => (pg_name (i := 3) sc_law_num.nd rfl (Or.inl rfl))) (fun _ _ _ _ _ => pts_one (pt_cmpR op_eq (pe_op op_mod (pe_callTy call_int1 rfl T.n_int bo_int (pa_cons (pe_op op_sub (pe_op op_mulW (pv 3) (pv 2)) (pv 1)) pa_nil)) (pv 0)) pe_int (nomark _))) (fun _ _ _ _ _ => (pv 3))) pe_int (fun _ _ => rfl)))) pss_nil)
  (pss_cons (ps_set (i := 4) sc_law_num.nd rfl (Or.inl rfl) (pe_ifExp (pt_cmpR op_gt (pv 2) pe_int (nomark _)) (pe_call (ok_law_gcd T) (hr.mono (by decide)) rfl T.law_gcd.g T.law_gcd.F.kp (b_law_gcd T) .nil pass0 (pa_cons (pv 1) (pa_cons (pv 2) pa_nil))) (pe_op op_sub pe_int (pe_call (ok_law_gcd T) (hr.mono (by decide)) rfl T.law_gcd.g T.law_gcd.F.kp (b_law_gcd T) .nil pass0 (pa_cons (pv 1) (pa_cons (pv 2) pa_nil))))))
  (pss_one (ps_ret (pe_tup (pa_cons (pe_op op_fdivZ (pv 1) (pv 4)) (pa_cons (pe_op op_fdivZ (pv 2) (pv 4)) pa_nil))))))), ?_⟩
    walk_at "rd"
    unfold mkN at k
    unfold isZ at hz
    have h31 := hF.lt
    refine iteD (fun hf => ?_) (fun hf => ?_)
    · have hf0 : f ≠ 0 := by omega
      rw [if_neg hf0] at k hz
      have hdf : d % f ≠ 0 := of_decide_eq_false hz
      have hfm : f ∈ FieldsP := hF.resolve_left hf0
      have hk0 := Int.emod_nonneg (n * invP (d % f) f) hf0
      have hk1 := Int.emod_lt_of_pos (n * invP (d % f) f) hf
      walk_at "rd"
      have hD : ∀ k : Int, 0 ≤ k → k < f → ((k * d - n) % f = 0 ↔ k = n * invP (d % f) f % f) := fun k a b => num_one hfm hdf a b
      generalize n * invP (d % f) f % f = k0 at *
      refine ⟨by omega, by omega, fun D hDn => lc_range (lo := 0) (n := f.toNat) (fun i H' => H' = upd H D (.lst (if k0 < (i : Int) then [.int k0] else []))) ?_ ?_ ?_⟩
      · rw [if_neg (show ¬ k0 < ((0 : Nat) : Int) by omega)]
      · rintro i H' hi rfl
        walk_at "rd"
        refine ⟨wide_mul (a := 64) (b := 4000) (by omega) hd (by decide) (by decide) (by decide), ?_⟩
        walk_at "rd"
        refine iteV (fun hk => ?_) (fun hk => ?_)
        · have e := (hD (0 + (i : Int)) (by omega) (by omega)).mp hk
          walk_at "rd"
          refine ⟨_, upd_same, ?_, ?_⟩
          · rw [if_neg (by omega)]; decide
          · rw [if_neg (by omega), if_pos (show k0 < ((i + 1 : Nat) : Int) by omega), upd_upd, e]
            rfl
        · have e : ¬ (0 + (i : Int)) = k0 := fun z => hk ((hD (0 + (i : Int)) (by omega) (by omega)).mpr z)
          show upd H D _ = upd H D _
          by_cases h : k0 < (i : Int)
          · rw [if_pos h, if_pos (show k0 < ((i + 1 : Nat) : Int) by omega)]
          · rw [if_neg h, if_neg (show ¬ k0 < ((i + 1 : Nat) : Int) by omega)]
      · rintro H' rfl
        rw [if_pos (show k0 < (f.toNat : Int) by omega)]
        walk_at "rd"
        exact k _ _ (.inr ⟨hf0, rfl, rfl⟩) (same_upd hDn)
    · have hf0 : f = 0 := by omega
      rw [if_pos hf0] at k hz
      have d0 : d ≠ 0 := of_decide_eq_false hz
      have hg := sgnG_ne (n := n) d0
      have hl := sgnG_le (n := n) d0
      have hgb : (sgnG n d).natAbs < BB := Nat.lt_of_le_of_lt hl hd
      walk_at "rd"
      unfold lowQ at k
      refine iteD (fun hd0 => ?_) (fun hd0 => ?_)
      · have e : ((Nat.gcd n.natAbs d.natAbs : Nat) : Int) = sgnG n d := by unfold sgnG; rw [if_neg (by omega)]
        rw [← e] at k hg hgb
        walk_at "rd"
        refine ⟨hn, hd, ?_⟩
        walk_at "rd"
        refine ⟨cdivZ (b := 4000) hg hgb (by decide) (by decide), ?_⟩
        walk_at "rd"
        refine ⟨cdivZ (b := 4000) hg hgb (by decide) (by decide), ?_⟩
        refine ⟨two_line, fun p hp => ?_⟩
        exact k _ _ (.inl ⟨hf0, p, rfl, upd_same⟩) (same_upd hp)
      · have e : 0 - ((Nat.gcd n.natAbs d.natAbs : Nat) : Int) = sgnG n d := by unfold sgnG; rw [if_pos (by omega)]; omega
        rw [← e] at k hg hgb
        walk_at "rd"
        refine ⟨hn, hd, ?_⟩
        walk_at "rd"
        refine ⟨cdivZ (b := 4000) hg hgb (by decide) (by decide), ?_⟩
        walk_at "rd"
        refine ⟨cdivZ (b := 4000) hg hgb (by decide) (by decide), ?_⟩
        refine ⟨two_line, fun p hp => ?_⟩
        exact k _ _ (.inl ⟨hf0, p, rfl, upd_same⟩) (same_upd hp)
/-- two equal ints -/
def sp_alike0 : Sp := fun vs H Q _ => ∃ x, vs = [.int x, .int x] ∧ ∀ H', Same H H' → Q (.bl true) H'
theorem ok_alike0 (T : Txt K mg) : FnOk P w K mg base CX0 1 T.law_alike.f T.law_alike.fd P_law_alike sp_alike0 := by
  refine T.law_alike.F.ok sc_law_alike (fun vs H Q E h => ?_) (fun cdv A outer s H vs Q E hr h => ?_)
  · obtain ⟨x, rfl, _⟩ := h; rfl
  · obtain ⟨x, rfl, k⟩ := h
    have G0 : FnOk P w K mg base CX0 0 T.law_alike.f T.law_alike.fd P_law_alike (fun _ _ _ _ => False) := fn_never
    refine ⟨_, (pss_cons (ps_if (pt_val (pe_callB (r := rIsiT K) call_isiT rfl T.n_isinstance bo_isinstance (pa_cons (pv 1) (pa_cons (pe_tup (pa_cons (pe_bltn (v := .ty "tuple") rfl T.n_tuple bo_tuple rfl) (pa_cons (pe_bltn (v := .ty "list") rfl T.n_list bo_list rfl) pa_nil))) pa_nil)))) (pss_cons (ps_if (PW.pt (pw_or (pt_not (pt_val (pe_callB (r := rIsiT K) call_isiT rfl T.n_isinstance bo_isinstance (pa_cons (pv 0) (pa_cons (pe_tup (pa_cons (pe_bltn (v := .ty "tuple") rfl T.n_tuple bo_tuple rfl) (pa_cons (pe_bltn (v := .ty "list") rfl T.n_list bo_list rfl) pa_nil))) pa_nil))))) (pw_or1 (pt_cmpR op_ne (pe_callB (r := rIsi K) call_isi rfl T.n_isinstance bo_isinstance (pa_cons (pv 0) (pa_cons (pe_bltn (v := .ty "list") rfl T.n_list bo_list rfl) pa_nil))) (pe_callB (r := rIsi K) call_isi rfl T.n_isinstance bo_isinstance (pa_cons (pv 1) (pa_cons (pe_bltn (v := .ty "list") rfl T.n_list bo_list rfl) pa_nil))) (nomark _))))) (pss_one (ps_ret pe_bl)) pss_nil)
  (pss_cons (ps_if (pt_cmpR op_ne (pe_callB (r := rLenS K) call_len_seq rfl T.n_len bo_len (pa_cons (pv 0) pa_nil)) (pe_callB (r := rLenS K) call_len_seq rfl T.n_len bo_len (pa_cons (pv 1) pa_nil)) (nomark _)) (pss_one (ps_ret pe_bl)) pss_nil)
  (pss_one (ps_ret (pe_cmpR (op_eqD hr.units) (pe_lc (own := [("k", 2)]) rfl sc_law_alike.nd (pi_range1 rfl T.n_range (pa_cons (pe_callB (r := rLenS K) call_len_seq rfl T.n_len bo_len (pa_cons (pv 1) pa_nil)) pa_nil)) (blkOk_by (own := [("k", 2)]) (N := N_law_alike) (sc := defScope s_law_alike) (by decide +kernel)) (fun _ _ _ _ _ => (pg_name (i := 2) sc_law_alike.nd rfl (Or.inl rfl))) (fun _ _ _ _ _ => pts_one (pt_not (pt_val (pe_call G0 (hr.mono (by decide)) rfl T.law_alike.g T.law_alike.F.kp (b_law_alike T) .nil pass0 (pa_cons (pe_ix (r := rIxT K) ix_tup (pv 0) (pv 2) (fun _ _ => rfl)) (pa_cons (pe_ix (r := rIxT K) ix_tup (pv 1) (pv 2) (fun _ _ => rfl)) pa_nil)))))) (fun _ _ _ _ _ => (pv 2))) (pe_lst pa_nil) (nomark _)))))) pss_nil)
  (pss_cons (ps_if (PW.pt (pw_or (pt_cmpR op_isN (pv 1) pe_non (nomark _)) (pw_or1 (pt_val (pe_callB (r := rIsi K) call_isi rfl T.n_isinstance bo_isinstance (pa_cons (pv 1) (pa_cons (pe_bltn (v := .ty "str") rfl T.n_str bo_str rfl) pa_nil))))))) (pss_one (ps_ret (pe_and (pe_cmpR op_eq (pv 0) (pv 1) (nomark _)) (pe_one (pe_cmpR op_eq (pe_callB (r := rIsi K) call_isi rfl T.n_isinstance bo_isinstance (pa_cons (pv 0) (pa_cons (pe_bltn (v := .ty "str") rfl T.n_str bo_str rfl) pa_nil))) (pe_callB (r := rIsi K) call_isi rfl T.n_isinstance bo_isinstance (pa_cons (pv 1) (pa_cons (pe_bltn (v := .ty "str") rfl T.n_str bo_str rfl) pa_nil))) (nomark _)))))) pss_nil)
  (pss_one (ps_ret (pe_and (pe_callB (r := rIsi K) call_isi rfl T.n_isinstance bo_isinstance (pa_cons (pv 0) (pa_cons (pe_bltn (v := .ty "int") rfl T.n_int bo_int rfl) pa_nil))) (pe_and (pe_cmpR op_eq (pe_callB (r := rIsi K) call_isi rfl T.n_isinstance bo_isinstance (pa_cons (pv 0) (pa_cons (pe_bltn (v := .ty "bool") rfl T.n_bool bo_bool rfl) pa_nil))) (pe_callB (r := rIsi K) call_isi rfl T.n_isinstance bo_isinstance (pa_cons (pv 1) (pa_cons (pe_bltn (v := .ty "bool") rfl T.n_bool bo_bool rfl) pa_nil))) (nomark _)) (pe_one (pe_cmpR op_eq (pv 0) (pv 1) (nomark _))))))))), ?_⟩
    walk_at "rd"
    refine ⟨two_line, fun p hp => ?_⟩
    refine ⟨_, _, _, _, _, _, rfl, upd_same, .cons (.ty _) (.cons (.ty _) .nil), .base (.int _), kitA_int, ?_⟩
    walk_at "rd"
    show Q _ _
    rw [decide_eq_true rfl]
    exact k _ (same_upd hp)
theorem up_ne {H : Hp} {a p : Addr} {o u : HO} (h : H a = some o) (hp : H p = none) : upd H p u a = some o := (upd_ne (ne_of_none h hp)).trans h
/-- two equal numbers of a field -/
def sp_alike : Sp := fun vs H Q _ => ∃ f u v a, vs = [u, v] ∧ NumV H f u a ∧ NumV H f v a ∧ ∀ H', Same H H' → Q (.bl true) H'
theorem ok_law_alike (T : Txt K mg) : FnOk P w K mg base CX0 2 T.law_alike.f T.law_alike.fd P_law_alike sp_alike := by
  refine T.law_alike.F.ok sc_law_alike (fun vs H Q E h => ?_) (fun cdv A outer s H vs Q E hr h => ?_)
  · obtain ⟨f, u, v, a, rfl, _⟩ := h; rfl
  · obtain ⟨f, u, v, a, rfl, nu, nv, k⟩ := h
    have G0 : FnOk P w K mg base CX0 1 T.law_alike.f T.law_alike.fd P_law_alike sp_alike0 := ok_alike0 T
    refine ⟨_, (pss_cons (ps_if (pt_val (pe_callB (r := rIsiT K) call_isiT rfl T.n_isinstance bo_isinstance (pa_cons (pv 1) (pa_cons (pe_tup (pa_cons (pe_bltn (v := .ty "tuple") rfl T.n_tuple bo_tuple rfl) (pa_cons (pe_bltn (v := .ty "list") rfl T.n_list bo_list rfl) pa_nil))) pa_nil)))) (pss_cons (ps_if (PW.pt (pw_or (pt_not (pt_val (pe_callB (r := rIsiT K) call_isiT rfl T.n_isinstance bo_isinstance (pa_cons (pv 0) (pa_cons (pe_tup (pa_cons (pe_bltn (v := .ty "tuple") rfl T.n_tuple bo_tuple rfl) (pa_cons (pe_bltn (v := .ty "list") rfl T.n_list bo_list rfl) pa_nil))) pa_nil))))) (pw_or1 (pt_cmpR op_ne (pe_callB (r := rIsi K) call_isi rfl T.n_isinstance bo_isinstance (pa_cons (pv 0) (pa_cons (pe_bltn (v := .ty "list") rfl T.n_list bo_list rfl) pa_nil))) (pe_callB (r := rIsi K) call_isi rfl T.n_isinstance bo_isinstance (pa_cons (pv 1) (pa_cons (pe_bltn (v := .ty "list") rfl T.n_list bo_list rfl) pa_nil))) (nomark _))))) (pss_one (ps_ret pe_bl)) pss_nil)
  (pss_cons (ps_if (pt_cmpR op_ne (pe_callB (r := rLenS K) call_len_seq rfl T.n_len bo_len (pa_cons (pv 0) pa_nil)) (pe_callB (r := rLenS K) call_len_seq rfl T.n_len bo_len (pa_cons (pv 1) pa_nil)) (nomark _)) (pss_one (ps_ret pe_bl)) pss_nil)
  (pss_one (ps_ret (pe_cmpR (op_eqD hr.units) (pe_lc (own := [("k", 2)]) rfl sc_law_alike.nd (pi_range1 rfl T.n_range (pa_cons (pe_callB (r := rLenS K) call_len_seq rfl T.n_len bo_len (pa_cons (pv 1) pa_nil)) pa_nil)) (blkOk_by (own := [("k", 2)]) (N := N_law_alike) (sc := defScope s_law_alike) (by decide +kernel)) (fun _ _ _ _ _ => (pg_name (i := 2) sc_law_alike.nd rfl (Or.inl rfl))) (fun _ _ _ _ _ => pts_one (pt_not (pt_val (pe_call G0 (hr.mono (by decide)) rfl T.law_alike.g T.law_alike.F.kp (b_law_alike T) .nil pass0 (pa_cons (pe_ix (r := rIxT K) ix_tup (pv 0) (pv 2) (fun _ _ => rfl)) (pa_cons (pe_ix (r := rIxT K) ix_tup (pv 1) (pv 2) (fun _ _ => rfl)) pa_nil)))))) (fun _ _ _ _ _ => (pv 2))) (pe_lst pa_nil) (nomark _)))))) pss_nil)
  (pss_cons (ps_if (PW.pt (pw_or (pt_cmpR op_isN (pv 1) pe_non (nomark _)) (pw_or1 (pt_val (pe_callB (r := rIsi K) call_isi rfl T.n_isinstance bo_isinstance (pa_cons (pv 1) (pa_cons (pe_bltn (v := .ty "str") rfl T.n_str bo_str rfl) pa_nil))))))) (pss_one (ps_ret (pe_and (pe_cmpR op_eq (pv 0) (pv 1) (nomark _)) (pe_one (pe_cmpR op_eq (pe_callB (r := rIsi K) call_isi rfl T.n_isinstance bo_isinstance (pa_cons (pv 0) (pa_cons (pe_bltn (v := .ty "str") rfl T.n_str bo_str rfl) pa_nil))) (pe_callB (r := rIsi K) call_isi rfl T.n_isinstance bo_isinstance (pa_cons (pv 1) (pa_cons (pe_bltn (v := .ty "str") rfl T.n_str bo_str rfl) pa_nil))) (nomark _)))))) pss_nil)
  (pss_one (ps_ret (pe_and (pe_callB (r := rIsi K) call_isi rfl T.n_isinstance bo_isinstance (pa_cons (pv 0) (pa_cons (pe_bltn (v := .ty "int") rfl T.n_int bo_int rfl) pa_nil))) (pe_and (pe_cmpR op_eq (pe_callB (r := rIsi K) call_isi rfl T.n_isinstance bo_isinstance (pa_cons (pv 0) (pa_cons (pe_bltn (v := .ty "bool") rfl T.n_bool bo_bool rfl) pa_nil))) (pe_callB (r := rIsi K) call_isi rfl T.n_isinstance bo_isinstance (pa_cons (pv 1) (pa_cons (pe_bltn (v := .ty "bool") rfl T.n_bool bo_bool rfl) pa_nil))) (nomark _)) (pe_one (pe_cmpR op_eq (pv 0) (pv 1) (nomark _))))))))), ?_⟩
    walk_at "rd"
    refine ⟨two_line, fun p hp => ?_⟩
    rcases nu with ⟨h0, pu, rfl, hu⟩ | ⟨h0, rfl, _⟩
    · rcases nv with ⟨_, pv, rfl, hv⟩ | ⟨h1, _⟩
      rotate_left
      · exact absurd h0 h1
      refine ⟨_, _, _, _, _, _, rfl, upd_same, .cons (.ty _) (.cons (.ty _) .nil), .base (.tup (up_ne hv hp)), kitA_tuple, ?_⟩
      have hu1 := up_ne (u := .tup [V.ty "tuple", V.ty "list"]) hu hp
      have hv1 := up_ne (u := .tup [V.ty "tuple", V.ty "list"]) hv hp
      have s1 := same_upd (o := .tup [V.ty "tuple", V.ty "list"]) hp
      walk_at "rd"
      refine ⟨two_line, fun q hq => ?_⟩
      have hu2 := up_ne (u := .tup [V.ty "tuple", V.ty "list"]) hu1 hq
      have hv2 := up_ne (u := .tup [V.ty "tuple", V.ty "list"]) hv1 hq
      have s2 := Same.trans s1 (same_upd (o := .tup [V.ty "tuple", V.ty "list"]) hq)
      refine ⟨_, _, _, _, _, _, rfl, upd_same, .cons (.ty _) (.cons (.ty _) .nil), .base (.tup hu2), kitA_tuple, ?_⟩
      walk_at "rd"
      refine ⟨(show (-2 ^ 62 : Int) ≤ ((2 : Nat) : Int) by decide), (show ((2 : Nat) : Int) < 2 ^ 62 by decide), fun D hD => ?_⟩
      have s3 := Same.trans s2 (same_upd (o := .lst []) hD)
      refine lc_range (lo := 0) (n := 2) (fun i H' => Same (upd (upd (upd H p (.tup [V.ty "tuple", V.ty "list"])) q (.tup [V.ty "tuple", V.ty "list"])) D (.lst [])) H' ∧ H' D = some (.lst [])) ⟨Same.refl _, upd_same⟩ ?_ ?_
      · rintro i H' hi ⟨sm, hl⟩
        have hu3 := sm _ _ (up_ne (u := .lst []) hu2 hD)
        have hv3 := sm _ _ (up_ne (u := .lst []) hv2 hD)
        rcases (show i = 0 ∨ i = 1 by omega) with rfl | rfl
        · walk_at "rd"
          intro H4 s4
          walk_at "rd"
          exact ⟨Same.trans sm s4, s4 _ _ hl⟩
        · walk_at "rd"
          intro H4 s4
          walk_at "rd"
          exact ⟨Same.trans sm s4, s4 _ _ hl⟩
      · rintro H' ⟨sm, hl⟩
        walk_at "rd"
        refine ⟨by decide, fun E0' hE => ?_⟩
        refine ⟨_, _, .lst (.inl (.inl (up_ne hl hE))) .nil, .lst (.inl (.inl upd_same)) .nil, by decide, by decide, ?_⟩
        exact k _ (Same.trans s3 (Same.trans sm (same_upd hE)))
    · rcases nv with ⟨h1, _⟩ | ⟨_, rfl, _⟩
      · exact absurd h1 h0
      refine ⟨_, _, _, _, _, _, rfl, upd_same, .cons (.ty _) (.cons (.ty _) .nil), .base (.int _), kitA_int, ?_⟩
      walk_at "rd"
      show Q _ _
      rw [decide_eq_true rfl]
      exact k _ (same_upd hp)
end

/-! ### lambdas without parameters, made and called in one def -/
section
open PySem.Spec PyProof.Rows LamX NdefX
def LamO (f : Addr) (q : Str) (params : Arguments) (body : Expr) (scope : Scope) (cl : List (Str × Addr)) (c' : Addr) : HO :=
  .ext fun h => ∃ pm ctv, h.get? f = some (PySem.W.kla_obj "<lambda>" q params body scope cl pm c' ctv)
variable {X : Cx} {pins : List (Addr × Obj)} {σ : L2.St} {H : Hp} {s : Shared}
theorem inv_lam {q : Str} {params : Arguments} {body : Expr} {scope : Scope} {cl : List (Str × Addr)} {c' : Addr} {pm ctv : Value} {t' : Nat} (I : L2.Inv X pins σ H s) :
    L2.Inv X pins σ (upd H s.heap.objs.size (LamO s.heap.objs.size q params body scope cl c')) { s with heap := s.heap.push (PySem.W.kla_obj "<lambda>" q params body scope cl pm c' ctv), toks := t' } := by
  refine I.laid (a := s.heap.objs.size) (fun b u e => Heap.get?_push_of_some _ e) (Nat.le_refl _) ?_
  have e : (s.heap.push (PySem.W.kla_obj "<lambda>" q params body scope cl pm c' ctv)).get? s.heap.objs.size = some (PySem.W.kla_obj "<lambda>" q params body scope cl pm c' ctv) := Heap.get?_push_size _ rfl
  exact ⟨⟨pm, ctv, e⟩, ⟨_, e⟩, fun h1 h2 ⟨p, t, z⟩ st => ⟨p, t, st _ z⟩⟩
theorem lam_makeT {T : List (Addr × Str)} {c P : Addr} {params : Arguments} {body : Expr} {scope : Scope} {pos : Pos} {E : Value → Shared → Prop} {Q : Value → Shared → Prop} (I : L2.Inv X pins σ H s) (TB : TabB X.base X.mg c P) (hcode : X.env.code = .ref c)
    (hm : (P, X.env.qual ++ "<lambda>") ∈ T) (hu : ∀ p ∈ T, p.1 = P → p.2 = X.env.qual ++ "<lambda>") (hT : Tabs T H) (hdef : defaultsOf params X.env = ([], [])) (hfree : ∀ y ∈ scope.names, y.2 = .free → ∃ c, X.env.cells.lookup y.1 = some c)
    (h : ∀ (f c' : Addr) (H1 : Hp) (s' : Shared), L2.Inv X pins σ H1 s' → ExtN H H1 → (∀ b, H1 b = Option.none → H b = Option.none) → Tabs T H1 → H f = Option.none → H1 f = some (LamO f (X.env.qual ++ "<lambda>") params body scope (cloFrom X.env.cells scope.names []) c') → H1 c' = some (CodeO c' (X.env.qual ++ "<lambda>")) → Q (.ref f) s') :
    wpAny (model X.prog X.w) X.A (eval (.Lambda params body scope pos) X.env) Q E s := by
  obtain ⟨ps, hP, ht, ha⟩ := hT _ hm
  refine PySem.W.kla_eval hdef ?_
  have bP : s.heap.BuiltinsAt X.mg P := TB.bm.keeps I.bk
  have hP' : s.heap.get? P = some { cls := .none, data := .fields ps } := I.hok P _ hP
  cases hc : codeAmong pos ps.toList with
  | none =>
    refine PySem.W.kla_makeFunction (mg := X.mg) (c := c) (P := P) (ps := ps) (closure_ok hfree) I.ok.glob (I.mod.glob.keeps I.bk) hcode (TB.code.keeps I.bk) hP' ht hc TB.gP bP fun c' ctv h' tk hx hge hlt hrec htb => ?_
    obtain ⟨c2, oc, vs, t, e2, hoc, hd, hv⟩ := hrec
    cases e2
    have nC : H c' = Option.none := I.hok.fresh hge
    have I1 := inv_table (t' := tk) (more := #[rawInt pos.line, rawInt pos.col, .ref c']) (h' := h') I hP (fun b o hb e => hx b o hb e) htb hge ⟨oc, vs, t, hoc, hd, hv⟩
    have hE : ExtN H (upd (upd H P (.tbl (ps ++ #[rawInt pos.line, rawInt pos.col, .ref c']))) c' (CodeO c' (X.env.qual ++ "<lambda>"))) := fun b o e n => by
      rw [upd_ne (ne_of_none e nC), upd_ne (fun z => n ps (Option.some.inj (e.symm.trans (by rw [z]; exact hP))))]
      exact e
    have eL : (ps ++ #[rawInt pos.line, rawInt pos.col, .ref c']).toList = ps.toList ++ [rawInt pos.line, rawInt pos.col, .ref c'] := by simp
    have T1 : Tabs T (upd (upd H P (.tbl (ps ++ #[rawInt pos.line, rawInt pos.col, .ref c']))) c' (CodeO c' (X.env.qual ++ "<lambda>"))) := fun p hp => by
      by_cases hb : p.1 = P
      · rw [hu p hp hb, hb]
        refine ⟨_, by rw [upd_ne (ne_of_none hP nC), upd_same], by rw [eL]; exact PySem.TriplesOk_snoc _ _ _ _ ht, fun p' cv hcv => ?_⟩
        rw [eL] at hcv
        rcases among_app _ ht hcv with z | z
        · obtain ⟨c0, e1, e2⟩ := ha p' cv z
          exact ⟨c0, e1, hE _ _ e2 codeO_ne⟩
        · exact ⟨c', z, upd_same⟩
      · obtain ⟨ps', a1, a2, a3⟩ := hT p hp
        refine ⟨ps', by rw [upd_ne (ne_of_none a1 nC), upd_ne hb]; exact a1, a2, fun p' cv hcv => ?_⟩
        obtain ⟨c0, e1, e2⟩ := a3 p' cv hcv
        exact ⟨c0, e1, hE _ _ e2 codeO_ne⟩
    have nF := I1.hok.fresh (Nat.le_refl _)
    have I2 := inv_lam (q := X.env.qual ++ "<lambda>") (params := params) (body := body) (scope := scope) (cl := cloFrom X.env.cells scope.names []) (c' := c') (pm := (X.mg "__name__").getD .none) (ctv := ctv) (t' := tk) I1
    refine h h'.objs.size c' _ _ I2 (fun b o e n => ?_) (fun b e => upd_none (upd_none (upd_none e))) (T1.ext fun b o e => ?_) (I.hok.fresh (Nat.le_trans hge (Nat.le_of_lt hlt))) upd_same ?_
    · have e1 := hE b o e n
      exact (upd_ne (ne_of_none e1 nF)).trans e1
    · exact (upd_ne (ne_of_none e nF)).trans e
    · exact (upd_ne (Nat.ne_of_lt hlt)).trans upd_same
  | some cv =>
    obtain ⟨c', e, hco⟩ := ha pos cv hc
    subst e
    refine PySem.W.kla_makeFunctionHit (mg := X.mg) (c := c) (P := P) (ps := ps) (closure_ok hfree) I.ok.glob (I.mod.glob.keeps I.bk) hcode (TB.code.keeps I.bk) hP' ht hc bP fun ctv h' tk hx hsz => ?_
    have I1 : L2.Inv X pins σ H { s with heap := h', toks := tk } := I.kept hx
    have nF : H h'.objs.size = Option.none := I1.hok.fresh (Nat.le_refl _)
    have I2 := inv_lam (q := X.env.qual ++ "<lambda>") (params := params) (body := body) (scope := scope) (cl := cloFrom X.env.cells scope.names []) (c' := c') (pm := (X.mg "__name__").getD .none) (ctv := ctv) (t' := tk) I1
    refine h h'.objs.size c' _ _ I2 (fun b o e n => ?_) (fun b e => upd_none e) (hT.ext fun b o e => ?_) nF upd_same ?_
    · exact (upd_ne (ne_of_none e nF)).trans e
    · exact (upd_ne (ne_of_none e nF)).trans e
    · exact (upd_ne (ne_of_none hco nF)).trans hco
/-- the reading of a lambda: a new function object, known with its code object -/
def tLam (T : List (Addr × Str)) (q : Str) (params : Arguments) (body : Expr) (scope : Scope) (cl : List (Str × Addr)) : TE := fun _ H Q =>
  Tabs T H ∧ ∀ (f c' : Addr) (H1 : Hp), ExtN H H1 → (∀ b, H1 b = Option.none → H b = Option.none) → Tabs T H1 → H f = Option.none → H1 f = some (LamO f q params body scope cl c') → H1 c' = some (CodeO c' q) → Q (.ref f) H1
theorem pe_lam {T : List (Addr × Str)} {c P : Addr} {params : Arguments} {body : Expr} {scope : Scope} {pos : Pos} (TB : TabB X.base X.mg c P) (hcode : X.env.code = .ref c) (hm : (P, X.env.qual ++ "<lambda>") ∈ T)
    (hu : ∀ p ∈ T, p.1 = P → p.2 = X.env.qual ++ "<lambda>") (L : LamS X.env.scope scope) (hdef : defaultsOf params X.env = ([], []) := by rfl) :
    PE X (.Lambda params body scope pos) (tLam T (X.env.qual ++ "<lambda>") params body scope (cloFrom X.env.cells scope.names [])) := by
  refine ⟨fun pins s σ H Q I h => ?_⟩
  obtain ⟨hT, h⟩ := h
  exact lam_makeT I TB hcode hm hu hT hdef (L.has I.ok) fun f c' H1 s' I1 eN nn T1 f0 f1 c1 => ⟨.ref f, H1, I1, rfl, h f c' H1 eN nn T1 f0 f1 c1⟩
/-- fe(), fe an expression that gives such a lambda of the very def -/
theorem pe_callLam {params : Arguments} {body : Expr} {scope : Scope} {k : Nat} {E : L2.St → XK} {tb : XK → TE} {fe : Expr} {tf : TE} {p2 : Pos} (L : LamS X.env.scope scope) (hf : PE X fe tf)
    (hbind : ∀ c' pm ctv, bindArgs (PySem.W.kla_fn "<lambda>" (X.env.qual ++ "<lambda>") params body scope (cloFrom X.env.cells scope.names []) pm (.ref c') ctv) ⟨[], []⟩ = pure [])
    (hx : ∀ σ, PassesAt (L2.CX X.prog X.w) X σ (E σ)) (hr : Room (k + 1) X.A)
    (hbody : ∀ (E0 : XK) (A : Around) (outer : List Env) (s : Shared) (H : Hp) (f c' : Addr), Room k (A.deeper (lamEnv X scope s.heap.objs.size f c')) → PE (lamCx X A outer s H E0 scope f c') body (tb E0))
    (he : eval (fe.Call [] [] p2) X.env = (do
      let f ← eval fe X.env
      callWith p2 f [] (backTo p2 (starEach [] X.env)) (backToKw p2 (keywordEach [] X.env))) := by rfl) :
    PE X (.Call fe [] [] p2) (fun σ H Q => tf σ H fun x H1 => ∃ f c', x = .ref f ∧ H1 f = some (LamO f (X.env.qual ++ "<lambda>") params body scope (cloFrom X.env.cells scope.names []) c') ∧ H1 c' = some (CodeO c' (X.env.qual ++ "<lambda>")) ∧ tb (E σ) σ H1 Q) := by
  refine ⟨fun pins s σ H Q I h => ?_⟩
  refine PyProof.Rows.Call_ (thn (hf.run pins s σ H _ I h) fun u s1 hh => ?_) he
  obtain ⟨x, H1, I1, r1, f, c', ex, ef, ec, ht⟩ := hh
  subst ex
  obtain rfl : u = Value.ref f := r1
  obtain ⟨⟨pm, ctv, of1⟩, _, _⟩ := I1.hok f _ ef
  refine PySem.W.callWith_F0 ⟨_, _, _, _, of1⟩ ?_
  obtain ⟨⟨oc, vs, t, hoc, hdc, hvc⟩, _, _⟩ := I1.hok c' _ ec
  have rc : codeAny (model X.prog X.w) X.A (.call (.ref f) ⟨[], []⟩) (CR (L2.CX X.prog X.w) X.stack X.prog X.w H1 s1 Q (E σ)) s1 := by
    refine PySem.W.kla_callFunE hr.depth of1 rfl L.co L.gen rfl ⟨c', oc, vs, t, rfl, hoc, hdc, hvc⟩ ?_
    rw [hbind]
    refine wpAny_pure (wpAny_newFunctionEnv (fun y hy => (L.own y hy).2) (fun y hy => absurd hy (by simp)) (fun h₁ hns hsb => ⟨I1.nolimit.fresh _ hsb, ?_⟩) L.kind)
    show codeAny _ _ (.expr body (lamEnv X scope s1.heap.objs.size f c')) _ _
    have kp : ∀ b o, s1.heap.get? b = some o → h₁.get? b = some o := fun b o e => hsb.extBut b o (Nat.ne_of_lt (Heap.lt_size e)) (Heap.get?_push_of_some _ e)
    have J : L2.Inv (lamCx X X.A X.stack s1 H1 (E σ) scope f c') [] σ H1 { s1 with heap := h₁, toks := s1.toks + ([] : List (Str × Value)).length } :=
      lam_start2 I1 L I1.env0 hr.hd Un.refl hns kp
    refine PySem.W.kla_codeExpr (wpAny_mono ((hbody (E σ) _ _ s1 H1 f c' (hr.deeper _)).run [] _ _ H1 Q J ht) (fun v s' hq => ?_) fun e s' hq => hq)
    obtain ⟨w', H', J', rv, q⟩ := hq
    exact ⟨w', H', J'.os, J'.bare, J'.base, J'.hok, rv, q⟩
  refine wpAny_call (codeAny_mono rc fun r s' hq => ?_)
  cases r with
  | error e => exact hx σ pins H1 s1 e s' I1 hq
  | ok fl =>
    cases fl with
    | ret u => exact I1.after hq
    | next => exact False.elim hq
    | brk => exact False.elim hq
    | cont => exact False.elim hq
end

/-! ### what is refused -/
def qR : Str := ("_law_refused" : Str) ++ ".<locals>." ++ "<lambda>"
abbrev tabsR (Pt : Addr) : List (Addr × Str) := [(Pt, qR)]
theorem ExcAt.self {K : PySem.W.Frag} {mg : Str → Option Value} {x : Str} (S : ExcAt K mg x) : PySem.W.exmOne K (.ref S.C) (.ref S.C) = some true := by
  have h1 : (PySem.W.subIn K (.ref S.C) (.type "BaseException") == some true) = true := by rw [S.be] <;> rfl
  have h3 : (PySem.W.clsIn K S.C).isSome = true := S.is
  have h2 : ((PySem.W.clsIn K S.C).isSome && PySem.W.typeIn K (.ref S.C) == some (.type "type")) = true := by rw [h3, S.ty] <;> rfl
  unfold PySem.W.exmOne
  rw [if_pos h1]
  show (if ((PySem.W.clsIn K S.C).isSome && PySem.W.typeIn K (.ref S.C) == some (.type "type")) = true then PySem.W.subIn K (.ref S.C) (.ref S.C) else none) = some true
  rw [if_pos h2]
  exact S.se
def lamA (e : Expr) : Arguments := match e with
  | .Lambda a _ _ _ => a
  | _ => { posonlyargs := [], args := [], vararg := none, kwonlyargs := [], kw_defaults := [], kwarg := none, defaults := [] }
def lamB (e : Expr) : Expr := match e with
  | .Lambda _ b _ _ => b
  | _ => .Constant .none 0 ⟨0, 0, 0, 0⟩
def lamSc (e : Expr) : Scope := match e with
  | .Lambda _ _ s _ => s
  | _ => { kind := .function, names := [], isGenerator := false, isCoroutine := false }
def lam0 : Expr := match defBody s_law_refused with
  | .Assign _ (.List (e :: _) _) _ :: _ => e
  | _ => .Constant .none 0 ⟨0, 0, 0, 0⟩
def lam1 : Expr := match defBody s_law_refused with
  | _ :: .Expr (.Call _ (e :: _) _ _) _ :: _ => e
  | _ => .Constant .none 0 ⟨0, 0, 0, 0⟩
theorem lamS0 : LamX.LamS (defScope s_law_refused) (lamSc lam0) := LamX.lamS_by (by decide +kernel)
theorem lamS1 : LamX.LamS (defScope s_law_refused) (lamSc lam1) := LamX.lamS_by (by decide +kernel)
abbrev clR (L a c : Addr) (e : Expr) : List (Str × Addr) := cloFrom (PyProof.Rows.envOfC "_law_refused" (defScope s_law_refused) L a (.ref c)).cells (lamSc e).names []
section
variable {P : Program} {w : World} {K : PySem.W.Frag} {mg : Str → Option Value} {base : Heap}
theorem okC {x qual : Str} {st : Stmt} {f : Addr} {fd : FuncData} {N ps : List Str} {k : Nat} {sp : Sp} {c : Addr} (F : Fun K x qual st f fd) (hc : fd.code = .ref c) (S : FnScope N ps (defScope st)) (len : ∀ vs H Q E, sp vs H Q E → vs.length = ps.length)
    (hbody : ∀ (A : Around) (outer : List Env) (s : Shared) (H : Hp) (vs : List V) (Q : VK) (E : XK), Room k (A.deeper (PyProof.Rows.envOfC qual (defScope st) s.heap.objs.size f (.ref c))) → sp vs H Q E →
      ∃ t, PSs (cxOf CX0 P w K mg base N qual (defScope st) f (.ref c) A outer s H E).nox (defBody st) t ∧ t { nx := fun _ H' => Q .non H', rt := Q } (L2.start N vs) H) : FnOk P w K mg base CX0 (k + 1) f fd ps sp := by
  obtain ⟨oc, od, kV, doc, pm, an, cdv, ct, osl, rfl, lk, hcd⟩ := F.ex
  have e : cdv = .ref c := hc
  subst e
  refine fn_of lk hcd S len fun A outer s H vs Q E hr hsp => ?_
  obtain ⟨t, h, q⟩ := hbody A outer s H vs Q E hr hsp
  exact ⟨t, h.nox, q⟩
/-- all but the tables of code objects stays, and what was new was new -/
structure Ext (Pt : Addr) (H H' : Hp) : Prop where
  keep : LamX.ExtN H H'
  tabs : LamX.Tabs (tabsR Pt) H'
def sp_refused0 (Pt : Addr) : Sp := fun vs H Q _ => ∃ f n d, vs = [.int 0, .int f, .int n, .int d] ∧ IsF f ∧ n.natAbs < BB ∧ d.natAbs < BB ∧ isZ f d = true ∧ LamX.Tabs (tabsR Pt) H ∧ ∀ H', Ext Pt H H' → Q (.bl true) H'
theorem ok_refused0 (T : Txt K mg) {c Pt : Addr} (hc : T.law_refused.fd.code = .ref c) (TB : LamX.TabB base mg c Pt) : FnOk P w K mg base CX0 7 T.law_refused.f T.law_refused.fd P_law_refused (sp_refused0 Pt) := by
  refine okC T.law_refused.F hc sc_law_refused (fun vs H Q E h => ?_) (fun A outer s H vs Q E hr h => ?_)
  · obtain ⟨f, n, d, rfl, _⟩ := h; rfl
  · obtain ⟨f, n, d, rfl, hF, hn, hd, hz, hT, k⟩ := h
    refine ⟨_, (pss_cons (ps_set (i := 4) sc_law_refused.nd rfl (Or.inl rfl) (pe_lst (pa_cons (pe_lam (T := tabsR Pt) (params := lamA lam0) (body := lamB lam0) (scope := lamSc lam0) TB rfl (List.mem_cons_self) (fun p hp _ => by rw [List.mem_singleton] at hp; subst hp; rfl) lamS0) pa_nil)))
  (pss_cons (ps_expr (pe_bm PySem.F.plainAttrs_list PySem.F.slot_list_append PySem.F.type_list_append mt_append (pv 4) (pa_cons (pe_lam (T := tabsR Pt) (params := lamA lam1) (body := lamB lam1) (scope := lamSc lam1) TB rfl (List.mem_cons_self) (fun p hp _ => by rw [List.mem_singleton] at hp; subst hp; rfl) lamS1) pa_nil)))
  (pss_cons (ps_set (i := 5) sc_law_refused.nd rfl (Or.inl rfl) pe_bl)
  (pss_cons (ps_try_only (c := .ref T.ZeroDivisor.C) (Wout := fun _ _ _ _ => False)
      (tb := fun W => tDrop (fun σ H Q => tOp (rIxL K) (tVar 4) (tVar 0) σ H fun x H1 => ∃ f c', x = .ref f ∧ H1 f = some (LamO f qR (lamA lam0) (lamB lam0) (lamSc lam0) (clR s.heap.objs.size T.law_refused.f c lam0) c') ∧ H1 c' = some (LamX.CodeO c' qR) ∧ (fun E0 => tCall (sp_number T.ZeroDivisor.C) [] E0 (tCons (tVar 1) (tCons (tVar 2) (tCons (tVar 3) tNil)))) (WE W σ) σ H1 Q))
      (ts := fun _ _ _ => tAsg (tC (.bl true)) (gName 5))
      rfl rfl ⟨rfl, by decide, Or.inl T.ZeroDivisor.g⟩ takes0
      (fun W pn xe tk _ => pss_one (ps_expr (pe_callLam (params := lamA lam0) (body := lamB lam0) (scope := lamSc lam0) (E := WE W) (tb := fun E0 => tCall (sp_number T.ZeroDivisor.C) [] E0 (tCons (tVar 1) (tCons (tVar 2) (tCons (tVar 3) tNil)))) lamS0
        (pe_ix (r := rIxL K) ix_list (pv 4) (pv 0) (fun _ _ => rfl)) (fun _ _ _ => rfl) (fun σ => passAt tk σ) hr
        (fun E0 A outer s H f c' hr' => pe_call (ok_number T) (hr'.mono (by decide)) rfl T.number.g T.number.F.kp (b_number T) .nil (passes_call (takes_of rfl rfl rfl rfl) (fun _ _ _ _ h => h)) (pa_cons (pv 1) (pa_cons (pv 2) (pa_cons (pv 3) pa_nil)))))))
      (fun a oe cls d pn hz hf => pss_one (ps_set (i := 5) sc_law_refused.nd rfl (Or.inl rfl) pe_bl)))
  (pss_one (ps_ret (pv 5))))))), ?_⟩
    refine ⟨hT, fun f0 c0 H1 e1 nn1 t1 n0 l0 cc0 => ?_⟩
    walk_at "rd"
    refine ⟨(show 1 ≤ sizeLine by decide), fun l hl => ?_⟩
    have s1 := same_upd (o := .lst [.ref f0]) hl
    walk_at "rd"
    refine ⟨.inl ⟨rfl, _, .inl (.inl upd_same)⟩, t1.ext s1, fun f1 c1 H2 e2 nn2 t2 n1 l1 cc1 => ?_⟩
    have hlH : H l = Option.none := nn1 _ hl
    have hl2 : H2 l = some (.lst [.ref f0]) := e2 _ _ upd_same (fun ps z => by cases z)
    have hf0 : H2 f0 = some _ := e2 _ _ (s1 _ _ l0) (fun ps z => by cases z)
    have hc0 : H2 c0 = some _ := e2 _ _ (s1 _ _ cc0) (fun ps z => by cases z)
    have nf : f0 ≠ l := ne_of_none l0 hl
    have nc : c0 ≠ l := ne_of_none cc0 hl
    refine ⟨_, _, _, rfl, rfl, hl2, (show 1 < sizeLine by decide), ?_⟩
    have hX : Ext Pt H (upd H2 l (.lst ([.ref f0] ++ [.ref f1]))) := by
      refine ⟨fun b o e n => ?_, fun p hp => ?_⟩
      · rw [upd_ne (ne_of_none e hlH)]
        exact e2 _ _ (s1 _ _ (e1 _ _ e n)) n
      · obtain ⟨ps, a1, a2, a3⟩ := t2 p hp
        have np : p.1 ≠ l := fun z => by rw [z, hl2] at a1; cases a1
        refine ⟨ps, (upd_ne np).trans a1, a2, fun pos cv hcv => ?_⟩
        obtain ⟨cz, q1, q2⟩ := a3 pos cv hcv
        refine ⟨cz, q1, (upd_ne fun z => ?_).trans q2⟩
        rw [z, hl2] at q2
        unfold LamX.CodeO at q2
        cases q2
    walk_at "rd"
    refine ⟨f0, c0, rfl, (upd_ne nf).trans hf0, (upd_ne nc).trans hc0, ?_⟩
    walk_at "rd"
    refine ⟨_, _, _, rfl, hF, hn, hd, fun _ => ?_, fun z => by rw [hz] at z; cases z⟩
    refine ⟨true, T.ZeroDivisor.self, fun _ a _ => ?_, fun q => Bool.noConfusion q⟩
    walk_at "rd"
    exact k _ hX
def sp_refused1 (Pt : Addr) : Sp := fun vs H Q _ => ∃ f n d, vs = [.int 1, .int f, .int n, .int d] ∧ IsF f ∧ LamX.Tabs (tabsR Pt) H ∧ ∀ H', Ext Pt H H' → Q (.bl true) H'
theorem ok_refused1 (T : Txt K mg) {c Pt : Addr} (hc : T.law_refused.fd.code = .ref c) (TB : LamX.TabB base mg c Pt) : FnOk P w K mg base CX0 7 T.law_refused.f T.law_refused.fd P_law_refused (sp_refused1 Pt) := by
  refine okC T.law_refused.F hc sc_law_refused (fun vs H Q E h => ?_) (fun A outer s H vs Q E hr h => ?_)
  · obtain ⟨f, n, d, rfl, _⟩ := h; rfl
  · obtain ⟨f, n, d, rfl, hF, hT, k⟩ := h
    refine ⟨_, (pss_cons (ps_set (i := 4) sc_law_refused.nd rfl (Or.inl rfl) (pe_lst (pa_cons (pe_lam (T := tabsR Pt) (params := lamA lam0) (body := lamB lam0) (scope := lamSc lam0) TB rfl (List.mem_cons_self) (fun p hp _ => by rw [List.mem_singleton] at hp; subst hp; rfl) lamS0) pa_nil)))
  (pss_cons (ps_expr (pe_bm PySem.F.plainAttrs_list PySem.F.slot_list_append PySem.F.type_list_append mt_append (pv 4) (pa_cons (pe_lam (T := tabsR Pt) (params := lamA lam1) (body := lamB lam1) (scope := lamSc lam1) TB rfl (List.mem_cons_self) (fun p hp _ => by rw [List.mem_singleton] at hp; subst hp; rfl) lamS1) pa_nil)))
  (pss_cons (ps_set (i := 5) sc_law_refused.nd rfl (Or.inl rfl) pe_bl)
  (pss_cons (ps_try_only (c := .ref T.ZeroDivisor.C) (Wout := fun _ _ _ _ => False)
      (tb := fun W => tDrop (fun σ H Q => tOp (rIxL K) (tVar 4) (tVar 0) σ H fun x H1 => ∃ f c', x = .ref f ∧ H1 f = some (LamO f qR (lamA lam1) (lamB lam1) (lamSc lam1) (clR s.heap.objs.size T.law_refused.f c lam1) c') ∧ H1 c' = some (LamX.CodeO c' qR) ∧ (fun E0 => tCall (sp_number_inverse T.ZeroDivisor.C) [] E0 (tCons (tVar 1) (tCons (tCall sp_law_zero [] L2.E0 (tCons (tVar 1) tNil)) tNil))) (WE W σ) σ H1 Q))
      (ts := fun _ _ _ => tAsg (tC (.bl true)) (gName 5))
      rfl rfl ⟨rfl, by decide, Or.inl T.ZeroDivisor.g⟩ takes0
      (fun W pn xe tk _ => pss_one (ps_expr (pe_callLam (params := lamA lam1) (body := lamB lam1) (scope := lamSc lam1) (E := WE W) (tb := fun E0 => tCall (sp_number_inverse T.ZeroDivisor.C) [] E0 (tCons (tVar 1) (tCons (tCall sp_law_zero [] L2.E0 (tCons (tVar 1) tNil)) tNil))) lamS1
        (pe_ix (r := rIxL K) ix_list (pv 4) (pv 0) (fun _ _ => rfl)) (fun _ _ _ => rfl) (fun σ => passAt tk σ) hr
        (fun E0 A outer s H f c' hr' => pe_call (ok_number_inverse T) (hr'.mono (by decide)) rfl T.number_inverse.g T.number_inverse.F.kp (b_number_inverse T) .nil (passes_call (takes_of rfl rfl rfl rfl) (fun _ _ _ _ h => h)) (pa_cons (pv 1) (pa_cons (pe_call (ok_law_zero T) (hr'.mono (by decide)) rfl T.law_zero.g T.law_zero.F.kp (b_law_zero T) .nil pass0 (pa_cons (pv 1) pa_nil)) pa_nil))))))
      (fun a oe cls d pn hz hf => pss_one (ps_set (i := 5) sc_law_refused.nd rfl (Or.inl rfl) pe_bl)))
  (pss_one (ps_ret (pv 5))))))), ?_⟩
    refine ⟨hT, fun f0 c0 H1 e1 nn1 t1 n0 l0 cc0 => ?_⟩
    walk_at "rd"
    refine ⟨(show 1 ≤ sizeLine by decide), fun l hl => ?_⟩
    have s1 := same_upd (o := .lst [.ref f0]) hl
    walk_at "rd"
    refine ⟨.inl ⟨rfl, _, .inl (.inl upd_same)⟩, t1.ext s1, fun f1 c1 H2 e2 nn2 t2 n1 l1 cc1 => ?_⟩
    have hlH : H l = Option.none := nn1 _ hl
    have hl2 : H2 l = some (.lst [.ref f0]) := e2 _ _ upd_same (fun ps z => by cases z)
    have nf : f1 ≠ l := fun z => by rw [z, hl2] at l1; cases l1
    have nc : c1 ≠ l := fun z => by
      rw [z, hl2] at cc1
      unfold LamX.CodeO at cc1
      cases cc1
    refine ⟨_, _, _, rfl, rfl, hl2, (show 1 < sizeLine by decide), ?_⟩
    have hX : Ext Pt H (upd H2 l (.lst ([.ref f0] ++ [.ref f1]))) := by
      refine ⟨fun b o e n => ?_, fun p hp => ?_⟩
      · rw [upd_ne (ne_of_none e hlH)]
        exact e2 _ _ (s1 _ _ (e1 _ _ e n)) n
      · obtain ⟨ps, a1, a2, a3⟩ := t2 p hp
        have np : p.1 ≠ l := fun z => by rw [z, hl2] at a1; cases a1
        refine ⟨ps, (upd_ne np).trans a1, a2, fun pos cv hcv => ?_⟩
        obtain ⟨cz, q1, q2⟩ := a3 pos cv hcv
        refine ⟨cz, q1, (upd_ne fun z => ?_).trans q2⟩
        rw [z, hl2] at q2
        unfold LamX.CodeO at q2
        cases q2
    walk_at "rd"
    refine ⟨f1, c1, rfl, (upd_ne nf).trans l1, (upd_ne nc).trans cc1, ?_⟩
    walk_at "rd"
    have hok : NumOk f (0, 1) := by
      unfold NumOk
      have := nb_eq
      have h1 : (1 : Nat) < NBn := by decide +kernel
      split
      · exact ⟨by show 0 < NBn; omega, by decide, by show 1 < NBn; omega, rfl⟩
      · rename_i hf
        have := hF.pos hf
        exact ⟨by show (0 : Int) ≤ 0; decide, by show 0 < f; omega, rfl⟩
    refine ⟨hF.lt.1, fun v H5 nv s5 => ?_⟩
    refine ⟨f, v, (0, 1), rfl, hF, nv, hok, fun _ H6 s6 => ?_, fun z => absurd rfl z⟩
    refine ⟨true, T.ZeroDivisor.self, fun _ a _ => ?_, fun q => Bool.noConfusion q⟩
    walk_at "rd"
    have s56 := Same.trans s5 s6
    exact k _ ⟨fun b o e n => s56 _ _ (hX.keep b o e n), hX.tabs.ext s56⟩
end

/-! ### that the program's numbers are the law's -/
theorem low_spec (n : Int) {d : Int} (hd : d ≠ 0) : 0 < (lowQ n d).2 ∧ Nat.gcd (lowQ n d).1.natAbs (lowQ n d).2.natAbs = 1 ∧ (lowQ n d).1 * d = n * (lowQ n d).2 ∧ (lowQ n d).1.natAbs ≤ n.natAbs ∧ (lowQ n d).2.natAbs ≤ d.natAbs := by
  have hg := sgnG_ne (n := n) hd
  have ha := sgnG_abs n d
  have h1 : sgnG n d ∣ n := Int.natAbs_dvd_natAbs.mp (by rw [ha]; exact Nat.gcd_dvd_left _ _)
  have h2 : sgnG n d ∣ d := Int.natAbs_dvd_natAbs.mp (by rw [ha]; exact Nat.gcd_dvd_right _ _)
  have hs : (d < 0 → sgnG n d < 0) ∧ (0 < d → 0 < sgnG n d) := by
    have hp : 0 < Nat.gcd n.natAbs d.natAbs := Nat.gcd_pos_of_pos_right _ (by omega)
    unfold sgnG
    constructor
    · intro h; rw [if_pos h]; omega
    · intro h; rw [if_neg (by omega)]; omega
  unfold lowQ
  generalize sgnG n d = g at *
  obtain ⟨u, rfl⟩ := h1
  obtain ⟨v, rfl⟩ := h2
  have e1 : (g * u).fdiv g = u := by rw [Int.fdiv_eq_ediv_of_dvd (Int.dvd_mul_right _ _), Int.mul_ediv_cancel_left _ hg]
  have e2 : (g * v).fdiv g = v := by rw [Int.fdiv_eq_ediv_of_dvd (Int.dvd_mul_right _ _), Int.mul_ediv_cancel_left _ hg]
  simp only [e1, e2]
  have hgp : 0 < g.natAbs := by omega
  refine ⟨?_, ?_, by grind, ?_, ?_⟩
  · rcases Int.lt_trichotomy g 0 with h | h | h
    · by_cases hv : 0 < v
      · exact hv
      · exfalso
        by_cases hv0 : v = 0
        · subst hv0; simp at hd
        · have : 0 < g * v := Int.mul_pos_of_neg_of_neg h (by omega)
          have := hs.2 this; omega
    · exact absurd h hg
    · by_cases hv : 0 < v
      · exact hv
      · exfalso
        by_cases hv0 : v = 0
        · subst hv0; simp at hd
        · have : g * v < 0 := Int.mul_neg_of_pos_of_neg h (by omega)
          have := hs.1 this; omega
  · rw [Int.natAbs_mul, Int.natAbs_mul, Nat.gcd_mul_left] at ha
    have : g.natAbs * Nat.gcd u.natAbs v.natAbs = g.natAbs * 1 := by omega
    exact Nat.eq_of_mul_eq_mul_left hgp this
  · rw [Int.natAbs_mul]
    exact Nat.le_mul_of_pos_left _ hgp
  · rw [Int.natAbs_mul]
    exact Nat.le_mul_of_pos_left _ hgp
theorem low_uniq {u v u' v' : Int} (hv : 0 < v) (hv' : 0 < v') (g : Nat.gcd u.natAbs v.natAbs = 1) (g' : Nat.gcd u'.natAbs v'.natAbs = 1) (h : u * v' = u' * v) : (u, v) = (u', v') := by
  have ha : u.natAbs * v'.natAbs = u'.natAbs * v.natAbs := by rw [← Int.natAbs_mul, h, Int.natAbs_mul]
  have d1 : v.natAbs ∣ v'.natAbs := by
    have : v.natAbs ∣ u.natAbs * v'.natAbs := by rw [ha]; exact Nat.dvd_mul_left _ _
    exact (Nat.Coprime.symm g).dvd_of_dvd_mul_left this
  have d2 : v'.natAbs ∣ v.natAbs := by
    have : v'.natAbs ∣ u'.natAbs * v.natAbs := by rw [← ha]; exact Nat.dvd_mul_left _ _
    exact (Nat.Coprime.symm g').dvd_of_dvd_mul_left this
  have e : v = v' := by
    have := Nat.dvd_antisymm d1 d2
    omega
  subst e
  have e2 : u = u' := Int.eq_of_mul_eq_mul_right (by omega) h
  rw [e2]
/-- one number for one quotient -/
theorem low_eq {n d m l : Int} (hd : d ≠ 0) (hl : l ≠ 0) (h : n * l = m * d) : lowQ n d = lowQ m l := by
  obtain ⟨a1, a2, a3, _⟩ := low_spec n hd
  obtain ⟨b1, b2, b3, _⟩ := low_spec m hl
  generalize lowQ n d = p at *
  generalize lowQ m l = q at *
  obtain ⟨u, v⟩ := p
  obtain ⟨u', v'⟩ := q
  refine low_uniq a1 b1 a2 b2 ?_
  have hdl : d * l ≠ 0 := Int.mul_ne_zero hd hl
  refine Int.eq_of_mul_eq_mul_right hdl ?_
  simp only at a3 b3
  grind
theorem isZ_false {f d : Int} (hF : IsF f) (h : isZ f d = false) : (f = 0 → d ≠ 0) ∧ (f ≠ 0 → f ∈ FieldsP ∧ d % f ≠ 0) := by
  unfold isZ at h
  constructor
  · intro e; rw [if_pos e] at h; exact of_decide_eq_false h
  · intro e; rw [if_neg e] at h; exact ⟨hF.resolve_left e, of_decide_eq_false h⟩
theorem mkN_m {f n d : Int} (hf : f ≠ 0) : mkN f n d = (n * invP (d % f) f % f, 1) := if_neg hf
theorem mkN_q (n d : Int) : mkN 0 n d = lowQ n d := if_pos rfl
/-- modulo a prime: the number times d is n -/
theorem mkN_dvd {f n d : Int} (hf : f ∈ FieldsP) (hd : d % f ≠ 0) : 0 ≤ (mkN f n d).1 ∧ (mkN f n d).1 < f ∧ f ∣ (mkN f n d).1 * d - n := by
  have h2 := IsF.pos (.inr hf) (by intro z; subst z; revert hf; decide)
  rw [mkN_m (by omega)]
  have e1 := Int.emod_nonneg (n * invP (d % f) f) (show f ≠ 0 by omega)
  have e2 := Int.emod_lt_of_pos (n * invP (d % f) f) (show 0 < f by omega)
  exact ⟨e1, e2, Int.dvd_of_emod_eq_zero ((num_one hf hd e1 e2).mpr rfl)⟩
theorem mkN_uniq {f n d k : Int} (hf : f ∈ FieldsP) (hd : d % f ≠ 0) (k0 : 0 ≤ k) (k1 : k < f) (h : f ∣ k * d - n) : (k, 1) = mkN f n d := by
  have h2 := IsF.pos (.inr hf) (by intro z; subst z; revert hf; decide)
  rw [mkN_m (by omega), ← (num_one hf hd k0 k1).mp (Int.emod_eq_zero_of_dvd h)]
/-- the fields are fields -/
theorem mul_unit {f d l : Int} (hf : f ∈ FieldsP) (hd : d % f ≠ 0) (hl : l % f ≠ 0) : (d * l) % f ≠ 0 := by
  intro z
  have h1 := inv_dvd hf hl
  generalize invP (l % f) f = e at h1
  have h2 : f ∣ d * l := Int.dvd_of_emod_eq_zero z
  refine hd (Int.emod_eq_zero_of_dvd ?_)
  have : d = d * l * e - d * (l * e - 1) := by grind
  rw [this]
  exact Int.dvd_sub (Int.dvd_trans h2 (Int.dvd_mul_right _ _)) (Int.dvd_trans h1 (Int.dvd_mul_left _ _))
theorem isZ_mul {f d l : Int} (hF : IsF f) (hd : isZ f d = false) (hl : isZ f l = false) : isZ f (d * l) = false := by
  obtain ⟨a1, a2⟩ := isZ_false hF hd
  obtain ⟨b1, b2⟩ := isZ_false hF hl
  unfold isZ
  split
  · rename_i h
    exact decide_eq_false (Int.mul_ne_zero (a1 h) (b1 h))
  · rename_i h
    exact decide_eq_false (mul_unit (a2 h).1 (a2 h).2 (b2 h).2)
theorem mkN_sum {f n d m l : Int} (hF : IsF f) (hd : isZ f d = false) (hl : isZ f l = false) : addN f (mkN f n d) (mkN f m l) = mkN f (n * l + m * d) (d * l) := by
  obtain ⟨a1, a2⟩ := isZ_false hF hd
  obtain ⟨b1, b2⟩ := isZ_false hF hl
  unfold addN
  by_cases hf : f = 0
  · subst hf
    rw [if_pos rfl, mkN_q, mkN_q, mkN_q]
    obtain ⟨p1, p2, p3, _⟩ := low_spec n (a1 rfl)
    obtain ⟨q1, q2, q3, _⟩ := low_spec m (b1 rfl)
    generalize lowQ n d = p at *
    generalize lowQ m l = q at *
    refine low_eq (Int.mul_ne_zero (by omega) (by omega)) (Int.mul_ne_zero (a1 rfl) (b1 rfl)) ?_
    grind
  · rw [if_neg hf]
    obtain ⟨hm, hdf⟩ := a2 hf
    obtain ⟨_, hlf⟩ := b2 hf
    obtain ⟨p1, p2, p3⟩ := mkN_dvd (n := n) hm hdf
    obtain ⟨q1, q2, q3⟩ := mkN_dvd (n := m) hm hlf
    have h2 := hF.pos hf
    refine mkN_uniq hm (mul_unit hm hdf hlf) (Int.emod_nonneg _ hf) (Int.emod_lt_of_pos _ (by omega)) ?_
    have hk : f ∣ (mkN f n d).1 + (mkN f m l).1 - ((mkN f n d).1 + (mkN f m l).1) % f := Int.dvd_self_sub_emod
    generalize (mkN f n d).1 = x at *
    generalize (mkN f m l).1 = y at *
    generalize (x + y) % f = k at *
    have : k * (d * l) - (n * l + m * d) = (x * d - n) * l + (y * l - m) * d - (x + y - k) * (d * l) := by grind
    rw [this]
    exact Int.dvd_sub (Int.dvd_add (Int.dvd_trans p3 (Int.dvd_mul_right _ _)) (Int.dvd_trans q3 (Int.dvd_mul_right _ _))) (Int.dvd_trans hk (Int.dvd_mul_right _ _))
theorem mkN_prod {f n d m l : Int} (hF : IsF f) (hd : isZ f d = false) (hl : isZ f l = false) : mulN f (mkN f n d) (mkN f m l) = mkN f (n * m) (d * l) := by
  obtain ⟨a1, a2⟩ := isZ_false hF hd
  obtain ⟨b1, b2⟩ := isZ_false hF hl
  unfold mulN
  by_cases hf : f = 0
  · subst hf
    rw [if_pos rfl, mkN_q, mkN_q, mkN_q]
    obtain ⟨p1, p2, p3, _⟩ := low_spec n (a1 rfl)
    obtain ⟨q1, q2, q3, _⟩ := low_spec m (b1 rfl)
    generalize lowQ n d = p at *
    generalize lowQ m l = q at *
    refine low_eq (Int.mul_ne_zero (by omega) (by omega)) (Int.mul_ne_zero (a1 rfl) (b1 rfl)) ?_
    grind
  · rw [if_neg hf]
    obtain ⟨hm, hdf⟩ := a2 hf
    obtain ⟨_, hlf⟩ := b2 hf
    obtain ⟨p1, p2, p3⟩ := mkN_dvd (n := n) hm hdf
    obtain ⟨q1, q2, q3⟩ := mkN_dvd (n := m) hm hlf
    have h2 := hF.pos hf
    refine mkN_uniq hm (mul_unit hm hdf hlf) (Int.emod_nonneg _ hf) (Int.emod_lt_of_pos _ (by omega)) ?_
    have hk : f ∣ (mkN f n d).1 * (mkN f m l).1 - ((mkN f n d).1 * (mkN f m l).1) % f := Int.dvd_self_sub_emod
    generalize (mkN f n d).1 = x at *
    generalize (mkN f m l).1 = y at *
    generalize (x * y) % f = k at *
    have : k * (d * l) - n * m = (x * d - n) * (y * l) + n * (y * l - m) - (x * y - k) * (d * l) := by grind
    rw [this]
    exact Int.dvd_sub (Int.dvd_add (Int.dvd_trans p3 (Int.dvd_mul_right _ _)) (Int.dvd_trans q3 (Int.dvd_mul_left _ _))) (Int.dvd_trans hk (Int.dvd_mul_right _ _))
/-- a number other than zero has an upper part other than zero -/
theorem mkN_unit {f n d : Int} (hF : IsF f) (hd : isZ f d = false) (h : (mkN f n d).1 ≠ 0) : isZ f n = false := by
  obtain ⟨a1, a2⟩ := isZ_false hF hd
  unfold isZ
  split
  · rename_i hf
    subst hf
    rw [mkN_q] at h
    obtain ⟨p1, p2, p3, _⟩ := low_spec n (a1 rfl)
    refine decide_eq_false fun z => ?_
    subst z
    rw [Int.zero_mul] at p3
    rcases Int.mul_eq_zero.mp p3 with z | z
    · exact h z
    · exact a1 rfl z
  · rename_i hf
    obtain ⟨hm, hdf⟩ := a2 hf
    refine decide_eq_false fun z => h ?_
    have h2 := hF.pos hf
    have e := mkN_uniq (k := 0) hm hdf (by omega) (by omega) (by
      rw [Int.zero_mul, Int.zero_sub]
      exact Int.dvd_neg.mpr (Int.dvd_of_emod_eq_zero z) : f ∣ 0 * d - n)
    rw [← e]
theorem mkN_inv {f n d : Int} (hF : IsF f) (hd : isZ f d = false) (h : (mkN f n d).1 ≠ 0) : invN f (mkN f n d) = mkN f d n := by
  obtain ⟨a1, a2⟩ := isZ_false hF hd
  obtain ⟨c1, c2⟩ := isZ_false hF (mkN_unit hF hd h)
  unfold invN
  by_cases hf : f = 0
  · subst hf
    rw [mkN_q] at h
    rw [if_pos rfl, mkN_q, mkN_q]
    obtain ⟨p1, p2, p3, _⟩ := low_spec n (a1 rfl)
    generalize lowQ n d = p at *
    refine low_eq h (c1 rfl) ?_
    grind
  · rw [if_neg hf]
    obtain ⟨hm, hdf⟩ := a2 hf
    obtain ⟨_, hnf⟩ := c2 hf
    obtain ⟨p1, p2, p3⟩ := mkN_dvd (n := n) hm hdf
    have h2 := hF.pos hf
    have hb := powM_lt (n := (mkN f n d).1) h2 (f - 2).toNat
    have hi : invP (mkN f n d).1 f = powM (mkN f n d).1 f (f - 2).toNat := rfl
    have ho := inv_ok hm (show 0 < (mkN f n d).1 by omega) p2
    refine mkN_uniq hm hnf (by omega) (by omega) ?_
    generalize invP (mkN f n d).1 f = k at *
    generalize (mkN f n d).1 = x at *
    have h3 : f ∣ x * k - 1 := Int.dvd_of_emod_eq_zero (by rw [Int.sub_emod, ho]; have : (1 : Int) % f = 1 := Int.emod_eq_of_lt (by omega) (by omega); rw [this]; rfl)
    have : k * n - d = (x * k - 1) * d - k * (x * d - n) := by grind
    rw [this]
    exact Int.dvd_sub (Int.dvd_trans h3 (Int.dvd_mul_right _ _)) (Int.dvd_trans p3 (Int.dvd_mul_left _ _))
theorem bi_nb : BI < NBn := by decide +kernel
theorem mkN_ok {f n d : Int} (hF : IsF f) (hd : isZ f d = false) (hn : n.natAbs ≤ BI) (hdb : d.natAbs ≤ BI) : NumOk f (mkN f n d) := by
  obtain ⟨a1, a2⟩ := isZ_false hF hd
  have hb := bi_nb
  unfold NumOk
  split
  · rename_i hf
    subst hf
    rw [mkN_q]
    obtain ⟨p1, p2, p3, p4, p5⟩ := low_spec n (a1 rfl)
    exact ⟨by omega, p1, by omega, p2⟩
  · rename_i hf
    obtain ⟨hm, hdf⟩ := a2 hf
    obtain ⟨p1, p2, p3⟩ := mkN_dvd (n := n) hm hdf
    exact ⟨p1, p2, by rw [mkN_m hf]⟩
theorem inv_far {x : Int} : invN 0 (1, x) = (x, 1) := by
  unfold invN
  rw [if_pos rfl]
  show lowQ x 1 = (x, 1)
  have e : sgnG x 1 = 1 := by unfold sgnG; rw [if_neg (by decide)]; simp
  unfold lowQ
  rw [e]
  simp

/-! ### the law -/
theorem rd_ext {H H' : Hp} {a : Addr} {xs : List V} (h : Rd H a (.lst xs)) (s : LamX.ExtN H H') : Rd H' a (.lst xs) := by
  rcases h with h | ⟨u, h⟩
  · exact .inl (s _ _ h (fun ps z => by cases z))
  · exact .inr ⟨u, s _ _ h (fun ps z => by cases z)⟩
theorem RowAt.ext {K : PySem.W.Frag} {H H' : Hp} {r : Addr} (h : RowAt K H r) (s : LamX.ExtN H H') : RowAt K H' r := by
  obtain ⟨sa, ns, p, sd, e, hrow, hS, hb⟩ := h
  refine ⟨sa, ns, p, sd, e, s _ _ hrow (fun ps z => by cases z), ?_, hb⟩
  rcases hS with ⟨q, n⟩ | q
  · exact .inl ⟨rd_ext q s, n⟩
  · exact .inr q
theorem RowAt.same {K : PySem.W.Frag} {H H' : Hp} {r : Addr} (h : RowAt K H r) (s : Same H H') : RowAt K H' r := h.ext (LamX.ExtN.of s)
theorem tabs_but {K : PySem.W.Frag} {Pt r : Addr} {H H' : Hp} (t : LamX.Tabs (tabsR Pt) H) (h : RowAt K H r) (b : ButRow r H H') : LamX.Tabs (tabsR Pt) H' := fun p hp => by
  obtain ⟨sa, ns, q, sd, e, hrow, _⟩ := h
  obtain ⟨ps, a1, a2, a3⟩ := t p hp
  refine ⟨ps, (b _ fun z => by rw [z, hrow] at a1; cases a1).trans a1, a2, fun pos cv hcv => ?_⟩
  obtain ⟨cz, q1, q2⟩ := a3 pos cv hcv
  refine ⟨cz, q1, (b _ fun z => ?_).trans q2⟩
  rw [z, hrow] at q2
  unfold LamX.CodeO at q2
  cases q2
def FList : List V := [0, 0, 2, 3, 5, 7, 11, 13, 17, 19, 23, 29, 31].map V.int
theorem flist {v : V} (h : v ∈ FList) : ∃ f, v = .int f ∧ IsF f := by
  obtain ⟨f, hf, rfl⟩ := List.mem_map.mp h
  refine ⟨f, rfl, ?_⟩
  simp only [List.mem_cons, List.not_mem_nil, or_false] at hf
  unfold IsF FieldsP
  rcases hf with h | h | h | h | h | h | h | h | h | h | h | h | h <;> subst h <;> decide
abbrev tZ (i : Nat) : TT := tOr (tTest (tOp rEq (tVar i) (tC (V.int 0))))
  (tAnd (tTest (tOp (rI0 fun i j => V.bl (decide (j < i))) (tVar 2) (tC (V.int 0))))
    (tTest (tOp rEq (tOp (rI (fun _ j => 0 < j) fun i j => V.int (i % j))
      (tCB (fun xs H Q => (∃ i, xs = [V.int i] ∧ Q (V.int i) H) ∨ ∃ k, xs = [V.bl k] ∧ Q (V.int (if k = true then 1 else 0)) H) (tCons (tVar i) tNil)) (tVar 2)) (tC (V.int 0)))))
theorem test_z {i : Nat} {σ : St} {H : Hp} {Q : Bool → Hp → Prop} {f d : Int} (hd : σ[i]? = some (some (.int d))) (hf : σ[2]? = some (some (.int f))) (hF : IsF f) (h : Q (isZ f d) H) : tZ i σ H Q := by
  have hl := hF.lt
  unfold isZ at h
  refine ⟨_, hd, rfl, _, rfl, ?_⟩
  refine iteV (fun h0 => ?_) (fun h0 => ?_)
  · subst h0
    have e : (if f = 0 then decide ((0 : Int) = 0) else decide ((0 : Int) % f = 0)) = true := by split <;> simp
    rw [e] at h
    exact h
  · refine ⟨_, hf, _, _, rfl, rfl, _, rfl, ?_⟩
    refine iteD (fun h1 => ?_) (fun h1 => ?_)
    · rw [if_neg (show f ≠ 0 by omega)] at h
      refine ⟨_, hd, .inl ⟨_, rfl, _, hf, _, _, rfl, rfl, h1, rfl, _, rfl, ?_⟩⟩
      rw [vdec]
      exact h
    · rw [if_pos (show f = 0 by omega), decide_eq_false h0] at h
      exact h
section
variable {P : Program} {w : World} {K : PySem.W.Frag} {mg : Str → Option Value} {base : Heap}
theorem bi_mul {i j : Int} (hi : i.natAbs ≤ BI) (hj : j.natAbs ≤ BI) : CMulW i j := by
  have h : BI < SS := by decide +kernel
  exact ss_mul (by omega) (by omega)
theorem bi_lt {i j : Int} (hi : i.natAbs ≤ BI) (hj : j.natAbs ≤ BI) : (i * j).natAbs < S3 := by
  have h : BI < SS := by decide +kernel
  exact ss_lt (by omega) (by omega)
/-- what a turn does behind its draws -/
def t_rest (K : PySem.W.Frag) (C : Addr) : TS :=
  tSeq (tPar 8 9 (tCons (tCall (sp_number C) [] E0 (tCons (tVar 2) (tCons (tVar 4) (tCons (tVar 5) tNil)))) (tCons (tCall (sp_number C) [] E0 (tCons (tVar 2) (tCons (tVar 6) (tCons (tVar 7) tNil)))) tNil)))
  (tSeq (tIfS (tOr (tNot (tB (tCall sp_alike [] E0 (tCons (tVar 8) (tCons (tCall sp_law_num [] E0 (tCons (tVar 2) (tCons (tVar 4) (tCons (tVar 5) tNil)))) tNil)))))
      (tNot (tB (tCall sp_alike [] E0 (tCons (tVar 9) (tCons (tCall sp_law_num [] E0 (tCons (tVar 2) (tCons (tVar 6) (tCons (tVar 7) tNil)))) tNil)))))) (tRet (tC (V.bl false))) tNext)
  (tSeq (tIfS (tNot (tB (tCall sp_alike [] E0 (tCons (tCall sp_number_sum [] E0 (tCons (tVar 2) (tCons (tVar 8) (tCons (tVar 9) tNil))))
      (tCons (tCall sp_law_num [] E0 (tCons (tVar 2) (tCons (tOp (rI0 fun i j => V.int (i + j)) (tOp (rI CMulW fun i j => V.int (i * j)) (tVar 4) (tVar 7)) (tOp (rI CMulW fun i j => V.int (i * j)) (tVar 6) (tVar 5))) (tCons (tOp (rI CMulW fun i j => V.int (i * j)) (tVar 5) (tVar 7)) tNil)))) tNil))))) (tRet (tC (V.bl false))) tNext)
  (tSeq (tIfS (tNot (tB (tCall sp_alike [] E0 (tCons (tCall sp_number_product [] E0 (tCons (tVar 2) (tCons (tVar 8) (tCons (tVar 9) tNil))))
      (tCons (tCall sp_law_num [] E0 (tCons (tVar 2) (tCons (tOp (rI CMulW fun i j => V.int (i * j)) (tVar 4) (tVar 6)) (tCons (tOp (rI CMulW fun i j => V.int (i * j)) (tVar 5) (tVar 7)) tNil)))) tNil))))) (tRet (tC (V.bl false))) tNext)
  (tIfS (tAnd (tTest (tOp (rNeD K) (tVar 8) (tCall sp_law_zero [] E0 (tCons (tVar 2) tNil)))) (tNot (tB (tCall sp_alike [] E0 (tCons (tCall (sp_number_inverse C) [] E0 (tCons (tVar 2) (tCons (tVar 8) tNil)))
      (tCons (tCall sp_law_num [] E0 (tCons (tVar 2) (tCons (tVar 5) (tCons (tVar 4) tNil)))) tNil)))))) (tRet (tC (V.bl false))) tNext))))
theorem rest_ok {K : PySem.W.Frag} {C : Addr} {D : Ends} {H8 : Hp} {x0 x1 x3 x8 x9 x10 : Option V} {f n d m l : Int} (hF : IsF f) (bn : n.natAbs ≤ BI) (hd : d.natAbs ≤ BI) (bm : m.natAbs ≤ BI) (hl : l.natAbs ≤ BI) (hz : isZ f d = false) (hz2 : isZ f l = false)
    (k : ∀ y8 y9 H9, Same H8 H9 → D.nx [x0, x1, some (.int f), x3, some (.int n), some (.int d), some (.int m), some (.int l), y8, y9, x10] H9) :
    t_rest K C D [x0, x1, some (.int f), x3, some (.int n), some (.int d), some (.int m), some (.int l), x8, x9, x10] H8 := by
  have lBB : BI < BB := by decide +kernel
  have h3 := s3_bb
  have oka := mkN_ok hF hz bn hd
  have okb := mkN_ok hF hz2 bm hl
  walk_at "rd"
  refine ⟨f, n, _, rfl, hF, by omega, by omega, fun z => absurd z (by rw [hz]; decide), fun _ va H9 na s9 => ?_⟩
  walk_at "rd"
  refine ⟨f, m, _, rfl, hF, by omega, by omega, fun z => absurd z (by rw [hz2]; decide), fun _ vb H10 nb s10 => ?_⟩
  walk_at "rd"
  refine ⟨f, n, _, rfl, hF, by omega, by omega, hz, fun vc H11 nc s11 => ?_⟩
  walk_at "rd"
  have A11 := Same.trans s10 s11
  refine ⟨f, va, vc, _, rfl, na.same A11, nc, fun H12 s12 => ?_⟩
  walk_at "rd"
  refine ⟨f, m, _, rfl, hF, by omega, by omega, hz2, fun vd H13 nd s13 => ?_⟩
  walk_at "rd"
  have B13 := Same.trans s11 (Same.trans s12 s13)
  refine ⟨f, vb, vd, _, rfl, nb.same B13, nd, fun H14 s14 => ?_⟩
  have B14 := Same.trans B13 s14
  have A14 := Same.trans s10 B14
  walk_at "rd"
  refine ⟨f, va, vb, _, _, rfl, hF, na.same A14, nb.same B14, oka, okb, fun ve H15 ne s15 => ?_⟩
  rw [mkN_sum hF hz hz2] at ne
  walk_at "rd"
  refine ⟨bi_mul bn hl, ?_⟩
  walk_at "rd"
  refine ⟨bi_mul bm hd, ?_⟩
  walk_at "rd"
  refine ⟨bi_mul hd hl, ?_⟩
  walk_at "rd"
  have bdl := bi_lt hd hl
  refine ⟨f, _, _, rfl, hF, s3_add (bi_lt bn hl) (bi_lt bm hd), by omega, isZ_mul hF hz hz2, fun vf H16 nf s16 => ?_⟩
  walk_at "rd"
  refine ⟨f, ve, vf, _, rfl, ne.same s16, nf, fun H17 s17 => ?_⟩
  have B17 := Same.trans B14 (Same.trans s15 (Same.trans s16 s17))
  have A17 := Same.trans s10 B17
  walk_at "rd"
  refine ⟨f, va, vb, _, _, rfl, hF, na.same A17, nb.same B17, oka, okb, fun vg H18 ng s18 => ?_⟩
  rw [mkN_prod hF hz hz2] at ng
  walk_at "rd"
  refine ⟨bi_mul bn bm, ?_⟩
  walk_at "rd"
  refine ⟨bi_mul hd hl, ?_⟩
  walk_at "rd"
  have bnm := bi_lt bn bm
  refine ⟨f, _, _, rfl, hF, by omega, by omega, isZ_mul hF hz hz2, fun vh H19 nh s19 => ?_⟩
  walk_at "rd"
  refine ⟨f, vg, vh, _, rfl, ng.same s19, nh, fun H20 s20 => ?_⟩
  have A20 := Same.trans A17 (Same.trans s18 (Same.trans s19 s20))
  have D20 := Same.trans s9 A20
  walk_at "rd"
  refine ⟨hF.lt.1, fun vz H21 nz s21 => ?_⟩
  have A21 := Same.trans A20 s21
  have D21 := Same.trans D20 s21
  refine ⟨_, _, (na.same A21).dp, nz.dp, numD_shaped _ _, numD_shaped _ _, ?_⟩
  rw [numD_zero oka]
  walk_at "rd"
  refine iteDn (fun h0 => ?_) (fun h0 => ?_)
  · walk_at "rd"
    refine ⟨f, va, _, rfl, hF, na.same A21, oka, fun z => absurd z h0, fun _ vi H22 ni s22 => ?_⟩
    rw [mkN_inv hF hz h0] at ni
    walk_at "rd"
    refine ⟨f, _, _, rfl, hF, by omega, by omega, mkN_unit hF hz h0, fun vj H23 nj s23 => ?_⟩
    walk_at "rd"
    refine ⟨f, vi, vj, _, rfl, ni.same s23, nj, fun H24 s24 => ?_⟩
    walk_at "rd"
    exact k _ _ _ (Same.trans D21 (Same.trans s22 (Same.trans s23 s24)))
  · exact k _ _ _ D21
def sp_law (K : PySem.W.Frag) (Pt : Addr) : Sp := fun vs H Q _ => ∃ (sa : Addr) (ns : List Int), vs = [.ref sa] ∧ SqL K H sa (ns.map V.int) ∧ LamX.Tabs (tabsR Pt) H ∧ ∀ H', Q (.bl true) H'
theorem ok_law (T : Txt K mg) {c Pt : Addr} (hc : T.law_refused.fd.code = .ref c) (TB : LamX.TabB base mg c Pt) : FnOk P w K mg base CX0 8 T.law.f T.law.fd P_law (sp_law K Pt) := by
  refine T.law.F.ok sc_law (fun vs H Q E h => ?_) (fun cdv A outer s H vs Q E hr h => ?_)
  · obtain ⟨sa, ns, rfl, _⟩ := h; rfl
  · obtain ⟨sa, ns, rfl, hS, hT, k⟩ := h
    refine ⟨_, (pss_cons (ps_set (i := 1) sc_law.nd rfl (Or.inl rfl) (pe_lst (pa_cons (pv 0) (pa_cons pe_int (pa_cons pe_int (pa_cons pe_int pa_nil))))))
  (pss_cons (ps_set (i := 2) sc_law.nd rfl (Or.inl rfl) (pe_call (ok_law_pick T) (hr.mono (by decide)) rfl T.law_pick.g T.law_pick.F.kp (b_law_pick T) .nil pass0 (pa_cons (pv 1) (pa_cons (pe_lst (pa_cons pe_int (pa_cons pe_int (pa_cons pe_int (pa_cons pe_int (pa_cons pe_int (pa_cons pe_int (pa_cons pe_int (pa_cons pe_int (pa_cons pe_int (pa_cons pe_int (pa_cons pe_int (pa_cons pe_int (pa_cons pe_int pa_nil)))))))))))))) pa_nil))))
  (pss_cons (ps_for PassesOwn.never rfl (pi_range1 rfl T.n_range (pa_cons pe_int pa_nil)) (pg_name (i := 3) sc_law.nd rfl (Or.inl rfl)) (pss_cons (ps_asg (pe_tup (pa_cons (pe_call (ok_law_integer T) (hr.mono (by decide)) rfl T.law_integer.g T.law_integer.F.kp (b_law_integer T) .nil pass0 (pa_cons (pv 1) pa_nil)) (pa_cons (pe_call (ok_law_integer T) (hr.mono (by decide)) rfl T.law_integer.g T.law_integer.F.kp (b_law_integer T) .nil pass0 (pa_cons (pv 1) pa_nil)) (pa_cons (pe_call (ok_law_integer T) (hr.mono (by decide)) rfl T.law_integer.g T.law_integer.F.kp (b_law_integer T) .nil pass0 (pa_cons (pv 1) pa_nil)) (pa_cons (pe_call (ok_law_integer T) (hr.mono (by decide)) rfl T.law_integer.g T.law_integer.F.kp (b_law_integer T) .nil pass0 (pa_cons (pv 1) pa_nil)) pa_nil))))) (pg_tup rfl (pgs_cons (pg_name (i := 4) sc_law.nd rfl (Or.inl rfl)) (pgs_cons (pg_name (i := 5) sc_law.nd rfl (Or.inl rfl)) (pgs_cons (pg_name (i := 6) sc_law.nd rfl (Or.inl rfl)) (pgs_cons (pg_name (i := 7) sc_law.nd rfl (Or.inl rfl)) pgs_nil))))))
  (pss_cons (ps_if (PW.pt (pw_or (pt_cmpR op_eq (pv 5) pe_int (nomark _)) (pw_or1 (PW.pt (pw_and (pt_cmpR op_gt (pv 2) pe_int (nomark _)) (pw_and1 (pt_cmpR op_eq (pe_op op_mod (pe_callTy call_int1 rfl T.n_int bo_int (pa_cons (pv 5) pa_nil)) (pv 2)) pe_int (nomark _)))))))) (pss_cons (ps_if (pt_not (pt_val (pe_call (ok_refused0 T hc TB) (hr.mono (by decide)) rfl T.law_refused.g T.law_refused.F.kp (b_law_refused T) .nil pass0 (pa_cons pe_int (pa_cons (pv 2) (pa_cons (pv 4) (pa_cons (pv 5) pa_nil))))))) (pss_one (ps_ret pe_bl)) pss_nil)
  (pss_one (ps_set (i := 5) sc_law.nd rfl (Or.inl rfl) pe_int))) pss_nil)
  (pss_cons (ps_set (i := 7) sc_law.nd rfl (Or.inl rfl) (pe_ifExp (PW.pt (pw_or (pt_cmpR op_eq (pv 7) pe_int (nomark _)) (pw_or1 (PW.pt (pw_and (pt_cmpR op_gt (pv 2) pe_int (nomark _)) (pw_and1 (pt_cmpR op_eq (pe_op op_mod (pe_callTy call_int1 rfl T.n_int bo_int (pa_cons (pv 7) pa_nil)) (pv 2)) pe_int (nomark _)))))))) pe_int (pv 7)))
  (pss_cons (ps_par rfl sc_law.nd (i := 8) (j := 9) rfl rfl (by decide) rfl rfl (pa_cons (pe_call (ok_number T) (hr.mono (by decide)) rfl T.number.g T.number.F.kp (b_number T) .nil passL (pa_cons (pv 2) (pa_cons (pv 4) (pa_cons (pv 5) pa_nil)))) (pa_cons (pe_call (ok_number T) (hr.mono (by decide)) rfl T.number.g T.number.F.kp (b_number T) .nil passL (pa_cons (pv 2) (pa_cons (pv 6) (pa_cons (pv 7) pa_nil)))) pa_nil)) rfl)
  (pss_cons (ps_if (PW.pt (pw_or (pt_not (pt_val (pe_call (ok_law_alike T) (hr.mono (by decide)) rfl T.law_alike.g T.law_alike.F.kp (b_law_alike T) .nil pass0 (pa_cons (pv 8) (pa_cons (pe_call (ok_law_num T) (hr.mono (by decide)) rfl T.law_num.g T.law_num.F.kp (b_law_num T) .nil pass0 (pa_cons (pv 2) (pa_cons (pv 4) (pa_cons (pv 5) pa_nil)))) pa_nil))))) (pw_or1 (pt_not (pt_val (pe_call (ok_law_alike T) (hr.mono (by decide)) rfl T.law_alike.g T.law_alike.F.kp (b_law_alike T) .nil pass0 (pa_cons (pv 9) (pa_cons (pe_call (ok_law_num T) (hr.mono (by decide)) rfl T.law_num.g T.law_num.F.kp (b_law_num T) .nil pass0 (pa_cons (pv 2) (pa_cons (pv 6) (pa_cons (pv 7) pa_nil)))) pa_nil)))))))) (pss_one (ps_ret pe_bl)) pss_nil)
  (pss_cons (ps_if (pt_not (pt_val (pe_call (ok_law_alike T) (hr.mono (by decide)) rfl T.law_alike.g T.law_alike.F.kp (b_law_alike T) .nil pass0 (pa_cons (pe_call (ok_number_sum T) (hr.mono (by decide)) rfl T.number_sum.g T.number_sum.F.kp (b_number_sum T) .nil pass0 (pa_cons (pv 2) (pa_cons (pv 8) (pa_cons (pv 9) pa_nil)))) (pa_cons (pe_call (ok_law_num T) (hr.mono (by decide)) rfl T.law_num.g T.law_num.F.kp (b_law_num T) .nil pass0 (pa_cons (pv 2) (pa_cons (pe_op op_add (pe_op op_mulW (pv 4) (pv 7)) (pe_op op_mulW (pv 6) (pv 5))) (pa_cons (pe_op op_mulW (pv 5) (pv 7)) pa_nil)))) pa_nil))))) (pss_one (ps_ret pe_bl)) pss_nil)
  (pss_cons (ps_if (pt_not (pt_val (pe_call (ok_law_alike T) (hr.mono (by decide)) rfl T.law_alike.g T.law_alike.F.kp (b_law_alike T) .nil pass0 (pa_cons (pe_call (ok_number_product T) (hr.mono (by decide)) rfl T.number_product.g T.number_product.F.kp (b_number_product T) .nil pass0 (pa_cons (pv 2) (pa_cons (pv 8) (pa_cons (pv 9) pa_nil)))) (pa_cons (pe_call (ok_law_num T) (hr.mono (by decide)) rfl T.law_num.g T.law_num.F.kp (b_law_num T) .nil pass0 (pa_cons (pv 2) (pa_cons (pe_op op_mulW (pv 4) (pv 6)) (pa_cons (pe_op op_mulW (pv 5) (pv 7)) pa_nil)))) pa_nil))))) (pss_one (ps_ret pe_bl)) pss_nil)
  (pss_one (ps_if (PW.pt (pw_and (pt_cmpR (op_neD hr.units) (pv 8) (pe_call (ok_law_zero T) (hr.mono (by decide)) rfl T.law_zero.g T.law_zero.F.kp (b_law_zero T) .nil pass0 (pa_cons (pv 2) pa_nil)) (nomark _)) (pw_and1 (pt_not (pt_val (pe_call (ok_law_alike T) (hr.mono (by decide)) rfl T.law_alike.g T.law_alike.F.kp (b_law_alike T) .nil pass0 (pa_cons (pe_call (ok_number_inverse T) (hr.mono (by decide)) rfl T.number_inverse.g T.number_inverse.F.kp (b_number_inverse T) .nil passL (pa_cons (pv 2) (pa_cons (pv 8) pa_nil))) (pa_cons (pe_call (ok_law_num T) (hr.mono (by decide)) rfl T.law_num.g T.law_num.F.kp (b_law_num T) .nil pass0 (pa_cons (pv 2) (pa_cons (pv 5) (pa_cons (pv 4) pa_nil)))) pa_nil)))))))) (pss_one (ps_ret pe_bl)) pss_nil))))))))))
  (pss_cons (ps_set (i := 10) sc_law.nd rfl (Or.inl rfl) (pe_op op_add (pe_op op_mulW (pe_op op_powW (pe_op op_powW pe_int pe_int) pe_int) (pe_op op_powW pe_int pe_int)) (pe_op op_mulW pe_int (pe_call (ok_law_taken T) (hr.mono (by decide)) rfl T.law_taken.g T.law_taken.F.kp (b_law_taken T) .nil pass0 (pa_cons (pv 1) (pa_cons pe_int pa_nil))))))
  (pss_cons (ps_if (PW.pt (pw_and (pt_cmpR op_eq (pv 2) pe_int (nomark _)) (pw_and1 (pt_not (pt_val (pe_call (ok_law_alike T) (hr.mono (by decide)) rfl T.law_alike.g T.law_alike.F.kp (b_law_alike T) .nil pass0 (pa_cons (pe_call (ok_number_inverse T) (hr.mono (by decide)) rfl T.number_inverse.g T.number_inverse.F.kp (b_number_inverse T) .nil passL (pa_cons pe_int (pa_cons (pe_tup (pa_cons pe_int (pa_cons (pv 10) pa_nil))) pa_nil))) (pa_cons (pe_tup (pa_cons (pv 10) (pa_cons pe_int pa_nil))) pa_nil)))))))) (pss_one (ps_ret pe_bl)) pss_nil)
  (pss_one (ps_ret (pe_and (pe_call (ok_refused1 T hc TB) (hr.mono (by decide)) rfl T.law_refused.g T.law_refused.F.kp (b_law_refused T) .nil pass0 (pa_cons pe_int (pa_cons (pv 2) (pa_cons pe_int (pa_cons pe_int pa_nil))))) (pe_one (pe_call (ok_refused0 T hc TB) (hr.mono (by decide)) rfl T.law_refused.g T.law_refused.F.kp (b_law_refused T) .nil pass0 (pa_cons pe_int (pa_cons (pv 2) (pa_cons pe_int (pa_cons pe_int pa_nil)))))))))))))), ?_⟩
    walk_at "rd"
    refine ⟨(show 4 ≤ sizeLine by decide), fun r hrn => ?_⟩
    have row0 : RowAt K (upd H r (.lst [.ref sa, .int 0, .int 4100, .int 0])) r := by
      refine .of (ns := ns) rfl ?_ (by decide) (by decide) (by decide) (by decide)
      rcases hS with hS | hS
      · refine .inl ⟨hS, ?_⟩
        rcases hS with h | ⟨u, h⟩ <;> exact ne_of_none h hrn
      · exact .inr hS
    have hT0 := hT.ext (same_upd (o := .lst [.ref sa, .int 0, .int 4100, .int 0]) hrn)
    walk_at "rd"
    refine ⟨(show 13 ≤ sizeLine by decide), fun l hl => ?_⟩
    have nlr : l ≠ r := fun z => by rw [z, upd_same] at hl; cases hl
    have s1 := same_upd (o := .lst FList) hl
    refine ⟨_, _, _, rfl, row0.same s1, .inl (.inl upd_same), nlr, by decide, by decide, fun v H1 hv row1 b1 => ?_⟩
    obtain ⟨f, rfl, hF⟩ := flist hv
    have hT1 := tabs_but (hT0.ext s1) (row0.same s1) b1
    walk_at "rd"
    refine ⟨by decide, by decide, for_range (lo := 0) (n := 3) (fun i σ H' => RowAt K H' r ∧ LamX.Tabs (tabsR Pt) H' ∧ ∃ v3 v4 v5 v6 v7 v8 v9 v10, σ = [some (.ref sa), some (.ref r), some (.int f), v3, v4, v5, v6, v7, v8, v9, v10])
      ⟨row1, hT1, none, none, none, none, none, none, none, none, rfl⟩ ?_ ?_⟩
    · rintro i σ H2 hi ⟨row2, hT2, v3, v4, v5, v6, v7, v8, v9, v10, rfl⟩
      walk_at "rd"
      refine ⟨row2, fun n H3 bn row3 b3 => ?_⟩
      have hT3 := tabs_but hT2 row2 b3
      walk_at "rd"
      refine ⟨row3, fun d0 H4 bd0 row4 b4 => ?_⟩
      have hT4 := tabs_but hT3 row3 b4
      walk_at "rd"
      refine ⟨row4, fun m H5 bm row5 b5 => ?_⟩
      have hT5 := tabs_but hT4 row4 b5
      walk_at "rd"
      refine ⟨row5, fun l0 H6 bl0 row6 b6 => ?_⟩
      have hT6 := tabs_but hT5 row5 b6
      walk_at "rd"
      refine ⟨(show 4 ≤ sizeLine by decide), fun q hq => ?_⟩
      have row7 := row6.same (same_upd (o := .tup [.int n, .int d0, .int m, .int l0]) hq)
      have hT7 := hT6.ext (same_upd (o := .tup [.int n, .int d0, .int m, .int l0]) hq)
      refine ⟨_, _, rfl, .inl (.inl upd_same), rfl, ?_⟩
      refine ⟨_, _, rfl, _, _, rfl, _, _, rfl, _, _, rfl, rfl, ?_⟩
      have lBB : BI < BB := by decide +kernel
      refine test_z rfl rfl hF ?_
      have z1 : isZ f 1 = false := by
        unfold isZ
        split
        · rfl
        · rename_i hf
          have := hF.pos hf
          rw [Int.emod_eq_of_lt (by omega) (by omega)]; rfl
      have h1 : (1 : Int).natAbs ≤ BI := by decide +kernel
      cases hzd : isZ f d0 with
      | false =>
        refine iteF ?_
        refine test_z rfl rfl hF ?_
        cases hzl : isZ f l0 with
        | false =>
          refine iteF ?_
          refine ⟨_, rfl, ?_⟩
          exact rest_ok hF bn bd0 bm bl0 hzd hzl fun y8 y9 H9 s9 => ⟨row7.same s9, hT7.ext s9, _, _, _, _, _, _, _, _, rfl⟩
        | true =>
          refine iteT ?_
          exact rest_ok hF bn bd0 bm h1 hzd z1 fun y8 y9 H9 s9 => ⟨row7.same s9, hT7.ext s9, _, _, _, _, _, _, _, _, rfl⟩
      | true =>
        walk_at "rd"
        refine ⟨f, n, d0, rfl, hF, by omega, by omega, hzd, hT7, fun H8 x8 => ?_⟩
        have row8 := row7.ext x8.keep
        have hT8 := x8.tabs
        refine ⟨_, rfl, ?_⟩
        refine iteF ?_
        refine test_z rfl rfl hF ?_
        cases hzl : isZ f l0 with
        | false =>
          refine iteF ?_
          refine ⟨_, rfl, ?_⟩
          exact rest_ok hF bn h1 bm bl0 z1 hzl fun y8 y9 H9 s9 => ⟨row8.same s9, hT8.ext s9, _, _, _, _, _, _, _, _, rfl⟩
        | true =>
          refine iteT ?_
          exact rest_ok hF bn h1 bm h1 z1 z1 fun y8 y9 H9 s9 => ⟨row8.same s9, hT8.ext s9, _, _, _, _, _, _, _, _, rfl⟩
    · rintro σ H2 ⟨row2, hT2, v3, v4, v5, v6, v7, v8, v9, v10, rfl⟩
      walk_at "rd"
      refine ⟨(show CMulW _ _ by unfold CMulW; decide +kernel), ?_⟩
      walk_at "rd"
      refine ⟨row2, by decide, by decide, fun v H3 v0 v1 row3 b3 => ?_⟩
      have hT3 := tabs_but hT2 row2 b3
      have hb : (0 : Int) < (10 ^ Int.toNat 50) ^ Int.toNat 3 * 10 ^ Int.toNat 49 ∧ ((10 : Int) ^ Int.toNat 50) ^ Int.toNat 3 * 10 ^ Int.toNat 49 + 700 < NBi := by decide +kernel
      have z0 : isZ f 0 = true := by
        unfold isZ
        split <;> simp
      have lB : 1 < BB := by decide +kernel
      have fin : ∀ H' x, LamX.Tabs (tabsR Pt) H' → tRet (tAndV (tCall (sp_refused1 Pt) [] E0 (tCons (tC (V.int 1)) (tCons (tVar 2) (tCons (tC (V.int 1)) (tCons (tC (V.int 1)) tNil)))))
          (tCall (sp_refused0 Pt) [] E0 (tCons (tC (V.int 0)) (tCons (tVar 2) (tCons (tC (V.int 1)) (tCons (tC (V.int 0)) tNil)))))) { nx := fun x H' => Q V.non H', rt := Q } [some (.ref sa), some (.ref r), some (.int f), v3, v4, v5, v6, v7, v8, v9, x] H' := by
        intro H' x hT'
        walk_at "rd"
        refine ⟨f, 1, 1, rfl, hF, hT', fun H5 x5 => ?_⟩
        walk_at "rd"
        refine ⟨f, 1, 0, rfl, hF, lB, by omega, z0, x5.tabs, fun H6 x6 => ?_⟩
        exact k H6
      walk_at "rd"
      generalize ((10 : Int) ^ Int.toNat 50) ^ Int.toNat 3 * 10 ^ Int.toNat 49 = c0 at *
      have hnb := nb_eq
      have hok : NumOk 0 (1, c0 + 7 * v) := by
        unfold NumOk
        rw [if_pos rfl]
        refine ⟨?_, ?_, ?_, ?_⟩
        · show 1 < NBn
          omega
        · show 0 < c0 + 7 * v
          omega
        · show (c0 + 7 * v).natAbs < NBn
          omega
        · exact Nat.gcd_one_left _
      refine iteV (fun hf => ?_) (fun hf => ?_)
      · walk_at "rd"
        refine ⟨two_line, fun p hp => ?_⟩
        have s4 := same_upd (o := .tup [.int 1, .int (c0 + 7 * v)]) hp
        refine ⟨0, .ref p, (1, c0 + 7 * v), rfl, .inl rfl, .inl ⟨rfl, p, rfl, upd_same⟩, hok, fun z => absurd z (show (1 : Int) ≠ 0 by decide), fun _ vi H5 ni s5 => ?_⟩
        rw [inv_far] at ni
        walk_at "rd"
        refine ⟨two_line, fun p2 hp2 => ?_⟩
        have s6 := same_upd (o := .tup [.int (c0 + 7 * v), .int 1]) hp2
        refine ⟨0, vi, .ref p2, (c0 + 7 * v, 1), rfl, ni.same s6, .inl ⟨rfl, p2, rfl, upd_same⟩, fun H6 s7 => ?_⟩
        refine ⟨_, rfl, ?_⟩
        refine iteF ?_
        exact fin _ _ (hT3.ext (Same.trans s4 (Same.trans s5 (Same.trans s6 s7))))
      · refine iteF ?_
        exact fin _ _ hT3
end

/-! ### the end -/
section
open PySem.Spec PyProof.Rows LamX
/-- as the layer's end with tables; handed on besides: the whole top -/
theorem walk_top {l : PySem.W.OpenLaw} {n k : Nat} {q : Program} {loose : List Str} {XP : (Str → Option Value) → Heap → Prop} {YP : World → Heap → Prop} {d : DefRec} {K : Params → PySem.W.Frag} {CX : World → CXT} {x : Str}
    (hn : l.most = some n) (hn2 : n ≤ sizeLine) (hdf : d.params.defaults = []) (hr : Room k callerA) (hY : ∀ (w : World) (h : Heap), YP w h → (K w.params).In h)
    (F : ∀ (w : World) (s₀ : Shared) (mg mb : Str → Option Value) (fa : Addr) (h : Heap), PySem.W.Ground q loose [] XP w s₀ mg mb h → (K w.params).In h → h.Ns mainGlobals mg → mg d.name = some (.ref fa) → LawAtS l w (K w.params) (CX w) k n x mg fa h)
    (hCX : ∀ (w : World) (H : Hp) (s : Shared) (e : Value) (s' : Shared), CX w [] H s (fun _ _ _ => False) e s' → False) :
    PySem.W.WalkO q loose XP YP l.row.toRowW d [] (fun f vs => PySem.call f vs) := by
  refine Att.attach_callB hn hdf fun w s₀ s₁ mg mb fa o pm cd doc a vs ns G Y ho hd hcd hmg hobj hints hlen hbits hg => ?_
  have KX := hY w _ Y
  obtain ⟨fd, cs, sp, hT, nT, C, hb, hsp, hF⟩ := F w s₀ mg mb fa _ G KX G.T.g hmg
  exact law_callTs KX G.T.g G.T.b G.T.builtins G.T.nolimit hg hT nT C G.T.bmain hobj hints (Nat.le_trans hlen hn2) hr hF hb (fun H hH hS => hsp H a ns hlen hbits hH hS) fun H e s' => hCX w H s₁ e s'
/-- the code object and its table of a def, by the written part -/
theorem tab_in {K : PySem.W.Frag} {x : Str} {f c P : Addr} {oc e : Value} {od dd : Option Addr} {fd : FuncData} {vs : Array Value} {s1 s2 : Array (Option Value)} (a : PySem.W.nsIn K mainGlobals x = some (some (.ref f))) (l : K.lookup f = some ⟨oc, od, .func fd, s1⟩) (hc : fd.code = .ref c)
    (lc : K.lookup c = some ⟨e, dd, .fields vs, s2⟩) (hv : vs[11]? = some (.ref P)) : PySem.W.tabIn K x = some (c, P) := by
  unfold PySem.W.tabIn
  rw [a]
  simp only [l, hc, lc, hv]
/-- a whole number of the top that the head does not write out -/
theorem loose_int {q : Program} {lv : List (Str × PySem.W.WData)} {mg : Str → Option Value} {h : Heap} {x : Str} {i : Int} (X : PySem.W.XL q lv mg h) (hm : (x, PySem.W.WData.int i) ∈ lv) : ∃ t, mg x = some (.int i t) := by
  obtain ⟨v, a, r⟩ := X.2.val _ hm
  cases r
  exact ⟨_, a⟩
end

theorem law_at {l : PySem.W.OpenLaw} {w : World} {K : PySem.W.Frag} {mg mb : Str → Option Value} {q : Program} {loose : List Str} {mean : ExcName → Option Value} {fa c Pt : Addr} {h : Heap} {d : DefRec} (TT : PyProof.Rows.Top q loose mean mg mb h) (X : K.In h) (G : h.Ns mainGlobals mg) (hfa : mg "law" = some (.ref fa))
    (hrec : (PyProof.Rows.recsOf q).find? (fun e => e.name == ("_law_refused" : Str)) = some d) (ht : PySem.W.tabIn K "_law_refused" = some (c, Pt)) (nt : K.lookup Pt = none)
    (T : Txt K mg) : LamX.LawAtS l w K CX0 8 63 "script" mg fa h := by
  obtain ⟨C, hP⟩ := PySem.W.tab_of TT X hrec ht
  have e := hfa.symm.trans T.law.g
  cases e
  have hc : T.law_refused.fd.code = .ref c := by
    obtain ⟨oc, od, kV, doc, pm, an, cdv, ct, osl, e, lk, hcd⟩ := T.law_refused.F.ex
    exact PySem.W.law_code X G ht T.law_refused.g (X _ _ lk) rfl
  refine ⟨T.law.fd, [(c, Pt)], sp_law K Pt, fun p hp => ?_, fun p hp => ?_, fun p hp => ?_, fun s u => ?_, fun H a ns hl hbits hT hS => ?_, fun base hb hn hT => ok_law T hc (hT _ List.mem_cons_self)⟩
  · rw [List.mem_singleton] at hp; subst hp; exact hP
  · rw [List.mem_singleton] at hp; subst hp; exact nt
  · rw [List.mem_singleton] at hp; subst hp; exact C
  · obtain ⟨oc, od, kV, doc, pm, an, cdv, ct, osl, e, lk, hcd⟩ := T.law.F.ex
    rw [e]
    exact .of_eq rfl
  · refine ⟨a, ns, rfl, hS, fun p hp => ?_, fun _ => rfl⟩
    rw [List.mem_singleton] at hp
    subst hp
    exact LamX.TabS.nil (hT _ List.mem_cons_self)
theorem tup_written {K : PySem.W.Frag} {a : Addr} {xs : List Int} {dd : Option Addr} {its : Array Value} {n : Nat} {sl : Array (Option Value)} (l : K.lookup a = some ⟨.type "tuple", dd, .seq its n, sl⟩) (hz : its.size ≤ sizeLine) (hv : Vals (xs.map V.int) its.toList) : ∀ H, SqT K H a (xs.map V.int) := fun _ => .inr ⟨_, its, n, l, rfl, rfl, hz, hv⟩
theorem fin {l : PySem.W.OpenLaw} {w : World} {K : PySem.W.Frag} {mg mb : Str → Option Value} {q : Program} {loose : List Str} {mean : ExcName → Option Value} {fa f1 c Pt C aP : Addr} {h : Heap} {d : DefRec} {tB : Tok} {oc1 e1 : Value} {od1 dd1 : Option Addr} {fd1 : FuncData} {vs1 : Array Value} {s1 s2 : Array (Option Value)}
    (TT : PyProof.Rows.Top q loose mean mg mb h) (X : K.In h) (G : h.Ns mainGlobals mg) (hfa : mg "law" = some (.ref fa))
    (hrec : (PyProof.Rows.recsOf q).find? (fun e => e.name == ("_law_refused" : Str)) = some d)
    (r1 : PySem.W.nsIn K mainGlobals "_law_refused" = some (some (.ref f1))) (r2 : K.lookup f1 = some ⟨oc1, od1, .func fd1, s1⟩) (r3 : fd1.code = .ref c) (r4 : K.lookup c = some ⟨e1, dd1, .fields vs1, s2⟩) (r5 : vs1[11]? = some (.ref Pt)) (nt : K.lookup Pt = none)
    (zero_of : DefAt K mg "zero_of" s_zero_of)
    (is_zero_in : DefAt K mg "is_zero_in" s_is_zero_in)
    (inverse_modulo : DefAt K mg "inverse_modulo" s_inverse_modulo)
    (make_number : DefAt K mg "make_number" s_make_number)
    (add_numbers : DefAt K mg "add_numbers" s_add_numbers)
    (multiply_numbers : DefAt K mg "multiply_numbers" s_multiply_numbers)
    (invert_number : DefAt K mg "invert_number" s_invert_number)
    (is_integer : DefAt K mg "is_integer" s_is_integer)
    (is_integer_in : DefAt K mg "is_integer_in" s_is_integer_in)
    (is_tuple_of : DefAt K mg "is_tuple_of" s_is_tuple_of)
    (is_field : DefAt K mg "is_field" s_is_field)
    (is_fraction : DefAt K mg "is_fraction" s_is_fraction)
    (is_number : DefAt K mg "is_number" s_is_number)
    (check_field : DefAt K mg "check_field" s_check_field)
    (check_number : DefAt K mg "check_number" s_check_number)
    (check_integer : DefAt K mg "check_integer" s_check_integer)
    (number : DefAt K mg "number" s_number)
    (number_sum : DefAt K mg "number_sum" s_number_sum)
    (number_product : DefAt K mg "number_product" s_number_product)
    (number_inverse : DefAt K mg "number_inverse" s_number_inverse)
    (law_taken : DefAt K mg "_law_taken" s_law_taken)
    (law_pick : DefAt K mg "_law_pick" s_law_pick)
    (law_integer : DefAt K mg "_law_integer" s_law_integer)
    (law_zero : DefAt K mg "_law_zero" s_law_zero)
    (law_refused : DefAt K mg "_law_refused" s_law_refused)
    (law_alike : DefAt K mg "_law_alike" s_law_alike)
    (law_gcd : DefAt K mg "_law_gcd" s_law_gcd)
    (law_num : DefAt K mg "_law_num" s_law_num)
    (law : DefAt K mg "law" s_law)
    (z1 : PySem.W.nsIn K mainGlobals "len" = some none) (z2 : PySem.W.nsIn K mainGlobals "isinstance" = some none) (z3 : PySem.W.nsIn K mainGlobals "abs" = some none) (z4 : PySem.W.nsIn K mainGlobals "int" = some none) (z5 : PySem.W.nsIn K mainGlobals "bool" = some none)
    (z6 : PySem.W.nsIn K mainGlobals "str" = some none) (z7 : PySem.W.nsIn K mainGlobals "tuple" = some none) (z8 : PySem.W.nsIn K mainGlobals "list" = some none) (z9 : PySem.W.nsIn K mainGlobals "range" = some none)
    (y1 : PySem.W.nsIn K mainGlobals "gcd" = some (some (.builtin "math.gcd")))
    (x0 : PySem.W.nsIn K mainGlobals "ZeroDivisor" = some (some (.ref C))) (x1 : PySem.W.excIn K C [.type "ValueError", .type "Exception", .type "BaseException", .type "object"] "ValueError.__new__" = true) (x2 : PySem.W.keepIn K (.ref C) = true) (x3 : PySem.W.subIn K (.ref C) (.type "BaseException") = some true)
    (x4 : PySem.W.typeIn K (.ref C) = some (.type "type")) (x5 : PySem.W.isClsIn K C = true) (x6 : PySem.W.subIn K (.ref C) (.ref C) = some true)
    (y2 : PySem.W.nsIn K mainGlobals "PRIMES" = some (some (.ref aP))) (y3 : ∀ H, SqT K H aP ([2, 3, 5, 7, 11, 13, 17, 19, 23, 29, 31].map V.int))
    (y4 : mg "NUMBER_BOUND" = some (.int NBi tB)) : LamX.LawAtS l w K CX0 8 63 "script" mg fa h :=
  law_at TT X G hfa hrec (tab_in r1 r2 r3 r4 r5) nt
    { zero_of := zero_of, is_zero_in := is_zero_in, inverse_modulo := inverse_modulo, make_number := make_number, add_numbers := add_numbers, multiply_numbers := multiply_numbers, invert_number := invert_number, is_integer := is_integer, is_integer_in := is_integer_in, is_tuple_of := is_tuple_of, is_field := is_field, is_fraction := is_fraction, is_number := is_number, check_field := check_field, check_number := check_number, check_integer := check_integer, number := number, number_sum := number_sum, number_product := number_product, number_inverse := number_inverse, law_taken := law_taken, law_pick := law_pick, law_integer := law_integer, law_zero := law_zero, law_refused := law_refused, law_alike := law_alike, law_gcd := law_gcd, law_num := law_num, law := law, n_len := PySem.W.mg_none_of X G z1, n_isinstance := PySem.W.mg_none_of X G z2, n_abs := PySem.W.mg_none_of X G z3, n_int := PySem.W.mg_none_of X G z4, n_bool := PySem.W.mg_none_of X G z5, n_str := PySem.W.mg_none_of X G z6, n_tuple := PySem.W.mg_none_of X G z7, n_list := PySem.W.mg_none_of X G z8, n_range := PySem.W.mg_none_of X G z9,
      g_gcd := PySem.W.mg_of X G y1, ZeroDivisor := ⟨C, PySem.W.mg_of X G x0, x1, x2, x3, x4, x5, x6⟩, aPRIMES := aP, g_PRIMES := PySem.W.mg_of X G y2, t_PRIMES := y3, tNB := tB, g_NUMBER_BOUND := y4 }

end Toy
open PySem PySem.W PyProof.Rows
set_option maxRecDepth 100000 in
set_option maxHeartbeats 0 in
theorem PySem.Challenge.cw_idealcore_k00_numbers_holds : PySem.Challenge.rw_idealcore_k00_numbers.Holds := by
  w_on; o_law; k_head; (case hw => w_witness2)
  k_fill
  refine Toy.walk_top (l := PySem.Challenge.rw_idealcore_k00_numbers) (n := 63) (k := 8) (x := "script") (CX := fun _ => L2.CX0) rfl (by decide) rfl ⟨rfl, by decide, by decide⟩ (fun w h Y => PySem.W.km_in_of Y) ?F (fun _ _ _ _ _ z => z)
  case F =>
    intro w s0 mg mb fa h GG KX G hmg
    obtain ⟨tB, hB⟩ := Toy.loose_int GG.X List.mem_cons_self
    refine' Toy.fin (tB := tB) GG.T KX G hmg ?hrec ?r1 ?r2 ?r3 ?r4 ?r5 ?nt
      (Toy.defI KX G ?a_zero_of ?l_zero_of ?c_zero_of ?k_zero_of)
      (Toy.defI KX G ?a_is_zero_in ?l_is_zero_in ?c_is_zero_in ?k_is_zero_in)
      (Toy.defI KX G ?a_inverse_modulo ?l_inverse_modulo ?c_inverse_modulo ?k_inverse_modulo)
      (Toy.defI KX G ?a_make_number ?l_make_number ?c_make_number ?k_make_number)
      (Toy.defI KX G ?a_add_numbers ?l_add_numbers ?c_add_numbers ?k_add_numbers)
      (Toy.defI KX G ?a_multiply_numbers ?l_multiply_numbers ?c_multiply_numbers ?k_multiply_numbers)
      (Toy.defI KX G ?a_invert_number ?l_invert_number ?c_invert_number ?k_invert_number)
      (Toy.defI KX G ?a_is_integer ?l_is_integer ?c_is_integer ?k_is_integer)
      (Toy.defI KX G ?a_is_integer_in ?l_is_integer_in ?c_is_integer_in ?k_is_integer_in)
      (Toy.defI KX G ?a_is_tuple_of ?l_is_tuple_of ?c_is_tuple_of ?k_is_tuple_of)
      (Toy.defI KX G ?a_is_field ?l_is_field ?c_is_field ?k_is_field)
      (Toy.defI KX G ?a_is_fraction ?l_is_fraction ?c_is_fraction ?k_is_fraction)
      (Toy.defI KX G ?a_is_number ?l_is_number ?c_is_number ?k_is_number)
      (Toy.defI KX G ?a_check_field ?l_check_field ?c_check_field ?k_check_field)
      (Toy.defI KX G ?a_check_number ?l_check_number ?c_check_number ?k_check_number)
      (Toy.defI KX G ?a_check_integer ?l_check_integer ?c_check_integer ?k_check_integer)
      (Toy.defI KX G ?a_number ?l_number ?c_number ?k_number)
      (Toy.defI KX G ?a_number_sum ?l_number_sum ?c_number_sum ?k_number_sum)
      (Toy.defI KX G ?a_number_product ?l_number_product ?c_number_product ?k_number_product)
      (Toy.defI KX G ?a_number_inverse ?l_number_inverse ?c_number_inverse ?k_number_inverse)
      (Toy.defI KX G ?a_law_taken ?l_law_taken ?c_law_taken ?k_law_taken)
      (Toy.defI KX G ?a_law_pick ?l_law_pick ?c_law_pick ?k_law_pick)
      (Toy.defI KX G ?a_law_integer ?l_law_integer ?c_law_integer ?k_law_integer)
      (Toy.defI KX G ?a_law_zero ?l_law_zero ?c_law_zero ?k_law_zero)
      (Toy.defI KX G ?a_law_refused ?l_law_refused ?c_law_refused ?k_law_refused)
      (Toy.defI KX G ?a_law_alike ?l_law_alike ?c_law_alike ?k_law_alike)
      (Toy.defI KX G ?a_law_gcd ?l_law_gcd ?c_law_gcd ?k_law_gcd)
      (Toy.defI KX G ?a_law_num ?l_law_num ?c_law_num ?k_law_num)
      (Toy.defI KX G ?a_law ?l_law ?c_law ?k_law)
      ?z1 ?z2 ?z3 ?z4 ?z5 ?z6 ?z7 ?z8 ?z9 ?y1 ?x0 ?x1 ?x2 ?x3 ?x4 ?x5 ?x6 ?y2 ?y3 ?y4
    (case z1 => k_is); (case z2 => k_is); (case z3 => k_is); (case z4 => k_is); (case z5 => k_is); (case z6 => k_is); (case z7 => k_is); (case z8 => k_is); (case z9 => k_is)
    (case a_zero_of => k_is); (case l_zero_of => k_is); (case c_zero_of => k_is); (case k_zero_of => k_is)
    (case a_is_zero_in => k_is); (case l_is_zero_in => k_is); (case c_is_zero_in => k_is); (case k_is_zero_in => k_is)
    (case a_inverse_modulo => k_is); (case l_inverse_modulo => k_is); (case c_inverse_modulo => k_is); (case k_inverse_modulo => k_is)
    (case a_make_number => k_is); (case l_make_number => k_is); (case c_make_number => k_is); (case k_make_number => k_is)
    (case a_add_numbers => k_is); (case l_add_numbers => k_is); (case c_add_numbers => k_is); (case k_add_numbers => k_is)
    (case a_multiply_numbers => k_is); (case l_multiply_numbers => k_is); (case c_multiply_numbers => k_is); (case k_multiply_numbers => k_is)
    (case a_invert_number => k_is); (case l_invert_number => k_is); (case c_invert_number => k_is); (case k_invert_number => k_is)
    (case a_is_integer => k_is); (case l_is_integer => k_is); (case c_is_integer => k_is); (case k_is_integer => k_is)
    (case a_is_integer_in => k_is); (case l_is_integer_in => k_is); (case c_is_integer_in => k_is); (case k_is_integer_in => k_is)
    (case a_is_tuple_of => k_is); (case l_is_tuple_of => k_is); (case c_is_tuple_of => k_is); (case k_is_tuple_of => k_is)
    (case a_is_field => k_is); (case l_is_field => k_is); (case c_is_field => k_is); (case k_is_field => k_is)
    (case a_is_fraction => k_is); (case l_is_fraction => k_is); (case c_is_fraction => k_is); (case k_is_fraction => k_is)
    (case a_is_number => k_is); (case l_is_number => k_is); (case c_is_number => k_is); (case k_is_number => k_is)
    (case a_check_field => k_is); (case l_check_field => k_is); (case c_check_field => k_is); (case k_check_field => k_is)
    (case a_check_number => k_is); (case l_check_number => k_is); (case c_check_number => k_is); (case k_check_number => k_is)
    (case a_check_integer => k_is); (case l_check_integer => k_is); (case c_check_integer => k_is); (case k_check_integer => k_is)
    (case a_number => k_is); (case l_number => k_is); (case c_number => k_is); (case k_number => k_is)
    (case a_number_sum => k_is); (case l_number_sum => k_is); (case c_number_sum => k_is); (case k_number_sum => k_is)
    (case a_number_product => k_is); (case l_number_product => k_is); (case c_number_product => k_is); (case k_number_product => k_is)
    (case a_number_inverse => k_is); (case l_number_inverse => k_is); (case c_number_inverse => k_is); (case k_number_inverse => k_is)
    (case a_law_taken => k_is); (case l_law_taken => k_is); (case c_law_taken => k_is); (case k_law_taken => k_is)
    (case a_law_pick => k_is); (case l_law_pick => k_is); (case c_law_pick => k_is); (case k_law_pick => k_is)
    (case a_law_integer => k_is); (case l_law_integer => k_is); (case c_law_integer => k_is); (case k_law_integer => k_is)
    (case a_law_zero => k_is); (case l_law_zero => k_is); (case c_law_zero => k_is); (case k_law_zero => k_is)
    (case a_law_refused => k_is); (case l_law_refused => k_is); (case c_law_refused => k_is); (case k_law_refused => k_is)
    (case a_law_alike => k_is); (case l_law_alike => k_is); (case c_law_alike => k_is); (case k_law_alike => k_is)
    (case a_law_gcd => k_is); (case l_law_gcd => k_is); (case c_law_gcd => k_is); (case k_law_gcd => k_is)
    (case a_law_num => k_is); (case l_law_num => k_is); (case c_law_num => k_is); (case k_law_num => k_is)
    (case a_law => k_is); (case l_law => k_is); (case c_law => k_is); (case k_law => k_is)
    (case y1 => k_is); (case x0 => k_is); (case x2 => k_is); (case x3 => k_is); (case x4 => k_is); (case x5 => k_is); (case x6 => first | rfl | k_is)
    (case x1 => k_exc)
    (case hrec => rfl)
    (case r1 => k_is)
    (case r2 => k_is)
    (case r3 => rfl)
    (case r4 => k_is)
    (case r5 => rfl)
    (case nt => kernel_rfl)
    (case y2 => k_is)
    (case y3 =>
      refine' Toy.tup_written ?l ?z ?v
      (case l => k_is)
      (case z => decide)
      (case v => exact (.cons ⟨_, rfl⟩ (.cons ⟨_, rfl⟩ (.cons ⟨_, rfl⟩ (.cons ⟨_, rfl⟩ (.cons ⟨_, rfl⟩ (.cons ⟨_, rfl⟩ (.cons ⟨_, rfl⟩ (.cons ⟨_, rfl⟩ (.cons ⟨_, rfl⟩ (.cons ⟨_, rfl⟩ (.cons ⟨_, rfl⟩ .nil)))))))))))))
    (case y4 => exact hB)
#print axioms PySem.Challenge.cw_idealcore_k00_numbers_holds
