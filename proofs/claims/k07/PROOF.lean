import PyProof.Rows.All
import Wide.All
import OpenK.AllK
import Wide.FinOn
import HandS.ForMost
import HandS.ForExc
import HandS.IsInst
import HandS.Wide
import HandS.WideBits
import HandS.Nested
import HandS.Lambda
import HandS.LawCells
import HandS.EndTab
import HandS.EndOwn
import HandS.AnyAll
import HandS.Zip
import HandS.TupMul
import HandS.TupLe
import HandS.TupAny
import HandS.SortKw
import HandS.RevRange
import HandS.Walk
import HandS.Conv
import HandS.Defaults
import HandS.GenList
import HandS.ExcInit
import HandS.ClsMeth
import HandS.ExcField
import HandS.FStr
import HandS.Small
import HandS.Rev
import KE.KExcSuper
import KE.DataMinKey
import KE.KTupSum
import KE.GoesZip
import KE.GoesMore
import KE.DataCmp
import KE.SortData
import KE.SortKeyHeap
import PyProof.GenCompD
import HandS.StrMore
import HandS.Strs
import HandS.Codes
import HandS.Gcd
import KE.GoesEnum
import HandS.DictTup
import KE.KSortKey
import HandS.SetKeys
import HandS.SortInts
import HandS.Style
import PySem.Challenge.RW_idealcore_k07_whole_texts_refused

set_option Elab.async false
set_option linter.all false
set_option maxRecDepth 100000
set_option maxHeartbeats 4000000
namespace Toy
open PySem L2
/-! ### the text by places -/
def topS (i : Nat) : Stmt := PySem.Challenge.pw_idealcore_k07_whole_texts_refused.main.body.getD i (.Pass ⟨0, 0, 0, 0⟩)
/-! ### what a def of the top is -/
structure DefAt (K : PySem.W.Frag) (mg : Str → Option Value) (x : Str) (st : Stmt) where
  f : Addr
  fd : FuncData
  F : Fun K x x st f fd
  g : mg x = some (.ref f)
noncomputable def defI {K : PySem.W.Frag} {h : Heap} {mg : Str → Option Value} (X : K.In h) (G : h.Ns mainGlobals mg) {x : Str} {st : Stmt} {f : Addr} {oc : Value} {od an : Option Addr} {osl : Array (Option Value)} {kV doc pm cdv ct : Value}
    (a : PySem.W.nsIn K mainGlobals x = some (some (.ref f))) (l : K.lookup f = some ⟨oc, od, .func (PySem.W.fnOf x x (defArgs st) (defBody st) (defScope st) .none kV doc pm an cdv ct), osl⟩)
    (c : PySem.W.codeIn K cdv x = true) (k : PySem.W.keepIn K (.ref f) = true) : DefAt K mg x st :=
  ⟨f, _, fun_mk (st := st) l c k, PySem.W.mg_of X G a⟩
/-! ### rules of my own -/
section
variable {X : Cx}
/-- // by any divisor but 0, below 2 ^ 9000 in size -/
def CDivZ (_ j : Int) : Prop := j ≠ 0 ∧ j.natAbs.log2 < 9000
theorem op_fdivZ : OpR X (binaryOp .FloorDiv) (rI CDivZ fun i j => .int (i.fdiv j)) := opI fun _ _ _ _ _ _ _ hc q =>
  PyProof.Rows.floordiv_int hc.1 q (.inl (PyProof.noPylong_of_log2 hc.2))
theorem cdivZ {i j : Int} {b : Nat} (h : j ≠ 0) (hb : j.natAbs < 2 ^ b) (h0 : 0 < b) (h9 : b ≤ 9000) : CDivZ i j := ⟨h, Nat.lt_of_lt_of_le (PySem.Flt.log2_lt_of h0 hb) h9⟩
/-- ** with a small exponent -/
def CPowW (i j : Int) : Prop := 0 ≤ j ∧ (Builtin.Int.intBits i : Int) * j ≤ 2 ^ 27
theorem op_powW : OpR X (binaryOp .Pow) (rI CPowW fun i j => .int (i ^ j.toNat)) := opI fun _ _ _ _ _ _ _ hc q =>
  PyProof.Rows.pow_int hc.1 hc.2 q
end
def rLenS (K : PySem.W.Frag) : List V → Hp → VK → Prop := fun xs H Q => ∃ p ys, xs = [.ref p] ∧ (SqL K H p ys ∨ SqT K H p ys) ∧ Q (.int ys.length) H
theorem bo_len : bootBuiltins "len" = some (.builtin "len") := by decide +kernel
theorem bo_isinstance : bootBuiltins "isinstance" = some (.builtin "isinstance") := by decide +kernel
theorem bo_abs : bootBuiltins "abs" = some (.builtin "abs") := by decide +kernel
theorem bo_int : bootBuiltins "int" = some (.type "int") := by decide +kernel
theorem bo_bool : bootBuiltins "bool" = some (.type "bool") := by decide +kernel
theorem bo_str : bootBuiltins "str" = some (.type "str") := by decide +kernel
theorem bo_tuple : bootBuiltins "tuple" = some (.type "tuple") := by decide +kernel
theorem bo_list : bootBuiltins "list" = some (.type "list") := by decide +kernel
/-! ### heaps -/
/-- all but what stands at r is as it was -/
def KeepBut (r : Addr) (H H' : Hp) : Prop := ∀ b o, b ≠ r → H b = some o → H' b = some o
theorem KeepBut.of {r : Addr} {H H' : Hp} (h : Same H H') : KeepBut r H H' := fun b o _ e => h b o e
theorem KeepBut.trans {r : Addr} {H H1 H2 : Hp} (a : KeepBut r H H1) (b : KeepBut r H1 H2) : KeepBut r H H2 := fun c o n e => b c o n (a c o n e)
theorem same_upd {H : Hp} {p : Addr} {o : HO} (h : H p = none) : Same H (upd H p o) := fun b u e => by
  rw [upd_ne (ne_of_none e h)]; exact e
theorem Same.upd' {H H' : Hp} {p : Addr} {o : HO} (s : Same H H') (h : H' p = none) : Same H (upd H' p o) := Same.trans s (same_upd h)
theorem Same.tup {K : PySem.W.Frag} {H H' : Hp} {a : Addr} {xs : List V} (e : Same H H') (h : SqT K H a xs) : SqT K H' a xs := by
  rcases h with (h | ⟨o, h⟩) | h
  · exact .inl (.inl (e _ _ h))
  · exact .inl (.inr ⟨o, e _ _ h⟩)
  · exact .inr h
/-- an own exception class over ValueError, without an __init__ of its own -/
structure ExcAt (K : PySem.W.Frag) (mg : Str → Option Value) (x : Str) where
  C : Addr
  g : mg x = some (.ref C)
  x : PySem.W.excIn K C [.type "ValueError", .type "Exception", .type "BaseException", .type "object"] "ValueError.__new__" = true
  k : PySem.W.keepIn K (.ref C) = true
  be : PySem.W.subIn K (.ref C) (.type "BaseException") = some true
  ty : PySem.W.typeIn K (.ref C) = some (.type "type")
  is : PySem.W.isClsIn K C = true
  se : PySem.W.subIn K (.ref C) (.ref C) = some true
def NBn : Nat := 10 ^ 200
def NBi : Int := 10 ^ 200
theorem nb_eq : NBi = (NBn : Int) := by decide +kernel

/-! ### an own exception whose __init__ says super().__init__(..) first -/
section
open PySem PySem.Spec PyProof.Rows PySem.W PySem.Calls
/-- what the written part says of the class at C over ValueError, its def's cell and code -/
structure SupC (K : PySem.W.Frag) (C cc cda : Addr) (file : Str) : Prop where
  ex : OexC K C
  cell : ∃ cl cld csl, K.lookup cc = some ⟨cl, cld, .cell (some (.ref C)), csl⟩
  code : ∃ ccl cdd vs tf ccs, K.lookup cda = some ⟨ccl, cdd, .fields vs, ccs⟩ ∧ vs[2]? = some (.str file tf)
  sup : ks_superIn K C C "__init__" = some (some (.builtin "ValueError.__init__"))
  sub : mroIn K C (.ref C) = some true
  subV : subIn K (.ref C) (.type "ValueError") = some true
  st : nsIn K cStatics "thirdparty.any" = some none
/-- ValueError.__init__ bound to an exception being made, called -/
theorem bound_init {P : Program} {w : World} {A : Around} {E : Value → Shared → Prop} {Q : Value → Shared → Prop} {s : Shared} {C u x t0 : Addr} {rest : List Value} {nm q : Str} {N : Addr} {bs bm : List Value} {hd : Bool} {sn : List Str} {sb : List Value} {ab : Bool} {co : Option Bool} {dd : Option Addr} {k0 k1 k2 k3 k5 : Option Value}
    (hC : s.heap.get? C = some (excClassObj nm q C N bs bm hd sn sb ab co dd k0 k1 k2 k3 k5 "ValueError.__new__")) (hx : s.heap.get? x = some (PySem.HandSPX.excO C t0)) (hu : s.heap.get? u = some (kxs_mw "ValueError.__init__" x)) (hr : rest.length ≤ sizeLine)
    (fin : ∀ h' t1, (∀ b o, b ≠ x → s.heap.get? b = some o → h'.get? b = some o) → h'.get? x = some (PySem.HandSPX.excO C t1) → Q .none { s with heap := h' }) : wpAny (model P w) A (call (.ref u) rest) Q E s := by
  obtain ⟨hp, g, d, tk, os⟩ := s
  have FB := F.excBase_ValueError
  refine wpAny_call (codeAny_of_tree ?_)
  show wpAny _ A.in1 (callAny (.ref u) ⟨rest, []⟩) _ _ _
  unfold callAny
  dsimp only
  refine wpAny_bind (wpAny_load hu ?_)
  have m1 : (Value.type "method-wrapper" == Value.type "method" || Value.type "method-wrapper" == Value.type "builtin_function_or_method" || (Value.type "method-wrapper" == Value.type "method-wrapper")) = true := by decide +kernel
  simp only [kxs_mw, m1, if_true]
  refine KFB.if_so (by decide +kernel) (wpAny_bind (check_bound_init FB.toExcCallFacts hC hx rfl ?_))
  refine wpAny_bind (wpAny_pure (wpAny_pure ⟨plainId_quiet FB.init.plain _, codeAny_builtin FB.initEntry ?_⟩))
  refine exc_init_tree (cls := .ref C) (t0 := t0) (dv := none) (c2 := .none) (c3 := .none) (b4 := .bool false) hx hr fun h' k e _ => ?_
  exact fin h' _ k e
end
section
open PySem PySem.Spec PyProof.Rows PySem.W PySem.Calls
variable {X : Cx} {pins : List (Addr × Obj)} {σ : L2.St} {H : Hp} {s : Shared}
/-- super() in such a def, as the base of an attribute -/
theorem super_open {body : List Stmt} {p0 p1 : Pos} {whole : Sem Value} {C cc cda f a : Addr} {file : Str} {fd : FuncData} {oc : Value} {od : Option Addr} {osl : Array (Option Value)} {ar : Arg} (T : SupC X.K C cc cda file)
    (lk : X.K.lookup f = some ⟨oc, od, .func fd, osl⟩) (hp : (fd.params.posonlyargs ++ fd.params.args).head? = some ar) (hfn : X.env.func = some f) (hco : X.env.code = .ref cda) (hce : X.env.cells.lookup ("__class__" : Str) = some cc)
    (hks : X.env.kindOf "super" = some .globalImplicit) (hkc : X.env.kindOf "__class__" = some .free) (hka : X.env.kindOf ar.arg = some .local) (hfile : ((X.prog.main.file : Str) == file) = true) (htop : (X.prog.main.scope.names.lookup ("super" : Str)).isSome = false)
    (hm : X.mg "super" = none) (hN : X.N[0]? = some ar.arg) (hσ : σ[0]? = some (some (.ref a))) (I : Inv X pins σ H s) (e : H a = some (exo a C none)) {Q : Value → Shared → Prop} {E : Value → Shared → Prop}
    (h : ∀ so s', s'.heap.get? so = some (ks_superObj C a C) → s.heap.get? so = none → Inv X pins σ H s' → (∀ b o, s.heap.get? b = some o → s'.heap.get? b = some o) → Q (.ref so) s') :
    _root_.PySem.wpAt (model X.prog X.w) X.A (.func body X.env) (attributeBase (.Call (.Name "super" p0) [] [] p1) "__init__" X.env whole) Q E s := by
  obtain ⟨cl, cld, csl, hcell⟩ := T.cell
  obtain ⟨ccl, cdd, vs, tf, ccs, hcode, hvs⟩ := T.code
  obtain ⟨nm, q, N, bs, bm, sn, sub, ab, col, dd, k0, k1, k2, k3, k5, hC, hbm⟩ := T.ex.cls
  obtain ⟨t0, hx⟩ := exo_at I.hok e
  have KX := I.kIn
  obtain ⟨m, hns, hloc⟩ := I.loc
  have hv : m ar.arg = some (.ref a) := by
    obtain ⟨u, ru, lu⟩ := hloc 0 ar.arg _ hN hσ (.inl hka)
    obtain rfl : u = Value.ref a := ru
    rcases lu with ⟨_, z⟩ | ⟨z, _⟩
    · exact z
    · rw [hka] at z
      rcases z with z | z <;> cases z
  obtain ⟨mb, hb1, hb2⟩ := I.mod.blt
  refine ks_wpAt_super_base hks hkc (by decide +kernel) hfn (KX _ _ lk) rfl hp hco (KX _ _ hcode) rfl hvs hfile htop ?_
  refine ks_loadName_global I.ok.kind hks (loadGlobal_builtin (by rw [I.ok.glob]; exact I.mod.glob.keeps I.bk) hm (by rw [I.ok.blt]; exact hb1.keeps I.bk) ((hb2 _ (by decide)).trans (by decide +kernel)) ⟨rfl, ?_⟩)
  refine wpAny_loadName_free I.ok.kind hkc hce ⟨_, KX _ _ hcell, rfl⟩ ?_
  refine wpAny_loadName_local I.ok.kind hka hns hv ?_
  refine ks_wpAny_isType_cls (KX _ _ hC) rfl ⟨rfl, ?_⟩
  refine ks_wpAny_call_super (KX _ _ hC) rfl hx rfl (fun c z => by cases z) (looks_mroIn KX T.sub) fun h' e' k => ?_
  have J : Inv X pins σ H { s with heap := h', toks := s.toks } := I.kept k
  refine h _ _ e' ?_ J k
  cases z : s.heap.get? s.heap.objs.size with
  | none => rfl
  | some o => exact absurd (Heap.lt_size z) (Nat.lt_irrefl _)
end
section
open PySem PySem.Spec PyProof.Rows PySem.W PySem.Calls
variable {X : Cx} {pins : List (Addr × Obj)} {σ : L2.St} {H : Hp} {s : Shared}
/-- the statement super().__init__(e, ..) -/
theorem super_run {body : List Stmt} {e1 : Expr} {es : List Expr} {ta : TA} {p0 p1 p2 pos pos' : Pos} {C cc cda f a : Addr} {file : Str} {fd : FuncData} {oc : Value} {od : Option Addr} {osl : Array (Option Value)} {ar : Arg} {pl : Sem Bool} (T : SupC X.K C cc cda file)
    (lk : X.K.lookup f = some ⟨oc, od, .func fd, osl⟩) (hp : (fd.params.posonlyargs ++ fd.params.args).head? = some ar) (hfn : X.env.func = some f) (hco : X.env.code = .ref cda) (hce : X.env.cells.lookup ("__class__" : Str) = some cc)
    (hks : X.env.kindOf "super" = some .globalImplicit) (hkc : X.env.kindOf "__class__" = some .free) (hka : X.env.kindOf ar.arg = some .local) (hfile : ((X.prog.main.file : Str) == file) = true) (htop : (X.prog.main.scope.names.lookup ("super" : Str)).isSome = false)
    (hm : X.mg "super" = none) (hN : X.N[0]? = some ar.arg) (hσ : σ[0]? = some (some (.ref a))) (ha : PA X (e1 :: es) ta) (I : Inv X pins σ H s) (e : H a = some (exo a C none))
    {Qn : Hp → Prop} {R : Flow → Shared → Prop} (h : ta σ H fun ws H1 => ws.length ≤ 1000 ∧ H1 a = some (exo a C none) ∧ Qn H1) (fin : ∀ H1 s', Inv X pins σ H1 s' → Qn H1 → R .next s')
    (hi : interactive X.env = false := by rfl)
    (hs : swapsWith (.Call (.Attribute (.Call (.Name "super" p0) [] [] p1) "__init__" p2) (e1 :: es) [] pos) none pos'.line X.env = pure false := by rfl)
    (hev : eval (.Call (.Attribute (.Call (.Name "super" p0) [] [] p1) "__init__" p2) (e1 :: es) [] pos) X.env = (do
        let ov ← attributeBase (.Call (.Name "super" p0) [] [] p1) "__init__" X.env (eval (.Call (.Name "super" p0) [] [] p1) X.env)
        standAt p2.atName
        let (g, first) ← holding [ov] (getMethod ov "__init__" pl)
        callWith pos g first (backTo pos (starEach (e1 :: es) X.env)) []) := by rfl)
    (he : starEach (e1 :: es) X.env = (false, eval e1 X.env) :: starEach es X.env := by rfl) (hpl : (backTo pos (starEach es X.env)).any (·.1) = false := by rfl) :
    _root_.PySem.wpAt (model X.prog X.w) X.A (.func body X.env) (exec (.Expr (.Call (.Attribute (.Call (.Name "super" p0) [] [] p1) "__init__" p2) (e1 :: es) [] pos) pos') X.env) R X.xe s := by
  obtain ⟨nm, q, N, bs, bm, sn, sub, ab, col, dd, k0, k1, k2, k3, k5, hC, hbm⟩ := T.ex.cls
  have hcl : clsIn X.K C = some { name := nm, bases := bs, mro := .ref C :: bm, ns := N, qualname := q, hasDict := true, slotNames := sn, subclasses := sub, abstract := ab, collection := col, hasDel := false } := by unfold clsIn; rw [hC] <;> rfl
  refine ks_wpAt_Expr_any (ks_wpAt_MethodCall ?_ hev) hi hs
  refine super_open T lk hp hfn hco hce hks hkc hka hfile htop hm hN hσ I e fun so s2 hso nso I2 k2 => ?_
  obtain ⟨t0, hx2⟩ := exo_at I2.hok e
  have X2 := I2.kIn
  have hf : alongIn X.K "__init__" (((Value.ref C :: bm).dropWhile (· != .ref C)).drop 1) = some (some (.builtin "ValueError.__init__")) := by
    have := T.sup
    unfold ks_superIn at this
    rw [hcl] at this
    exact this
  have IA : InstAt s2.heap a (PySem.HandSPX.excO C t0) C none := ⟨hx2, rfl, rfl, trivial⟩
  have nCa : a ≠ C := fun z => by
    have h1 := X2 _ _ hC
    rw [← z] at h1
    rw [h1] at hx2
    cases hx2
  have hI : Looks (model X.prog X.w) s2.heap (isInstance (.ref a) (.type "ValueError")) true := IA.type.andThen (looks_subIn X2 T.subV)
  obtain ⟨hh, g, d, tk, os⟩ := s2
  refine kxs_getMethod kxs_ValueError hso (looks_opaque X2 T.st) (l₀ := .ref C :: bm) (fun A Q E s k q => wpAny_bind ((looks_clsIn X2 hcl) A _ E s k (wpAny_pure q))) rfl X2 hf hI nCa (by decide +kernel) ?_
  have hu : (hh.push (kxs_mw "ValueError.__init__" a)).get? hh.objs.size = some (kxs_mw "ValueError.__init__" a) := Heap.get?_push_at rfl rfl
  have J := ClX.pin_new (t' := tk + 1) I2 (fun b o e => Heap.get?_push_of_some _ e) (Nat.le_refl _) hu (fun v z => by cases z)
  show wpAny _ _ (callWith pos (Value.ref hh.objs.size) [] (backTo pos (starEach (e1 :: es) X.env)) []) _ _ _
  have run := thn (ha.run pos _ _ σ H _ J h) fun us s3 (r3 : AP X ((hh.objs.size, kxs_mw "ValueError.__init__" a) :: pins) σ _ us s3) => show KxsAt "ValueError.__init__" hh.objs.size a s3.heap ∧ wpAny (model X.prog X.w) X.A (call (.ref hh.objs.size) us) (fun _ => R .next) X.xe s3 by
    obtain ⟨vs, H1, I3, rv, hz, e3, qn⟩ := r3
    have hp3 := ClX.pin_at I3
    have I4 := ClX.unpin I3
    obtain ⟨t3, hx3⟩ := exo_at I3.hok e3
    refine ⟨hp3, bound_init (I3.kIn _ _ hC) hx3 hp3 (by rw [← Paired.length rv, sizeLine_eq]; omega) fun h' t1 k hx' => ?_⟩
    have J4 := I4.write (t' := s3.toks) (x := a) (e := a) (o := exo a C none) (by rw [e3]; exact True.intro) (.inl rfl) k ⟨_, hx'⟩ (exo_ok hx')
    have eu : upd H1 a (exo a C none) = H1 := by
      funext b
      by_cases hb : b = a
      · rw [hb, upd_same, e3]
      · rw [upd_ne hb]
    rw [eu] at J4
    exact fin H1 _ J4 qn
  rw [he] at run ⊢
  refine kxs_callWith (i := "ValueError.__init__") (x := a) (by show (false || (backTo pos (starEach es X.env)).any fun z => z.1) = false; rw [hpl]; rfl) ?_
  exact evalArgs_plain run
end
section
open PySem PySem.Spec PyProof.Rows PySem.W PySem.Calls NdefX
/-- such an __init__: what the def is made of -/
abbrev supF (name qual : Str) (params : Arguments) (body : List Stmt) (scope : Scope) (cc cda : Addr) : NF := ⟨name, qual, params, body, scope, [("__class__", cc)], cda⟩
theorem fn_super {CX : CXT} {P : Program} {w : World} {K : PySem.W.Frag} {mg : Str → Option Value} {base : Heap} {k : Nat} {f C cc cda : Addr} {file name qual : Str} {params : Arguments} {body : List Stmt} {scope : Scope} {dV kV doc pm ct oc : Value} {an od : Option Addr}
    {osl : Array (Option Value)} {N ps : List Str} {sp : Sp} {ar : Arg} {p0 p1 p2 pos pos' : Pos} {e1 : Expr} {es : List Expr} {rest : List Stmt} {pl : Sem Bool} (T : SupC K C cc cda file) (lk : K.lookup f = some ⟨oc, od, .func (ksFn name qual params body scope dV kV doc pm an (.ref cda) ct cc), osl⟩)
    (hcd : codeIn K (.ref cda) qual = true) (hbd : body = .Expr (.Call (.Attribute (.Call (.Name "super" p0) [] [] p1) "__init__" p2) (e1 :: es) [] pos) pos' :: rest) (S : NScope N ps ["__class__"] scope) (hp : (params.posonlyargs ++ params.args).head? = some ar) (h0 : N[0]? = some ar.arg)
    (hks : scope.names.lookup ("super" : Str) = some .globalImplicit) (hka : scope.names.lookup ar.arg = some .local) (hfile : ((P.main.file : Str) == file) = true) (htop : (P.main.scope.names.lookup ("super" : Str)).isSome = false) (hm : mg "super" = none)
    (len : ∀ vs H Q E, sp vs H Q E → vs.length = ps.length)
    (hev : ∀ env : Env, eval (.Call (.Attribute (.Call (.Name "super" p0) [] [] p1) "__init__" p2) (e1 :: es) [] pos) env = (do
        let ov ← attributeBase (.Call (.Name "super" p0) [] [] p1) "__init__" env (eval (.Call (.Name "super" p0) [] [] p1) env)
        standAt p2.atName
        let (g, first) ← holding [ov] (getMethod ov "__init__" pl)
        callWith pos g first (backTo pos (starEach (e1 :: es) env)) []))
    (hi : ∀ L, interactive (envF (supF name qual params body scope cc cda) f L) = false) (hs : ∀ L, swapsWith (.Call (.Attribute (.Call (.Name "super" p0) [] [] p1) "__init__" p2) (e1 :: es) [] pos) none pos'.line (envF (supF name qual params body scope cc cda) f L) = pure false)
    (he : ∀ env : Env, starEach (e1 :: es) env = (false, eval e1 env) :: starEach es env) (hpl : ∀ env : Env, (backTo pos (starEach es env)).any (·.1) = false)
    (hbody : ∀ (A : Around) (outer : List Env) (s : Shared) (H : Hp) (vs : List V) (Q : VK) (E : XK), Room k (A.deeper (envF (supF name qual params body scope cc cda) f s.heap.objs.size)) → sp vs H Q E →
      ∃ ta t, PA (ncx CX P w K mg base N (supF name qual params body scope cc cda) f A outer s H E) (e1 :: es) ta ∧ PSs (ncx CX P w K mg base N (supF name qual params body scope cc cda) f A outer s H E) rest t ∧ ∃ a, vs[0]? = some (.ref a) ∧ H a = some (exo a C none) ∧
        ta (startF N vs [none]) H fun ws H1 => ws.length ≤ 1000 ∧ H1 a = some (exo a C none) ∧ t { nx := fun _ H' => Q .non H', rt := Q } (startF N vs [none]) H1) :
    FnOk P w K mg base CX (k + 1) f (ksFn name qual params body scope dV kV doc pm an (.ref cda) ct cc) ps sp := by
  refine ⟨len, fun A outer s H args us vs Q E hr e0 hb r hsp => ?_⟩
  have hl := len _ _ _ _ hsp
  have KX : K.In s.heap := e0.mod.kin.keeps fun b o e => (e0.bs b o e).1
  have lim : s.heap.NoLimit := e0.mod.nolimit.keeps fun b o e => (e0.bs b o e).1
  obtain ⟨ta, t, hta, ht, a, ha0, hea, hq⟩ := hbody A outer s H vs Q E (hr.deeper _) hsp
  have CA : CellsAt (supF name qual params body scope cc cda).cl ["__class__"] [none] s.heap H := by
    obtain ⟨cl, cld, csl, hcell⟩ := T.cell
    have lk1 : ∀ y c, ([(("__class__" : Str), cc)] : List (Str × Addr)).lookup y = some c → y = "__class__" ∧ c = cc := fun y c z => by
      have := PySem.mem_of_lookup z
      rw [List.mem_singleton] at this
      exact ⟨congrArg Prod.fst this, congrArg Prod.snd this⟩
    refine ⟨rfl, fun y c z => ?_, fun x y c z1 z2 => (lk1 _ _ z1).1.trans (lk1 _ _ z2).1.symm, fun i y z => ?_⟩
    · obtain ⟨_, rfl⟩ := lk1 _ _ z
      have b1 := e0.bs _ _ (e0.mod.kin _ _ hcell)
      exact ⟨b1.2, _, _, b1.1, rfl⟩
    · have hi0 : i = 0 := by
        have := (List.getElem?_eq_some_iff.mp z).1
        simp at this
        omega
      subst hi0
      cases z
      exact ⟨cc, rfl, fun v e => by cases e⟩
  refine ks_codeAny_call_defAt hr.depth (KX _ _ lk) rfl lim (PySem.W.codeRec_of KX hcd) rfl hb S.nocell (fun ⟨n, _⟩ hy => S.par n (List.of_mem_zip hy).1) (fun h₁ hns kp => ?_) S.co S.gen S.kind
  have I := inv_startN (CX := CX) (E := E) (N := N) (f := f) (F := supF name qual params body scope cc cda) (tk := s.toks + (ps.zip us).length) S hr.hd e0 hl r CA hns kp
  have hσ : (startF N vs [none])[0]? = some (some (.ref a)) := by
    unfold startF
    have h1 := (List.getElem?_eq_some_iff.mp ha0).1
    rw [List.getElem?_append_left (by rw [List.length_map]; exact h1), List.getElem?_map, ha0]; rfl
  generalize hX : ncx CX P w K mg base N (supF name qual params body scope cc cda) f A outer s H E = X at *
  have x1 : X.A = A.deeper (envF (supF name qual params body scope cc cda) f s.heap.objs.size) := by rw [← hX]; rfl
  have x2 : X.env = envF (supF name qual params body scope cc cda) f s.heap.objs.size := by rw [← hX]; rfl
  have x3 : model X.prog X.w = model P w := by rw [← hX]; rfl
  have x4 : ∀ e s', X.xe e s' → wpAny (model P w) (A.deeper (envF (supF name qual params body scope cc cda) f s.heap.objs.size)) (leaving (envF (supF name qual params body scope cc cda) f s.heap.objs.size) e) (fun _ s'' => CX outer H s E e s'') (fun e' s'' => CX outer H s E e' s'') s' := fun e s' z => by rw [← hX] at z; exact z
  have x5 : ∀ {σ' : L2.St} {H' : Hp} {v : V} {u : Value} {s' : Shared}, Inv X [] σ' H' s' → L2.RelV v u → Q v H' → CE outer P w H s Q u s' := fun {σ' H' v u s'} J rv q => by
    rw [← hX] at J
    exact ⟨v, H', J.os, J.bare, J.base, J.hok, rv, q⟩
  refine ks_wpAt_mono (Q := fun fl s' => match fl with | .ret u => CE outer P w H s Q u s' | .next => CE outer P w H s Q .none s' | _ => False) (E := X.xe) ?_ (fun fl s' z => ?_) x4
  · show _root_.PySem.wpAt (model P w) (A.deeper (envF (supF name qual params body scope cc cda) f s.heap.objs.size)) (.func body (envF (supF name qual params body scope cc cda) f s.heap.objs.size)) (execs body (envF (supF name qual params body scope cc cda) f s.heap.objs.size)) _ _ _
    rw [← x1, ← x2, ← x3]
    have xb : execs body X.env = execs (.Expr (.Call (.Attribute (.Call (.Name "super" p0) [] [] p1) "__init__" p2) (e1 :: es) [] pos) pos' :: rest) X.env := by rw [hbd]
    rw [xb]
    refine ks_wpAt_execs_cons ?_
    refine super_run (X := X) (σ := startF N vs [none]) (pins := []) (by rw [← hX]; exact T) (by rw [← hX]; exact lk) hp (by rw [x2]) (by rw [x2]) (by rw [x2]; rfl) (by rw [x2]; exact hks) (by rw [x2]; exact S.frk _ (by simp)) (by rw [x2]; exact hka) (by rw [← hX]; exact hfile) (by rw [← hX]; exact htop) (by rw [← hX]; exact hm) (by rw [← hX]; exact h0) hσ hta I hea hq
      (fun H1 s1 I1 q1 => wpAt_of_wpAny (thn (ht.run [] _ _ _ _ I1 q1) fun fl s' z => ?_)) (by rw [x2]; exact hi _) (by rw [x2]; exact hs _) (hev _) (he _) (hpl _)
    cases fl with
    | ret u =>
      obtain ⟨v, σ', H', J, rv, q⟩ := z
      exact x5 J rv q
    | next =>
      obtain ⟨σ', H', J, q⟩ := z
      exact x5 (v := V.non) J rfl q
    | brk => obtain ⟨_, _, _, q⟩ := z; exact False.elim q
    | cont => obtain ⟨_, _, _, q⟩ := z; exact False.elim q
  · cases fl <;> first | exact z | exact False.elim z
end

theorem bo_sum : bootBuiltins "sum" = some (.builtin "sum") := by decide +kernel
theorem bo_max : bootBuiltins "max" = some (.builtin "max") := by decide +kernel
theorem bo_all : bootBuiltins "all" = some (.builtin "all") := by decide +kernel
theorem bo_any : bootBuiltins "any" = some (.builtin "any") := by decide +kernel
theorem bo_sorted : bootBuiltins "sorted" = some (.builtin "sorted") := by decide +kernel
/-- the place of a digit -/
def PLi : Int := 2 ^ 48
def MKi : Int := 2 ^ 48 - 1
/-- a text of given signs -/
def tx (l : List Nat) : Str := ⟨l.toArray⟩
def namesV : List Str := [tx [120], tx [121], tx [122], tx [119]]
def figuresV : List Str := [tx [48], tx [49], tx [50], tx [51], tx [52], tx [53], tx [54], tx [55], tx [56], tx [57]]
/-- a tuple of the written part, without a dict -/
def WrT (K : PySem.W.Frag) (a : Addr) (xs : List V) : Prop := ∃ o its n, K.lookup a = some o ∧ o.cls = .type "tuple" ∧ o.dict = none ∧ o.data = .seq its n ∧ its.size ≤ sizeLine ∧ Vals xs its.toList
/-! ### the defs of the text: places, slots, scopes -/
def inClass (s : Stmt) (j : Nat) : Stmt := match s with
  | .ClassDef (body := b) .. => b.getD j (.Pass ⟨0, 0, 0, 0⟩)
  | _ => .Pass ⟨0, 0, 0, 0⟩
abbrev s_single_rows : Stmt := topS 6
abbrev N_single_rows : List Str := ["many", "k", "place"]
abbrev P_single_rows : List Str := ["many"]
theorem sc_single_rows : FnScope N_single_rows P_single_rows (defScope s_single_rows) := ⟨rfl, rfl, rfl, by decide +kernel, rfl, by decide +kernel, by decide +kernel⟩

abbrev s_falling_rows : Stmt := topS 7
abbrev N_falling_rows : List Str := ["many", "places", "found", "end", "chosen", "k"]
abbrev P_falling_rows : List Str := ["many", "places"]
theorem sc_falling_rows : FnScope N_falling_rows P_falling_rows (defScope s_falling_rows) := ⟨rfl, rfl, rfl, by decide +kernel, rfl, by decide +kernel, by decide +kernel⟩

abbrev s_rows_of : Stmt := topS 8
abbrev N_rows_of : List Str := ["many", "order", "places"]
abbrev P_rows_of : List Str := ["many", "order"]
theorem sc_rows_of : FnScope N_rows_of P_rows_of (defScope s_rows_of) := ⟨rfl, rfl, rfl, by decide +kernel, rfl, by decide +kernel, by decide +kernel⟩

abbrev s_block_rows : Stmt := topS 9
abbrev N_block_rows : List Str := ["many", "first", "others", "place"]
abbrev P_block_rows : List Str := ["many", "first"]
theorem sc_block_rows : FnScope N_block_rows P_block_rows (defScope s_block_rows) := ⟨rfl, rfl, rfl, by decide +kernel, rfl, by decide +kernel, by decide +kernel⟩

abbrev s_Coding___init__ : Stmt := inClass (topS 10) 0
abbrev N_Coding___init__ : List Str := ["self", "field", "many", "rows", "grades", "marks", "k", "place", "shift"]
abbrev P_Coding___init__ : List Str := ["self", "field", "many", "rows", "grades", "marks"]
theorem sc_Coding___init__ : FnScope N_Coding___init__ P_Coding___init__ (defScope s_Coding___init__) := ⟨rfl, rfl, rfl, by decide +kernel, rfl, by decide +kernel, by decide +kernel⟩

abbrev s_Coding_unit : Stmt := inClass (topS 10) 1
abbrev N_Coding_unit : List Str := ["self", "place", "total", "row"]
abbrev P_Coding_unit : List Str := ["self", "place"]
theorem sc_Coding_unit : FnScope N_Coding_unit P_Coding_unit (defScope s_Coding_unit) := ⟨rfl, rfl, rfl, by decide +kernel, rfl, by decide +kernel, by decide +kernel⟩

abbrev s_Coding_code : Stmt := inClass (topS 10) 2
abbrev N_Coding_code : List Str := ["self", "monomial", "total", "exponent", "unit"]
abbrev P_Coding_code : List Str := ["self", "monomial"]
theorem sc_Coding_code : FnScope N_Coding_code P_Coding_code (defScope s_Coding_code) := ⟨rfl, rfl, rfl, by decide +kernel, rfl, by decide +kernel, by decide +kernel⟩

abbrev s_zero_of : Stmt := topS 18
abbrev N_zero_of : List Str := ["field"]
abbrev P_zero_of : List Str := ["field"]
theorem sc_zero_of : FnScope N_zero_of P_zero_of (defScope s_zero_of) := ⟨rfl, rfl, rfl, by decide +kernel, rfl, by decide +kernel, by decide +kernel⟩

abbrev s_is_zero_in : Stmt := topS 19
abbrev N_is_zero_in : List Str := ["field", "n"]
abbrev P_is_zero_in : List Str := ["field", "n"]
theorem sc_is_zero_in : FnScope N_is_zero_in P_is_zero_in (defScope s_is_zero_in) := ⟨rfl, rfl, rfl, by decide +kernel, rfl, by decide +kernel, by decide +kernel⟩

abbrev s_inverse_modulo : Stmt := topS 20
abbrev N_inverse_modulo : List Str := ["n", "prime", "inverse", "_"]
abbrev P_inverse_modulo : List Str := ["n", "prime"]
theorem sc_inverse_modulo : FnScope N_inverse_modulo P_inverse_modulo (defScope s_inverse_modulo) := ⟨rfl, rfl, rfl, by decide +kernel, rfl, by decide +kernel, by decide +kernel⟩

abbrev s_make_number : Stmt := topS 21
abbrev N_make_number : List Str := ["field", "n", "d", "common"]
abbrev P_make_number : List Str := ["field", "n", "d"]
theorem sc_make_number : FnScope N_make_number P_make_number (defScope s_make_number) := ⟨rfl, rfl, rfl, by decide +kernel, rfl, by decide +kernel, by decide +kernel⟩

abbrev s_add_numbers : Stmt := topS 22
abbrev N_add_numbers : List Str := ["field", "a", "b"]
abbrev P_add_numbers : List Str := ["field", "a", "b"]
theorem sc_add_numbers : FnScope N_add_numbers P_add_numbers (defScope s_add_numbers) := ⟨rfl, rfl, rfl, by decide +kernel, rfl, by decide +kernel, by decide +kernel⟩

abbrev s_as_fraction : Stmt := topS 23
abbrev N_as_fraction : List Str := ["field", "a"]
abbrev P_as_fraction : List Str := ["field", "a"]
theorem sc_as_fraction : FnScope N_as_fraction P_as_fraction (defScope s_as_fraction) := ⟨rfl, rfl, rfl, by decide +kernel, rfl, by decide +kernel, by decide +kernel⟩

abbrev s_is_integer : Stmt := topS 31
abbrev N_is_integer : List Str := ["value"]
abbrev P_is_integer : List Str := ["value"]
theorem sc_is_integer : FnScope N_is_integer P_is_integer (defScope s_is_integer) := ⟨rfl, rfl, rfl, by decide +kernel, rfl, by decide +kernel, by decide +kernel⟩

abbrev s_is_integer_in : Stmt := topS 32
abbrev N_is_integer_in : List Str := ["value", "low", "high"]
abbrev P_is_integer_in : List Str := ["value", "low", "high"]
theorem sc_is_integer_in : FnScope N_is_integer_in P_is_integer_in (defScope s_is_integer_in) := ⟨rfl, rfl, rfl, by decide +kernel, rfl, by decide +kernel, by decide +kernel⟩

abbrev s_is_tuple_of : Stmt := topS 33
abbrev N_is_tuple_of : List Str := ["value", "many"]
abbrev P_is_tuple_of : List Str := ["value", "many"]
theorem sc_is_tuple_of : FnScope N_is_tuple_of P_is_tuple_of (defScope s_is_tuple_of) := ⟨rfl, rfl, rfl, by decide +kernel, rfl, by decide +kernel, by decide +kernel⟩

abbrev s_is_tuple_up_to : Stmt := topS 34
abbrev N_is_tuple_up_to : List Str := ["value", "most"]
abbrev P_is_tuple_up_to : List Str := ["value", "most"]
theorem sc_is_tuple_up_to : FnScope N_is_tuple_up_to P_is_tuple_up_to (defScope s_is_tuple_up_to) := ⟨rfl, rfl, rfl, by decide +kernel, rfl, by decide +kernel, by decide +kernel⟩

abbrev s_is_field : Stmt := topS 35
abbrev N_is_field : List Str := ["value"]
abbrev P_is_field : List Str := ["value"]
theorem sc_is_field : FnScope N_is_field P_is_field (defScope s_is_field) := ⟨rfl, rfl, rfl, by decide +kernel, rfl, by decide +kernel, by decide +kernel⟩

abbrev s_is_fraction : Stmt := topS 36
abbrev N_is_fraction : List Str := ["value"]
abbrev P_is_fraction : List Str := ["value"]
theorem sc_is_fraction : FnScope N_is_fraction P_is_fraction (defScope s_is_fraction) := ⟨rfl, rfl, rfl, by decide +kernel, rfl, by decide +kernel, by decide +kernel⟩

abbrev s_is_number : Stmt := topS 37
abbrev N_is_number : List Str := ["field", "value"]
abbrev P_is_number : List Str := ["field", "value"]
theorem sc_is_number : FnScope N_is_number P_is_number (defScope s_is_number) := ⟨rfl, rfl, rfl, by decide +kernel, rfl, by decide +kernel, by decide +kernel⟩

abbrev s_is_order : Stmt := topS 38
abbrev N_is_order : List Str := ["many", "value"]
abbrev P_is_order : List Str := ["many", "value"]
theorem sc_is_order : FnScope N_is_order P_is_order (defScope s_is_order) := ⟨rfl, rfl, rfl, by decide +kernel, rfl, by decide +kernel, by decide +kernel⟩

abbrev s_is_ring : Stmt := topS 39
abbrev N_is_ring : List Str := ["value", "field", "many", "order"]
abbrev P_is_ring : List Str := ["value"]
theorem sc_is_ring : FnScope N_is_ring P_is_ring (defScope s_is_ring) := ⟨rfl, rfl, rfl, by decide +kernel, rfl, by decide +kernel, by decide +kernel⟩

abbrev s_is_row_of_integers : Stmt := topS 40
abbrev N_is_row_of_integers : List Str := ["value", "many", "low", "high"]
abbrev P_is_row_of_integers : List Str := ["value", "many", "low", "high"]
theorem sc_is_row_of_integers : FnScope N_is_row_of_integers P_is_row_of_integers (defScope s_is_row_of_integers) := ⟨rfl, rfl, rfl, by decide +kernel, rfl, by decide +kernel, by decide +kernel⟩

abbrev s_is_monomial : Stmt := topS 41
abbrev N_is_monomial : List Str := ["many", "value"]
abbrev P_is_monomial : List Str := ["many", "value"]
theorem sc_is_monomial : FnScope N_is_monomial P_is_monomial (defScope s_is_monomial) := ⟨rfl, rfl, rfl, by decide +kernel, rfl, by decide +kernel, by decide +kernel⟩

abbrev s_is_loose_term : Stmt := topS 42
abbrev N_is_loose_term : List Str := ["coding", "value"]
abbrev P_is_loose_term : List Str := ["coding", "value"]
theorem sc_is_loose_term : FnScope N_is_loose_term P_is_loose_term (defScope s_is_loose_term) := ⟨rfl, rfl, rfl, by decide +kernel, rfl, by decide +kernel, by decide +kernel⟩

abbrev s_is_polynomial : Stmt := topS 43
abbrev N_is_polynomial : List Str := ["coding", "value", "zero", "codes", "term"]
abbrev P_is_polynomial : List Str := ["coding", "value"]
theorem sc_is_polynomial : FnScope N_is_polynomial P_is_polynomial (defScope s_is_polynomial) := ⟨rfl, rfl, rfl, by decide +kernel, rfl, by decide +kernel, by decide +kernel⟩

abbrev s_check_ring : Stmt := topS 44
abbrev N_check_ring : List Str := ["value", "field", "many", "order"]
abbrev P_check_ring : List Str := ["value"]
theorem sc_check_ring : FnScope N_check_ring P_check_ring (defScope s_check_ring) := ⟨rfl, rfl, rfl, by decide +kernel, rfl, by decide +kernel, by decide +kernel⟩

abbrev s_check_polynomial : Stmt := topS 45
abbrev N_check_polynomial : List Str := ["coding", "value"]
abbrev P_check_polynomial : List Str := ["coding", "value"]
theorem sc_check_polynomial : FnScope N_check_polynomial P_check_polynomial (defScope s_check_polynomial) := ⟨rfl, rfl, rfl, by decide +kernel, rfl, by decide +kernel, by decide +kernel⟩

abbrev s_sum_of_terms : Stmt := topS 47
abbrev N_sum_of_terms : List Str := ["coding", "terms", "field", "numbers", "number", "monomial", "zero", "kept"]
abbrev P_sum_of_terms : List Str := ["coding", "terms"]
theorem sc_sum_of_terms : FnScope N_sum_of_terms P_sum_of_terms (defScope s_sum_of_terms) := ⟨rfl, rfl, rfl, by decide +kernel, rfl, by decide +kernel, by decide +kernel⟩

abbrev s_write : Stmt := topS 52
abbrev N_write : List Str := ["ring", "p", "coding"]
abbrev P_write : List Str := ["ring", "p"]
theorem sc_write : FnScope N_write P_write (defScope s_write) := ⟨rfl, rfl, rfl, by decide +kernel, rfl, by decide +kernel, by decide +kernel⟩

abbrev s_text_of : Stmt := topS 53
abbrev N_text_of : List Str := ["coding", "p", "text", "number", "monomial"]
abbrev P_text_of : List Str := ["coding", "p"]
theorem sc_text_of : FnScope N_text_of P_text_of (defScope s_text_of) := ⟨rfl, rfl, rfl, by decide +kernel, rfl, by decide +kernel, by decide +kernel⟩

abbrev s_sign_of : Stmt := topS 54
abbrev N_sign_of : List Str := ["field", "number"]
abbrev P_sign_of : List Str := ["field", "number"]
theorem sc_sign_of : FnScope N_sign_of P_sign_of (defScope s_sign_of) := ⟨rfl, rfl, rfl, by decide +kernel, rfl, by decide +kernel, by decide +kernel⟩

abbrev s_term_text : Stmt := topS 55
abbrev N_term_text : List Str := ["field", "number", "monomial", "factors", "name", "exponent", "size"]
abbrev P_term_text : List Str := ["field", "number", "monomial"]
theorem sc_term_text : FnScope N_term_text P_term_text (defScope s_term_text) := ⟨rfl, rfl, rfl, by decide +kernel, rfl, by decide +kernel, by decide +kernel⟩

abbrev s_number_text : Stmt := topS 56
abbrev N_number_text : List Str := ["field", "number", "n", "d"]
abbrev P_number_text : List Str := ["field", "number"]
theorem sc_number_text : FnScope N_number_text P_number_text (defScope s_number_text) := ⟨rfl, rfl, rfl, by decide +kernel, rfl, by decide +kernel, by decide +kernel⟩

abbrev s_power_text : Stmt := topS 57
abbrev N_power_text : List Str := ["name", "exponent"]
abbrev P_power_text : List Str := ["name", "exponent"]
theorem sc_power_text : FnScope N_power_text P_power_text (defScope s_power_text) := ⟨rfl, rfl, rfl, by decide +kernel, rfl, by decide +kernel, by decide +kernel⟩

abbrev s_read : Stmt := topS 58
abbrev N_read : List Str := ["ring", "text", "coding"]
abbrev P_read : List Str := ["ring", "text"]
theorem sc_read : FnScope N_read P_read (defScope s_read) := ⟨rfl, rfl, rfl, by decide +kernel, rfl, by decide +kernel, by decide +kernel⟩

abbrev s_polynomial_of : Stmt := topS 59
abbrev N_polynomial_of : List Str := ["coding", "text"]
abbrev P_polynomial_of : List Str := ["coding", "text"]
theorem sc_polynomial_of : FnScope N_polynomial_of P_polynomial_of (defScope s_polynomial_of) := ⟨rfl, rfl, rfl, by decide +kernel, rfl, by decide +kernel, by decide +kernel⟩

abbrev s_Reader___init__ : Stmt := inClass (topS 60) 0
abbrev N_Reader___init__ : List Str := ["self", "coding", "text"]
abbrev P_Reader___init__ : List Str := ["self", "coding", "text"]
theorem sc_Reader___init__ : FnScope N_Reader___init__ P_Reader___init__ (defScope s_Reader___init__) := ⟨rfl, rfl, rfl, by decide +kernel, rfl, by decide +kernel, by decide +kernel⟩

abbrev s_Reader_ahead : Stmt := inClass (topS 60) 1
abbrev N_Reader_ahead : List Str := ["self"]
abbrev P_Reader_ahead : List Str := ["self"]
theorem sc_Reader_ahead : FnScope N_Reader_ahead P_Reader_ahead (defScope s_Reader_ahead) := ⟨rfl, rfl, rfl, by decide +kernel, rfl, by decide +kernel, by decide +kernel⟩

abbrev s_Reader_passes : Stmt := inClass (topS 60) 2
abbrev N_Reader_passes : List Str := ["self", "sign"]
abbrev P_Reader_passes : List Str := ["self", "sign"]
theorem sc_Reader_passes : FnScope N_Reader_passes P_Reader_passes (defScope s_Reader_passes) := ⟨rfl, rfl, rfl, by decide +kernel, rfl, by decide +kernel, by decide +kernel⟩

abbrev s_Reader_sign : Stmt := inClass (topS 60) 3
abbrev N_Reader_sign : List Str := ["self"]
abbrev P_Reader_sign : List Str := ["self"]
theorem sc_Reader_sign : FnScope N_Reader_sign P_Reader_sign (defScope s_Reader_sign) := ⟨rfl, rfl, rfl, by decide +kernel, rfl, by decide +kernel, by decide +kernel⟩

abbrev s_Reader_terms : Stmt := inClass (topS 60) 4
abbrev N_Reader_terms : List Str := ["self", "found"]
abbrev P_Reader_terms : List Str := ["self"]
theorem sc_Reader_terms : FnScope N_Reader_terms P_Reader_terms (defScope s_Reader_terms) := ⟨rfl, rfl, rfl, by decide +kernel, rfl, by decide +kernel, by decide +kernel⟩

abbrev s_Reader_term : Stmt := inClass (topS 60) 5
abbrev N_Reader_term : List Str := ["self", "sign", "n", "d", "exponents", "_", "going", "upper", "lower"]
abbrev P_Reader_term : List Str := ["self", "sign"]
theorem sc_Reader_term : FnScope N_Reader_term P_Reader_term (defScope s_Reader_term) := ⟨rfl, rfl, rfl, by decide +kernel, rfl, by decide +kernel, by decide +kernel⟩

abbrev s_Reader_power : Stmt := inClass (topS 60) 6
abbrev N_Reader_power : List Str := ["self", "exponents", "start", "index"]
abbrev P_Reader_power : List Str := ["self", "exponents"]
theorem sc_Reader_power : FnScope N_Reader_power P_Reader_power (defScope s_Reader_power) := ⟨rfl, rfl, rfl, by decide +kernel, rfl, by decide +kernel, by decide +kernel⟩

abbrev s_Reader_exponent : Stmt := inClass (topS 60) 7
abbrev N_Reader_exponent : List Str := ["self", "start", "exponent"]
abbrev P_Reader_exponent : List Str := ["self"]
theorem sc_Reader_exponent : FnScope N_Reader_exponent P_Reader_exponent (defScope s_Reader_exponent) := ⟨rfl, rfl, rfl, by decide +kernel, rfl, by decide +kernel, by decide +kernel⟩

abbrev s_Reader_quotient : Stmt := inClass (topS 60) 8
abbrev N_Reader_quotient : List Str := ["self", "_", "n", "start", "d"]
abbrev P_Reader_quotient : List Str := ["self"]
theorem sc_Reader_quotient : FnScope N_Reader_quotient P_Reader_quotient (defScope s_Reader_quotient) := ⟨rfl, rfl, rfl, by decide +kernel, rfl, by decide +kernel, by decide +kernel⟩

abbrev s_Reader_integer : Stmt := inClass (topS 60) 9
abbrev N_Reader_integer : List Str := ["self", "start", "figures", "needless"]
abbrev P_Reader_integer : List Str := ["self"]
theorem sc_Reader_integer : FnScope N_Reader_integer P_Reader_integer (defScope s_Reader_integer) := ⟨rfl, rfl, rfl, by decide +kernel, rfl, by decide +kernel, by decide +kernel⟩

abbrev s_law_taken : Stmt := topS 62
abbrev N_law_taken : List Str := ["row", "many", "found", "cell"]
abbrev P_law_taken : List Str := ["row", "many"]
theorem sc_law_taken : FnScope N_law_taken P_law_taken (defScope s_law_taken) := ⟨rfl, rfl, rfl, by decide +kernel, rfl, by decide +kernel, by decide +kernel⟩

abbrev s_law_pick : Stmt := topS 63
abbrev N_law_pick : List Str := ["row", "things"]
abbrev P_law_pick : List Str := ["row", "things"]
theorem sc_law_pick : FnScope N_law_pick P_law_pick (defScope s_law_pick) := ⟨rfl, rfl, rfl, by decide +kernel, rfl, by decide +kernel, by decide +kernel⟩

abbrev s_law_order : Stmt := topS 64
abbrev N_law_order : List Str := ["row", "many", "some", "at"]
abbrev P_law_order : List Str := ["row", "many"]
theorem sc_law_order : FnScope N_law_order P_law_order (defScope s_law_order) := ⟨rfl, rfl, rfl, by decide +kernel, rfl, by decide +kernel, by decide +kernel⟩

abbrev s_law_ring : Stmt := topS 65
abbrev N_law_ring : List Str := ["row", "many"]
abbrev P_law_ring : List Str := ["row", "many"]
theorem sc_law_ring : FnScope N_law_ring P_law_ring (defScope s_law_ring) := ⟨rfl, rfl, rfl, by decide +kernel, rfl, by decide +kernel, by decide +kernel⟩

abbrev s_law_mono : Stmt := topS 66
abbrev N_law_mono : List Str := ["row", "many", "most", "found", "left", "at"]
abbrev P_law_mono : List Str := ["row", "many", "most"]
theorem sc_law_mono : FnScope N_law_mono P_law_mono (defScope s_law_mono) := ⟨rfl, rfl, rfl, by decide +kernel, rfl, by decide +kernel, by decide +kernel⟩

abbrev s_law_gcd : Stmt := topS 67
abbrev N_law_gcd : List Str := ["a", "b", "turn"]
abbrev P_law_gcd : List Str := ["a", "b"]
theorem sc_law_gcd : FnScope N_law_gcd P_law_gcd (defScope s_law_gcd) := ⟨rfl, rfl, rfl, by decide +kernel, rfl, by decide +kernel, by decide +kernel⟩

abbrev s_law_num : Stmt := topS 68
abbrev N_law_num : List Str := ["field", "n", "d", "k", "shared"]
abbrev P_law_num : List Str := ["field", "n", "d"]
theorem sc_law_num : FnScope N_law_num P_law_num (defScope s_law_num) := ⟨rfl, rfl, rfl, by decide +kernel, rfl, by decide +kernel, by decide +kernel⟩

abbrev s_law_number : Stmt := topS 69
abbrev N_law_number : List Str := ["row", "field"]
abbrev P_law_number : List Str := ["row", "field"]
theorem sc_law_number : FnScope N_law_number P_law_number (defScope s_law_number) := ⟨rfl, rfl, rfl, by decide +kernel, rfl, by decide +kernel, by decide +kernel⟩

abbrev s_law_zero : Stmt := topS 70
abbrev N_law_zero : List Str := ["field"]
abbrev P_law_zero : List Str := ["field"]
theorem sc_law_zero : FnScope N_law_zero P_law_zero (defScope s_law_zero) := ⟨rfl, rfl, rfl, by decide +kernel, rfl, by decide +kernel, by decide +kernel⟩

abbrev s_law_revlex : Stmt := topS 71
abbrev N_law_revlex : List Str := ["mono", "exponent"]
abbrev P_law_revlex : List Str := ["mono"]
theorem sc_law_revlex : FnScope N_law_revlex P_law_revlex (defScope s_law_revlex) := ⟨rfl, rfl, rfl, by decide +kernel, rfl, by decide +kernel, by decide +kernel⟩

abbrev s_law_key : Stmt := topS 72
abbrev N_law_key : List Str := ["order", "mono", "at"]
abbrev P_law_key : List Str := ["order", "mono"]
theorem sc_law_key : FnScope N_law_key P_law_key (defScope s_law_key) := ⟨rfl, rfl, rfl, by decide +kernel, rfl, by decide +kernel, by decide +kernel⟩

abbrev s_law_made : Stmt := topS 73
abbrev N_law_made : List Str := ["ring", "numbers", "some", "mono", "keys", "key"]
abbrev P_law_made : List Str := ["ring", "numbers"]
theorem sc_law_made : FnScope N_law_made P_law_made (defScope s_law_made) := ⟨rfl, rfl, rfl, by decide +kernel, rfl, by decide +kernel, by decide +kernel⟩

abbrev s_law_poly : Stmt := topS 74
abbrev N_law_poly : List Str := ["row", "ring", "terms", "most", "found", "at"]
abbrev P_law_poly : List Str := ["row", "ring", "terms", "most"]
theorem sc_law_poly : FnScope N_law_poly P_law_poly (defScope s_law_poly) := ⟨rfl, rfl, rfl, by decide +kernel, rfl, by decide +kernel, by decide +kernel⟩

abbrev s_law_skip : Stmt := topS 75
abbrev N_law_skip : List Str := ["text", "at", "turn"]
abbrev P_law_skip : List Str := ["text", "at"]
theorem sc_law_skip : FnScope N_law_skip P_law_skip (defScope s_law_skip) := ⟨rfl, rfl, rfl, by decide +kernel, rfl, by decide +kernel, by decide +kernel⟩

abbrev s_law_is_figure : Stmt := topS 76
abbrev N_law_is_figure : List Str := ["text", "at"]
abbrev P_law_is_figure : List Str := ["text", "at"]
theorem sc_law_is_figure : FnScope N_law_is_figure P_law_is_figure (defScope s_law_is_figure) := ⟨rfl, rfl, rfl, by decide +kernel, rfl, by decide +kernel, by decide +kernel⟩

abbrev s_law_integer : Stmt := topS 77
abbrev N_law_integer : List Str := ["text", "at", "end", "turn", "told", "is_right"]
abbrev P_law_integer : List Str := ["text", "at"]
theorem sc_law_integer : FnScope N_law_integer P_law_integer (defScope s_law_integer) := ⟨rfl, rfl, rfl, by decide +kernel, rfl, by decide +kernel, by decide +kernel⟩

abbrev s_law_number_end : Stmt := topS 78
abbrev N_law_number_end : List Str := ["ring", "text", "at", "end", "is_right", "n", "behind", "start", "d"]
abbrev P_law_number_end : List Str := ["ring", "text", "at"]
theorem sc_law_number_end : FnScope N_law_number_end P_law_number_end (defScope s_law_number_end) := ⟨rfl, rfl, rfl, by decide +kernel, rfl, by decide +kernel, by decide +kernel⟩

abbrev s_law_power_end : Stmt := topS 79
abbrev N_law_power_end : List Str := ["text", "at", "degree", "end", "exponent", "behind", "start", "is_right"]
abbrev P_law_power_end : List Str := ["text", "at", "degree"]
theorem sc_law_power_end : FnScope N_law_power_end P_law_power_end (defScope s_law_power_end) := ⟨rfl, rfl, rfl, by decide +kernel, rfl, by decide +kernel, by decide +kernel⟩

abbrev s_law_wrong : Stmt := topS 80
abbrev N_law_wrong : List Str := ["ring", "text", "at", "is_first", "term", "degree", "is_open", "factor", "wrong", "behind"]
abbrev P_law_wrong : List Str := ["ring", "text"]
theorem sc_law_wrong : FnScope N_law_wrong P_law_wrong (defScope s_law_wrong) := ⟨rfl, rfl, rfl, by decide +kernel, rfl, by decide +kernel, by decide +kernel⟩

abbrev s_law_told : Stmt := topS 81
abbrev N_law_told : List Str := ["ring", "text", "found"]
abbrev P_law_told : List Str := ["ring", "text"]
theorem sc_law_told : FnScope N_law_told P_law_told (defScope s_law_told) := ⟨rfl, rfl, rfl, by decide +kernel, rfl, by decide +kernel, by decide +kernel⟩

abbrev s_law_alike : Stmt := topS 82
abbrev N_law_alike : List Str := ["found", "due", "k"]
abbrev P_law_alike : List Str := ["found", "due"]
theorem sc_law_alike : FnScope N_law_alike P_law_alike (defScope s_law_alike) := ⟨rfl, rfl, rfl, by decide +kernel, rfl, by decide +kernel, by decide +kernel⟩

abbrev s_law : Stmt := topS 83
abbrev N_law : List Str := ["script", "row", "many", "ring", "signs", "turn", "text", "at", "change", "sign", "wrong", "told"]
abbrev P_law : List Str := ["script"]
theorem sc_law : FnScope N_law P_law (defScope s_law) := ⟨rfl, rfl, rfl, by decide +kernel, rfl, by decide +kernel, by decide +kernel⟩

/-- the class Coding -/
structure CodAt (K : PySem.W.Frag) (mg : Str → Option Value) where
  C : Addr
  g : mg "Coding" = some (.ref C)
  cls : Cls K C
  aE : Addr
  t_E : ∀ H, SqT K H aE []
  fi : Addr
  fdi : FuncData
  Fi : FunD K "__init__" "Coding.__init__" (defArgs s_Coding___init__) (defBody s_Coding___init__) (defScope s_Coding___init__) [.non, .ref aE] [] fi fdi
  mkr : Mk K C fi
  fu : Addr
  fdu : FuncData
  Fu : Fun K "unit" "Coding.unit" s_Coding_unit fu fdu
  m_unit : Meth K C "unit" fu
  fc : Addr
  fdc : FuncData
  Fc : Fun K "code" "Coding.code" s_Coding_code fc fdc
  m_code : Meth K C "code" fc
  n_field : NoAttr K C "field"
  n_many : NoAttr K C "many"
  n_rows : NoAttr K C "rows"
  n_shifts : NoAttr K C "shifts"
  n_units : NoAttr K C "units"
  n_guard : NoAttr K C "guard"
  n_grades : NoAttr K C "grades"
  n_marks : NoAttr K C "marks"
  n_marked : NoAttr K C "marked"
/-- the class InvalidText -/
abbrev s_Inv_init : Stmt := inClass (topS 16) 0
structure InvAt (K : PySem.W.Frag) (mg : Str → Option Value) where
  C : Addr
  g : mg "InvalidText" = some (.ref C)
  cc : Addr
  cda : Addr
  file : Str
  sup : SupC K C cc cda file
  f : Addr
  fd : FuncData
  lk : ∃ oc od an dV kV doc pm ct osl, fd = PySem.W.ksFn "__init__" "InvalidText.__init__" (defArgs s_Inv_init) (defBody s_Inv_init) (defScope s_Inv_init) dV kV doc pm an (.ref cda) ct cc ∧ dV = .none ∧ K.lookup f = some ⟨oc, od, .func fd, osl⟩
  code : PySem.W.codeIn K (.ref cda) "InvalidText.__init__" = true
  ini : PySem.W.findIn K (.ref C) "__init__" = some (some (.ref f))
  tyI : PySem.W.typeIn K (.ref f) = some (.type "function")
  fld : PySem.W.findIn K (.ref C) "place" = some none
  self : PySem.W.exmOne K (.ref C) (.ref C) = some true
  xf : XfC K C
/-- the class Reader -/
structure RdAt (K : PySem.W.Frag) (mg : Str → Option Value) where
  C : Addr
  g : mg "Reader" = some (.ref C)
  cls : Cls K C
  f___init__ : Addr
  d___init__ : FuncData
  F___init__ : Fun K "__init__" "Reader.__init__" s_Reader___init__ f___init__ d___init__
  mkr : Mk K C f___init__
  f_ahead : Addr
  d_ahead : FuncData
  F_ahead : Fun K "ahead" "Reader.ahead" s_Reader_ahead f_ahead d_ahead
  m_ahead : Meth K C "ahead" f_ahead
  f_passes : Addr
  d_passes : FuncData
  F_passes : Fun K "passes" "Reader.passes" s_Reader_passes f_passes d_passes
  m_passes : Meth K C "passes" f_passes
  f_sign : Addr
  d_sign : FuncData
  F_sign : Fun K "sign" "Reader.sign" s_Reader_sign f_sign d_sign
  m_sign : Meth K C "sign" f_sign
  f_terms : Addr
  d_terms : FuncData
  F_terms : Fun K "terms" "Reader.terms" s_Reader_terms f_terms d_terms
  m_terms : Meth K C "terms" f_terms
  f_term : Addr
  d_term : FuncData
  F_term : Fun K "term" "Reader.term" s_Reader_term f_term d_term
  m_term : Meth K C "term" f_term
  f_power : Addr
  d_power : FuncData
  F_power : Fun K "power" "Reader.power" s_Reader_power f_power d_power
  m_power : Meth K C "power" f_power
  f_exponent : Addr
  d_exponent : FuncData
  F_exponent : Fun K "exponent" "Reader.exponent" s_Reader_exponent f_exponent d_exponent
  m_exponent : Meth K C "exponent" f_exponent
  f_quotient : Addr
  d_quotient : FuncData
  F_quotient : Fun K "quotient" "Reader.quotient" s_Reader_quotient f_quotient d_quotient
  m_quotient : Meth K C "quotient" f_quotient
  f_integer : Addr
  d_integer : FuncData
  F_integer : Fun K "integer" "Reader.integer" s_Reader_integer f_integer d_integer
  m_integer : Meth K C "integer" f_integer
  n_field : NoAttr K C "field"
  n_letters : NoAttr K C "letters"
  n_text : NoAttr K C "text"
  n_place : NoAttr K C "place"
structure Txt (K : PySem.W.Frag) (mg : Str → Option Value) where
  single_rows : DefAt K mg "single_rows" s_single_rows
  falling_rows : DefAt K mg "falling_rows" s_falling_rows
  rows_of : DefAt K mg "rows_of" s_rows_of
  block_rows : DefAt K mg "block_rows" s_block_rows
  zero_of : DefAt K mg "zero_of" s_zero_of
  is_zero_in : DefAt K mg "is_zero_in" s_is_zero_in
  inverse_modulo : DefAt K mg "inverse_modulo" s_inverse_modulo
  make_number : DefAt K mg "make_number" s_make_number
  add_numbers : DefAt K mg "add_numbers" s_add_numbers
  as_fraction : DefAt K mg "as_fraction" s_as_fraction
  is_integer : DefAt K mg "is_integer" s_is_integer
  is_integer_in : DefAt K mg "is_integer_in" s_is_integer_in
  is_tuple_of : DefAt K mg "is_tuple_of" s_is_tuple_of
  is_tuple_up_to : DefAt K mg "is_tuple_up_to" s_is_tuple_up_to
  is_field : DefAt K mg "is_field" s_is_field
  is_fraction : DefAt K mg "is_fraction" s_is_fraction
  is_number : DefAt K mg "is_number" s_is_number
  is_order : DefAt K mg "is_order" s_is_order
  is_ring : DefAt K mg "is_ring" s_is_ring
  is_row_of_integers : DefAt K mg "is_row_of_integers" s_is_row_of_integers
  is_monomial : DefAt K mg "is_monomial" s_is_monomial
  is_loose_term : DefAt K mg "is_loose_term" s_is_loose_term
  is_polynomial : DefAt K mg "is_polynomial" s_is_polynomial
  check_ring : DefAt K mg "check_ring" s_check_ring
  check_polynomial : DefAt K mg "check_polynomial" s_check_polynomial
  sum_of_terms : DefAt K mg "sum_of_terms" s_sum_of_terms
  write : DefAt K mg "write" s_write
  text_of : DefAt K mg "text_of" s_text_of
  sign_of : DefAt K mg "sign_of" s_sign_of
  term_text : DefAt K mg "term_text" s_term_text
  number_text : DefAt K mg "number_text" s_number_text
  power_text : DefAt K mg "power_text" s_power_text
  read : DefAt K mg "read" s_read
  polynomial_of : DefAt K mg "polynomial_of" s_polynomial_of
  law_taken : DefAt K mg "_law_taken" s_law_taken
  law_pick : DefAt K mg "_law_pick" s_law_pick
  law_order : DefAt K mg "_law_order" s_law_order
  law_ring : DefAt K mg "_law_ring" s_law_ring
  law_mono : DefAt K mg "_law_mono" s_law_mono
  law_gcd : DefAt K mg "_law_gcd" s_law_gcd
  law_num : DefAt K mg "_law_num" s_law_num
  law_number : DefAt K mg "_law_number" s_law_number
  law_zero : DefAt K mg "_law_zero" s_law_zero
  law_revlex : DefAt K mg "_law_revlex" s_law_revlex
  law_key : DefAt K mg "_law_key" s_law_key
  law_made : DefAt K mg "_law_made" s_law_made
  law_poly : DefAt K mg "_law_poly" s_law_poly
  law_skip : DefAt K mg "_law_skip" s_law_skip
  law_is_figure : DefAt K mg "_law_is_figure" s_law_is_figure
  law_integer : DefAt K mg "_law_integer" s_law_integer
  law_number_end : DefAt K mg "_law_number_end" s_law_number_end
  law_power_end : DefAt K mg "_law_power_end" s_law_power_end
  law_wrong : DefAt K mg "_law_wrong" s_law_wrong
  law_told : DefAt K mg "_law_told" s_law_told
  law_alike : DefAt K mg "_law_alike" s_law_alike
  law : DefAt K mg "law" s_law
  t_PLACE : Tok
  g_PLACE : mg "PLACE" = some (.int PLi t_PLACE)
  t_MASK : Tok
  g_MASK : mg "MASK" = some (.int MKi t_MASK)
  t_WIDTH : Tok
  g_WIDTH : mg "WIDTH" = some (.int 48 t_WIDTH)
  t_NUMBER_BOUND : Tok
  g_NUMBER_BOUND : mg "NUMBER_BOUND" = some (.int NBi t_NUMBER_BOUND)
  t_MOST_VARIABLES : Tok
  g_MOST_VARIABLES : mg "MOST_VARIABLES" = some (.int 4 t_MOST_VARIABLES)
  t_MOST_WEIGHT : Tok
  g_MOST_WEIGHT : mg "MOST_WEIGHT" = some (.int 20 t_MOST_WEIGHT)
  t_MOST_DEGREE : Tok
  g_MOST_DEGREE : mg "MOST_DEGREE" = some (.int 60 t_MOST_DEGREE)
  t_MOST_TERMS : Tok
  g_MOST_TERMS : mg "MOST_TERMS" = some (.int 500 t_MOST_TERMS)
  t_MOST_FIGURES : Tok
  g_MOST_FIGURES : mg "MOST_FIGURES" = some (.int 60 t_MOST_FIGURES)
  n_len : mg "len" = none
  n_isinstance : mg "isinstance" = none
  n_int : mg "int" = none
  n_bool : mg "bool" = none
  n_str : mg "str" = none
  n_tuple : mg "tuple" = none
  n_list : mg "list" = none
  n_range : mg "range" = none
  n_reversed : mg "reversed" = none
  n_zip : mg "zip" = none
  n_sum : mg "sum" = none
  n_all : mg "all" = none
  n_sorted : mg "sorted" = none
  n_abs : mg "abs" = none
  n_super : mg "super" = none
  Coding : CodAt K mg
  aPRIMES : Addr
  g_PRIMES : mg "PRIMES" = some (.ref aPRIMES)
  t_PRIMES : ∀ H, SqT K H aPRIMES ([2, 3, 5, 7, 11, 13, 17, 19, 23, 29, 31].map V.int)
  g_gcd : mg "gcd" = some (.builtin "math.gcd")
  InvalidText : InvAt K mg
  NotText : ExcAt K mg "NotText"
  Reader : RdAt K mg
  x_NI : PySem.W.exmOne K (.ref NotText.C) (.ref InvalidText.C) = some false
  x_NN : PySem.W.exmOne K (.ref NotText.C) (.ref NotText.C) = some true
  aNAMES : Addr
  g_NAMES : mg "NAMES" = some (.ref aNAMES)
  t_NAMES : WrT K aNAMES (namesV.map V.str)
  aFIGURES : Addr
  g_FIGURES : mg "FIGURES" = some (.ref aFIGURES)
  t_FIGURES : ∀ H, SqT K H aFIGURES (figuresV.map V.str)
section
variable {P : Program} {w : World} {K : PySem.W.Frag} {mg : Str → Option Value} {base : Heap}
theorem b_single_rows (T : Txt K mg) : Binds K T.single_rows.fd P_single_rows [] := T.single_rows.F.binds fun _ _ _ _ _ _ us hl => match us, hl with | [_], _ => rfl
theorem b_falling_rows (T : Txt K mg) : Binds K T.falling_rows.fd P_falling_rows [] := T.falling_rows.F.binds fun _ _ _ _ _ _ us hl => match us, hl with | [_, _], _ => rfl
theorem b_rows_of (T : Txt K mg) : Binds K T.rows_of.fd P_rows_of [] := T.rows_of.F.binds fun _ _ _ _ _ _ us hl => match us, hl with | [_, _], _ => rfl
theorem b_block_rows (T : Txt K mg) : Binds K T.block_rows.fd P_block_rows [] := T.block_rows.F.binds fun _ _ _ _ _ _ us hl => match us, hl with | [_, _], _ => rfl
theorem b_zero_of (T : Txt K mg) : Binds K T.zero_of.fd P_zero_of [] := T.zero_of.F.binds fun _ _ _ _ _ _ us hl => match us, hl with | [_], _ => rfl
theorem b_is_zero_in (T : Txt K mg) : Binds K T.is_zero_in.fd P_is_zero_in [] := T.is_zero_in.F.binds fun _ _ _ _ _ _ us hl => match us, hl with | [_, _], _ => rfl
theorem b_inverse_modulo (T : Txt K mg) : Binds K T.inverse_modulo.fd P_inverse_modulo [] := T.inverse_modulo.F.binds fun _ _ _ _ _ _ us hl => match us, hl with | [_, _], _ => rfl
theorem b_make_number (T : Txt K mg) : Binds K T.make_number.fd P_make_number [] := T.make_number.F.binds fun _ _ _ _ _ _ us hl => match us, hl with | [_, _, _], _ => rfl
theorem b_add_numbers (T : Txt K mg) : Binds K T.add_numbers.fd P_add_numbers [] := T.add_numbers.F.binds fun _ _ _ _ _ _ us hl => match us, hl with | [_, _, _], _ => rfl
theorem b_as_fraction (T : Txt K mg) : Binds K T.as_fraction.fd P_as_fraction [] := T.as_fraction.F.binds fun _ _ _ _ _ _ us hl => match us, hl with | [_, _], _ => rfl
theorem b_is_integer (T : Txt K mg) : Binds K T.is_integer.fd P_is_integer [] := T.is_integer.F.binds fun _ _ _ _ _ _ us hl => match us, hl with | [_], _ => rfl
theorem b_is_integer_in (T : Txt K mg) : Binds K T.is_integer_in.fd P_is_integer_in [] := T.is_integer_in.F.binds fun _ _ _ _ _ _ us hl => match us, hl with | [_, _, _], _ => rfl
theorem b_is_tuple_of (T : Txt K mg) : Binds K T.is_tuple_of.fd P_is_tuple_of [] := T.is_tuple_of.F.binds fun _ _ _ _ _ _ us hl => match us, hl with | [_, _], _ => rfl
theorem b_is_tuple_up_to (T : Txt K mg) : Binds K T.is_tuple_up_to.fd P_is_tuple_up_to [] := T.is_tuple_up_to.F.binds fun _ _ _ _ _ _ us hl => match us, hl with | [_, _], _ => rfl
theorem b_is_field (T : Txt K mg) : Binds K T.is_field.fd P_is_field [] := T.is_field.F.binds fun _ _ _ _ _ _ us hl => match us, hl with | [_], _ => rfl
theorem b_is_fraction (T : Txt K mg) : Binds K T.is_fraction.fd P_is_fraction [] := T.is_fraction.F.binds fun _ _ _ _ _ _ us hl => match us, hl with | [_], _ => rfl
theorem b_is_number (T : Txt K mg) : Binds K T.is_number.fd P_is_number [] := T.is_number.F.binds fun _ _ _ _ _ _ us hl => match us, hl with | [_, _], _ => rfl
theorem b_is_order (T : Txt K mg) : Binds K T.is_order.fd P_is_order [] := T.is_order.F.binds fun _ _ _ _ _ _ us hl => match us, hl with | [_, _], _ => rfl
theorem b_is_ring (T : Txt K mg) : Binds K T.is_ring.fd P_is_ring [] := T.is_ring.F.binds fun _ _ _ _ _ _ us hl => match us, hl with | [_], _ => rfl
theorem b_is_row_of_integers (T : Txt K mg) : Binds K T.is_row_of_integers.fd P_is_row_of_integers [] := T.is_row_of_integers.F.binds fun _ _ _ _ _ _ us hl => match us, hl with | [_, _, _, _], _ => rfl
theorem b_is_monomial (T : Txt K mg) : Binds K T.is_monomial.fd P_is_monomial [] := T.is_monomial.F.binds fun _ _ _ _ _ _ us hl => match us, hl with | [_, _], _ => rfl
theorem b_is_loose_term (T : Txt K mg) : Binds K T.is_loose_term.fd P_is_loose_term [] := T.is_loose_term.F.binds fun _ _ _ _ _ _ us hl => match us, hl with | [_, _], _ => rfl
theorem b_is_polynomial (T : Txt K mg) : Binds K T.is_polynomial.fd P_is_polynomial [] := T.is_polynomial.F.binds fun _ _ _ _ _ _ us hl => match us, hl with | [_, _], _ => rfl
theorem b_check_ring (T : Txt K mg) : Binds K T.check_ring.fd P_check_ring [] := T.check_ring.F.binds fun _ _ _ _ _ _ us hl => match us, hl with | [_], _ => rfl
theorem b_check_polynomial (T : Txt K mg) : Binds K T.check_polynomial.fd P_check_polynomial [] := T.check_polynomial.F.binds fun _ _ _ _ _ _ us hl => match us, hl with | [_, _], _ => rfl
theorem b_sum_of_terms (T : Txt K mg) : Binds K T.sum_of_terms.fd P_sum_of_terms [] := T.sum_of_terms.F.binds fun _ _ _ _ _ _ us hl => match us, hl with | [_, _], _ => rfl
theorem b_write (T : Txt K mg) : Binds K T.write.fd P_write [] := T.write.F.binds fun _ _ _ _ _ _ us hl => match us, hl with | [_, _], _ => rfl
theorem b_text_of (T : Txt K mg) : Binds K T.text_of.fd P_text_of [] := T.text_of.F.binds fun _ _ _ _ _ _ us hl => match us, hl with | [_, _], _ => rfl
theorem b_sign_of (T : Txt K mg) : Binds K T.sign_of.fd P_sign_of [] := T.sign_of.F.binds fun _ _ _ _ _ _ us hl => match us, hl with | [_, _], _ => rfl
theorem b_term_text (T : Txt K mg) : Binds K T.term_text.fd P_term_text [] := T.term_text.F.binds fun _ _ _ _ _ _ us hl => match us, hl with | [_, _, _], _ => rfl
theorem b_number_text (T : Txt K mg) : Binds K T.number_text.fd P_number_text [] := T.number_text.F.binds fun _ _ _ _ _ _ us hl => match us, hl with | [_, _], _ => rfl
theorem b_power_text (T : Txt K mg) : Binds K T.power_text.fd P_power_text [] := T.power_text.F.binds fun _ _ _ _ _ _ us hl => match us, hl with | [_, _], _ => rfl
theorem b_read (T : Txt K mg) : Binds K T.read.fd P_read [] := T.read.F.binds fun _ _ _ _ _ _ us hl => match us, hl with | [_, _], _ => rfl
theorem b_polynomial_of (T : Txt K mg) : Binds K T.polynomial_of.fd P_polynomial_of [] := T.polynomial_of.F.binds fun _ _ _ _ _ _ us hl => match us, hl with | [_, _], _ => rfl
theorem b_law_taken (T : Txt K mg) : Binds K T.law_taken.fd P_law_taken [] := T.law_taken.F.binds fun _ _ _ _ _ _ us hl => match us, hl with | [_, _], _ => rfl
theorem b_law_pick (T : Txt K mg) : Binds K T.law_pick.fd P_law_pick [] := T.law_pick.F.binds fun _ _ _ _ _ _ us hl => match us, hl with | [_, _], _ => rfl
theorem b_law_order (T : Txt K mg) : Binds K T.law_order.fd P_law_order [] := T.law_order.F.binds fun _ _ _ _ _ _ us hl => match us, hl with | [_, _], _ => rfl
theorem b_law_ring (T : Txt K mg) : Binds K T.law_ring.fd P_law_ring [] := T.law_ring.F.binds fun _ _ _ _ _ _ us hl => match us, hl with | [_, _], _ => rfl
theorem b_law_mono (T : Txt K mg) : Binds K T.law_mono.fd P_law_mono [] := T.law_mono.F.binds fun _ _ _ _ _ _ us hl => match us, hl with | [_, _, _], _ => rfl
theorem b_law_gcd (T : Txt K mg) : Binds K T.law_gcd.fd P_law_gcd [] := T.law_gcd.F.binds fun _ _ _ _ _ _ us hl => match us, hl with | [_, _], _ => rfl
theorem b_law_num (T : Txt K mg) : Binds K T.law_num.fd P_law_num [] := T.law_num.F.binds fun _ _ _ _ _ _ us hl => match us, hl with | [_, _, _], _ => rfl
theorem b_law_number (T : Txt K mg) : Binds K T.law_number.fd P_law_number [] := T.law_number.F.binds fun _ _ _ _ _ _ us hl => match us, hl with | [_, _], _ => rfl
theorem b_law_zero (T : Txt K mg) : Binds K T.law_zero.fd P_law_zero [] := T.law_zero.F.binds fun _ _ _ _ _ _ us hl => match us, hl with | [_], _ => rfl
theorem b_law_revlex (T : Txt K mg) : Binds K T.law_revlex.fd P_law_revlex [] := T.law_revlex.F.binds fun _ _ _ _ _ _ us hl => match us, hl with | [_], _ => rfl
theorem b_law_key (T : Txt K mg) : Binds K T.law_key.fd P_law_key [] := T.law_key.F.binds fun _ _ _ _ _ _ us hl => match us, hl with | [_, _], _ => rfl
theorem b_law_made (T : Txt K mg) : Binds K T.law_made.fd P_law_made [] := T.law_made.F.binds fun _ _ _ _ _ _ us hl => match us, hl with | [_, _], _ => rfl
theorem b_law_poly (T : Txt K mg) : Binds K T.law_poly.fd P_law_poly [] := T.law_poly.F.binds fun _ _ _ _ _ _ us hl => match us, hl with | [_, _, _, _], _ => rfl
theorem b_law_skip (T : Txt K mg) : Binds K T.law_skip.fd P_law_skip [] := T.law_skip.F.binds fun _ _ _ _ _ _ us hl => match us, hl with | [_, _], _ => rfl
theorem b_law_is_figure (T : Txt K mg) : Binds K T.law_is_figure.fd P_law_is_figure [] := T.law_is_figure.F.binds fun _ _ _ _ _ _ us hl => match us, hl with | [_, _], _ => rfl
theorem b_law_integer (T : Txt K mg) : Binds K T.law_integer.fd P_law_integer [] := T.law_integer.F.binds fun _ _ _ _ _ _ us hl => match us, hl with | [_, _], _ => rfl
theorem b_law_number_end (T : Txt K mg) : Binds K T.law_number_end.fd P_law_number_end [] := T.law_number_end.F.binds fun _ _ _ _ _ _ us hl => match us, hl with | [_, _, _], _ => rfl
theorem b_law_power_end (T : Txt K mg) : Binds K T.law_power_end.fd P_law_power_end [] := T.law_power_end.F.binds fun _ _ _ _ _ _ us hl => match us, hl with | [_, _, _], _ => rfl
theorem b_law_wrong (T : Txt K mg) : Binds K T.law_wrong.fd P_law_wrong [] := T.law_wrong.F.binds fun _ _ _ _ _ _ us hl => match us, hl with | [_, _], _ => rfl
theorem b_law_told (T : Txt K mg) : Binds K T.law_told.fd P_law_told [] := T.law_told.F.binds fun _ _ _ _ _ _ us hl => match us, hl with | [_, _], _ => rfl
theorem b_law_alike (T : Txt K mg) : Binds K T.law_alike.fd P_law_alike [] := T.law_alike.F.binds fun _ _ _ _ _ _ us hl => match us, hl with | [_, _], _ => rfl
theorem b_law (T : Txt K mg) : Binds K T.law.fd P_law [] := T.law.F.binds fun _ _ _ _ _ _ us hl => match us, hl with | [_], _ => rfl
theorem b_Coding___init__ (T : Txt K mg) : ∃ ds, Vals [V.non, .ref T.Coding.aE] ds ∧ Binds K T.Coding.fdi P_Coding___init__ ds :=
  T.Coding.Fi.binds1 4 0 (by simp) rfl fun Ta kV doc pm an cdv ct us its h1 h2 => match us, its, h1, h2 with | [_, _, _, _], [_, _], _, _ => ⟨_, rfl, rfl⟩
theorem b_Coding_unit (T : Txt K mg) : Binds K T.Coding.fdu P_Coding_unit [] := T.Coding.Fu.binds fun _ _ _ _ _ _ us hl => match us, hl with | [_, _], _ => rfl
theorem b_Coding_code (T : Txt K mg) : Binds K T.Coding.fdc P_Coding_code [] := T.Coding.Fc.binds fun _ _ _ _ _ _ us hl => match us, hl with | [_, _], _ => rfl
theorem b_Reader___init__ (T : Txt K mg) : Binds K T.Reader.d___init__ P_Reader___init__ [] := T.Reader.F___init__.binds fun _ _ _ _ _ _ us hl => match us, hl with | [_, _, _], _ => rfl
theorem b_Reader_ahead (T : Txt K mg) : Binds K T.Reader.d_ahead P_Reader_ahead [] := T.Reader.F_ahead.binds fun _ _ _ _ _ _ us hl => match us, hl with | [_], _ => rfl
theorem b_Reader_passes (T : Txt K mg) : Binds K T.Reader.d_passes P_Reader_passes [] := T.Reader.F_passes.binds fun _ _ _ _ _ _ us hl => match us, hl with | [_, _], _ => rfl
theorem b_Reader_sign (T : Txt K mg) : Binds K T.Reader.d_sign P_Reader_sign [] := T.Reader.F_sign.binds fun _ _ _ _ _ _ us hl => match us, hl with | [_], _ => rfl
theorem b_Reader_terms (T : Txt K mg) : Binds K T.Reader.d_terms P_Reader_terms [] := T.Reader.F_terms.binds fun _ _ _ _ _ _ us hl => match us, hl with | [_], _ => rfl
theorem b_Reader_term (T : Txt K mg) : Binds K T.Reader.d_term P_Reader_term [] := T.Reader.F_term.binds fun _ _ _ _ _ _ us hl => match us, hl with | [_, _], _ => rfl
theorem b_Reader_power (T : Txt K mg) : Binds K T.Reader.d_power P_Reader_power [] := T.Reader.F_power.binds fun _ _ _ _ _ _ us hl => match us, hl with | [_, _], _ => rfl
theorem b_Reader_exponent (T : Txt K mg) : Binds K T.Reader.d_exponent P_Reader_exponent [] := T.Reader.F_exponent.binds fun _ _ _ _ _ _ us hl => match us, hl with | [_], _ => rfl
theorem b_Reader_quotient (T : Txt K mg) : Binds K T.Reader.d_quotient P_Reader_quotient [] := T.Reader.F_quotient.binds fun _ _ _ _ _ _ us hl => match us, hl with | [_], _ => rfl
theorem b_Reader_integer (T : Txt K mg) : Binds K T.Reader.d_integer P_Reader_integer [] := T.Reader.F_integer.binds fun _ _ _ _ _ _ us hl => match us, hl with | [_], _ => rfl
end

/-! ### plain readings: what leaves all that stands as it is, whoever called -/
abbrev Kp (h h' : Heap) : Prop := ∀ b o, h.get? b = some o → h'.get? b = some o
/-- what is known of the heap, and stays known as it grows -/
structure Stay (K : PySem.W.Frag) (mg : Str → Option Value) (Φ : Heap → Prop) : Prop where
  up : ∀ h h', Φ h → Kp h h' → Φ h'
  kin : ∀ h, Φ h → K.In h
  glob : ∀ h, Φ h → h.Ns mainGlobals mg
  blt : ∀ h, Φ h → ∃ mb, h.Ns builtinsNs mb ∧ ∀ x : Str, x ≠ "__name__" → mb x = bootBuiltins x
  lim : ∀ h, Φ h → h.NoLimit
theorem keeps0 (s : Shared) (k : Nat) : Keeps s { s with toks := k } := ⟨s.heap, k, rfl, fun _ _ e => e⟩
theorem keepsT {s s1 s2 : Shared} (a : Keeps s s1) (b : Keeps s1 s2) : Keeps s s2 := by
  obtain ⟨h1, k1, rfl, e1⟩ := a
  obtain ⟨h2, k2, rfl, e2⟩ := b
  exact ⟨h2, k2, rfl, fun x o e => e2 x o (e1 x o e)⟩
theorem keepsH {s s1 : Shared} (a : Keeps s s1) : Kp s.heap s1.heap := by
  obtain ⟨h1, k1, rfl, e1⟩ := a
  exact e1
/-- the places of a reading: the depth and the room below it -/
def PuE (P : Program) (w : World) (Φ : Heap → Prop) (cenv : Env) (m : Str → Option Value) (D U : Nat) (e : Expr) (R : Value → Prop) : Prop :=
  ∀ (A : Around) (E : Value → Shared → Prop) (s : Shared), A.handled = none → A.depth ≤ D → A.units ≤ U → Φ s.heap → s.heap.Ns cenv.locals m →
    wpAny (model P w) A (eval e cenv) (fun y s' => R y ∧ Keeps s s') E s
def PuF (P : Program) (w : World) (Φ : Heap → Prop) (D U : Nat) (f : Addr) (us : List Value) (R : Value → Prop) : Prop :=
  ∀ (A : Around) (s : Shared), A.handled = none → A.depth ≤ D → A.units ≤ U → Φ s.heap →
    codeAny (model P w) A (.call (.ref f) ⟨us, []⟩) (fun r s' => match r with | .ok (.ret y) => R y ∧ Keeps s s' | _ => False) s
/-- the same, however the arguments came -/
def PuG (P : Program) (w : World) (Φ : Heap → Prop) (D U : Nat) (f : Addr) (fd : FuncData) (ps : List Str) (us : List Value) (R : Value → Prop) : Prop :=
  ∀ (A : Around) (s : Shared) (args : Args), BindsTo s fd args (ps.zip us) → A.handled = none → A.depth ≤ D → A.units ≤ U → Φ s.heap →
    codeAny (model P w) A (.call (.ref f) args) (fun r s' => match r with | .ok (.ret y) => R y ∧ Keeps s s' | _ => False) s
structure PuEnv (cenv : Env) : Prop where
  kind : cenv.scope.kind = .function
  glob : cenv.globals = mainGlobals
  blt : cenv.builtins = builtinsNs
section
variable {P : Program} {w : World} {K : PySem.W.Frag} {mg : Str → Option Value} {Φ : Heap → Prop} {cenv : Env} {m : Str → Option Value} {D U : Nat}
theorem PuG.pos {f : Addr} {fd : FuncData} {ps : List Str} {us : List Value} {R : Value → Prop} (h : PuG P w Φ D U f fd ps us R) (S : Stay K mg Φ) (hb : Binds K fd ps []) (hl : us.length = ps.length) : PuF P w Φ D U f us R := fun A s a b c d => by
  have q := hb s us (S.kin _ d) (by rw [List.append_nil]; exact hl)
  rw [List.append_nil] at q
  exact h A s _ q a b c d
/-- a promise from a plain reading -/
theorem fnOk_pu {base : Heap} {CX : CXT} {k : Nat} {f : Addr} {fd : FuncData} {ps : List Str} {sp : Sp} (len : ∀ vs H Q E, sp vs H Q E → vs.length = ps.length)
    (h : ∀ (A : Around) (outer : List Env) (s : Shared) (H : Hp) (us : List Value) (vs : List V) (Q : VK) (E : XK), Room k A → Env0 P w K mg base A outer s H → Vals vs us → sp vs H Q E →
      ∃ (Φ : Heap → Prop) (R : Value → Prop), Φ s.heap ∧ PuG P w Φ A.depth A.units f fd ps us R ∧ ∀ y, R y → ∃ v, RelV v y ∧ Q v H) : FnOk P w K mg base CX k f fd ps sp := by
  refine ⟨len, fun A outer s H args us vs Q E hr he hb hv hs => ?_⟩
  obtain ⟨Φ, R, hφ, hg, hq⟩ := h A outer s H us vs Q E hr he hv hs
  refine codeAny_mono (hg A s args hb hr.hd (Nat.le_refl _) (Nat.le_refl _) hφ) fun r s' q => ?_
  cases r with
  | error e => exact False.elim q
  | ok fl =>
    cases fl with
    | ret u =>
      obtain ⟨q1, h2, tk2, e2, k2⟩ := q
      subst e2
      obtain ⟨v, rv, qv⟩ := hq u q1
      exact ⟨v, H, rfl, he.bare, Un.kept k2, he.hok.kept k2, rv, qv⟩
    | next => exact False.elim q
    | brk => exact False.elim q
    | cont => exact False.elim q
theorem PuE.imp {e : Expr} {R R' : Value → Prop} (h : PuE P w Φ cenv m D U e R) (g : ∀ y, R y → R' y) : PuE P w Φ cenv m D U e R' := fun A E s a b c d f =>
  wpAny_mono (h A E s a b c d f) (fun y s' q => ⟨g y q.1, q.2⟩) fun _ _ x => x
theorem pu_name {x : Str} {u : Value} {pos : Pos} (ev : PuEnv cenv) (hx : cenv.scope.names.lookup x = some .local) (hm : m x = some u) (hd : (x == ("__debug__" : Str)) = false := by decide) : PuE P w Φ cenv m D U (.Name x pos) (· = u) :=
  fun A E s _ _ _ _ hn => wpAny_Name (wpAny_loadName_local ev.kind (show cenv.scope.names.lookup x = some .local from hx) hn hm ⟨rfl, keeps0 s s.toks⟩) hd
theorem pu_glob {x : Str} {u : Value} {pos : Pos} (S : Stay K mg Φ) (ev : PuEnv cenv) (hx : cenv.kindOf x = some .globalImplicit) (hm : mg x = some u) (hd : (x == ("__debug__" : Str)) = false := by decide) : PuE P w Φ cenv m D U (.Name x pos) (· = u) :=
  fun A E s _ _ _ hf _ => Calls.Name_function_global ev.kind hx (Calls.loadGlobal_global (by rw [ev.glob]; exact S.glob _ hf) hm ⟨rfl, keeps0 s s.toks⟩) hd
theorem pu_int {i : Int} {j : Nat} {pos : Pos} : PuE P w Φ cenv m D U (.Constant (.int i) j pos) (fun y => ∃ t, y = .int i t) :=
  fun A E s _ _ _ _ _ => wpAny_Constant_int ⟨⟨_, rfl⟩, keeps0 s _⟩
/-- a and b, bools -/
theorem pu_and {a b : Expr} {pos : Pos} {x y : Bool} (S : Stay K mg Φ) (ha : PuE P w Φ cenv m D U a (· = .bool x)) (hb : x = true → PuE P w Φ cenv m D U b (· = .bool y)) : PuE P w Φ cenv m D U (.BoolOp .And [a, b] pos) (· = .bool (x && y)) := by
  intro A E s h1 h2 h3 hf hn
  refine PyProof.Rows.BoolOp_and (wpAny_mono (ha A E s h1 h2 h3 hf hn) (fun v s1 q => ?_) fun _ _ z => z)
  obtain ⟨rfl, k⟩ := q
  refine wpAny_truthy_bool ?_
  cases x with
  | false => exact ⟨rfl, k⟩
  | true => exact PyProof.Rows.BoolOp_one (wpAny_mono (hb rfl A E s1 h1 h2 h3 (S.up _ _ hf (keepsH k)) (hn.at' fun o e => keepsH k _ o e)) (fun v s2 q => ⟨q.1, keepsT k q.2⟩) fun _ _ z => z)
theorem pu_not {a : Expr} {pos : Pos} {x : Bool} (ha : PuE P w Φ cenv m D U a (· = .bool x)) : PuE P w Φ cenv m D U (.UnaryOp .Not a pos) (· = .bool (!x)) := by
  intro A E s h1 h2 h3 hf hn
  refine PyProof.Rows.UnaryOp_ (wpAny_mono (ha A E s h1 h2 h3 hf hn) (fun v s1 q => ?_) fun _ _ z => z)
  obtain ⟨rfl, k⟩ := q
  exact PyProof.Rows.not_of (wpAny_truthy_bool ⟨rfl, k⟩)
/-- a <= b <= c, ints -/
theorem pu_chain {a b c : Expr} {pos : Pos} {i j k : Int} (S : Stay K mg Φ) (ha : PuE P w Φ cenv m D U a (fun y => ∃ t, y = .int i t)) (hb : PuE P w Φ cenv m D U b (fun y => ∃ t, y = .int j t)) (hc : PuE P w Φ cenv m D U c (fun y => ∃ t, y = .int k t))
    (hm : lastMarks [.LtE, .LtE] [b, c] = false := by with_unfolding_all rfl) : PuE P w Φ cenv m D U (.Compare a [.LtE, .LtE] [b, c] pos) (· = .bool (decide (i ≤ j) && decide (j ≤ k))) := by
  intro A E s h1 h2 h3 hf hn
  refine PyProof.Rows.Compare_chain (wpAny_mono (ha A E s h1 h2 h3 hf hn) (fun v s1 q => ?_) fun _ _ z => z) hm
  obtain ⟨⟨t, rfl⟩, k1⟩ := q
  have hn1 : s1.heap.Ns cenv.locals m := hn.at' fun o e => keepsH k1 _ o e
  refine PyProof.Rows.chain_link (wpAny_mono (hb A E s1 h1 h2 h3 (S.up _ _ hf (keepsH k1)) hn1) (fun v s2 q => ?_) fun _ _ z => z)
  obtain ⟨⟨t2, rfl⟩, k2⟩ := q
  have hn2 : s2.heap.Ns cenv.locals m := hn1.at' fun o e => keepsH k2 _ o e
  refine PyProof.Rows.le_int (wpAny_truthy_bool ?_)
  by_cases z : i ≤ j
  · rw [decide_eq_true z]
    refine PyProof.Rows.ite_tt (PyProof.Rows.chain_last (wpAny_mono (hc A E s2 h1 h2 h3 (S.up _ _ hf (keepsH (keepsT k1 k2))) hn2) (fun v s3 q => ?_) fun _ _ z => z))
    obtain ⟨⟨t3, rfl⟩, k3⟩ := q
    exact PyProof.Rows.le_int ⟨by rw [Bool.true_and], keepsT k1 (keepsT k2 k3)⟩
  · rw [decide_eq_false z]
    exact PyProof.Rows.ite_ff ⟨by rw [Bool.false_and], keepsT k1 k2⟩
theorem pu_lt {a b : Expr} {pos : Pos} {i j : Int} (S : Stay K mg Φ) (ha : PuE P w Φ cenv m D U a (fun y => ∃ t, y = .int i t)) (hb : PuE P w Φ cenv m D U b (fun y => ∃ t, y = .int j t)) (hm : behindInMarks .Lt b = false) : PuE P w Φ cenv m D U (.Compare a [.Lt] [b] pos) (· = .bool (decide (i < j))) := by
  intro A E s h1 h2 h3 hf hn
  refine wpAny_Compare1 (wpAny_mono (ha A E s h1 h2 h3 hf hn) (fun v s1 q => ?_) fun _ _ z => z) hm
  obtain ⟨⟨t, rfl⟩, k1⟩ := q
  refine wpAny_mono (hb A E s1 h1 h2 h3 (S.up _ _ hf (keepsH k1)) (hn.at' fun o e => keepsH k1 _ o e)) (fun v s2 q => ?_) fun _ _ z => z
  obtain ⟨⟨t2, rfl⟩, k2⟩ := q
  exact PyProof.Rows.lt_int ⟨rfl, keepsT k1 k2⟩
/-- a value's kind, as isinstance asks -/
def Isi (K : PySem.W.Frag) (Φ : Heap → Prop) (u : Value) (T : String) (b : Bool) : Prop :=
  ∃ (t : Value) (H : Heap → Prop), PySem.W.KitX K u t H ∧ (∀ h, Φ h → H h) ∧ PySem.W.kitOne K t (.type T) = some b ∧ u ≠ .builtin "__main__.__loader__#opaque"
theorem pu_isi {e : Expr} {T : String} {T' : Str} {p q pos : Pos} {u : Value} {b : Bool} (S : Stay K mg Φ) (ev : PuEnv cenv) (hg : cenv.kindOf "isinstance" = some .globalImplicit) (hm : mg "isinstance" = none) (hT : cenv.kindOf T' = some .globalImplicit) (hmT : mg T' = none) (hv : bootBuiltins T' = some (.type T))
    (ha : PuE P w Φ cenv m D U e (· = u)) (hi : Isi K Φ u T b) (hn' : T' ≠ "__name__" := by decide) (hd : (T' == ("__debug__" : Str)) = false := by decide)
    (he : starEach [e, .Name T' q] cenv = (false, eval e cenv) :: starEach [.Name T' q] cenv := by rfl) (hpl : (backTo pos (starEach [.Name T' q] cenv)).any (·.1) = false := by rfl) :
    PuE P w Φ cenv m D U (.Call (.Name "isinstance" p) [e, .Name T' q] [] pos) (· = .bool b) := by
  intro A E s h1 h2 h3 hf hn
  obtain ⟨mb, b1, b2⟩ := S.blt _ hf
  refine wpAny_Call_Name_kw (Calls.Name_function_global ev.kind hg (Calls.loadGlobal_builtin (by rw [ev.glob]; exact S.glob _ hf) hm (by rw [ev.blt]; exact b1) ((b2 _ (by decide)).trans bo_isinstance) ?_))
  refine PyProof.Rows.callWith_builtin1 ?_ he hpl
  rw [he]
  show wpAny _ _ (spliced ((false, eval e cenv) :: backTo pos (starEach [.Name T' q] cenv))) _ _ s
  refine Calls.spliced_cons (wpAny_mono (ha A E s h1 h2 h3 hf hn) (fun v s1 r => ?_) fun _ _ z => z)
  obtain ⟨rfl, k1⟩ := r
  have hf1 := S.up _ _ hf (keepsH k1)
  obtain ⟨mb1, c1, c2⟩ := S.blt _ hf1
  refine Calls.spliced_cons (Calls.Name_function_global ev.kind hT (Calls.loadGlobal_builtin (by rw [ev.glob]; exact S.glob _ hf1) hmT (by rw [ev.blt]; exact c1) ((c2 _ hn').trans hv) ?_) hd)
  refine Calls.spliced_nil ?_
  obtain ⟨t, HH, Z, hp, ko, hx⟩ := hi
  exact PySem.W.kia_one Z (S.kin _ hf1) (hp _ hf1) ko hx fun tk => ⟨rfl, keepsT k1 (keeps0 s1 tk)⟩
def PuA (P : Program) (w : World) (Φ : Heap → Prop) (cenv : Env) (m : Str → Option Value) (D U : Nat) (es : List Expr) (R : List Value → Prop) : Prop :=
  ∀ (pos : Pos) (A : Around) (E : Value → Shared → Prop) (s : Shared), A.handled = none → A.depth ≤ D → A.units ≤ U → Φ s.heap → s.heap.Ns cenv.locals m →
    wpAny (model P w) A (spliced (backTo pos (starEach es cenv))) (fun us s' => R us ∧ Keeps s s') E s
theorem pua_nil : PuA P w Φ cenv m D U [] (· = []) := fun _ A E s _ _ _ _ _ => Calls.spliced_nil ⟨rfl, keeps0 s s.toks⟩
theorem pua_cons {e : Expr} {es : List Expr} {R : Value → Prop} {Rs : List Value → Prop} (S : Stay K mg Φ) (ha : PuE P w Φ cenv m D U e R) (hr : PuA P w Φ cenv m D U es Rs) (hs : starEach (e :: es) cenv = (false, eval e cenv) :: starEach es cenv := by rfl) :
    PuA P w Φ cenv m D U (e :: es) (fun us => ∃ u vs, us = u :: vs ∧ R u ∧ Rs vs) := by
  intro pos A E s h1 h2 h3 hf hn
  rw [hs]
  show wpAny _ _ (spliced ((false, eval e cenv) :: backTo pos (starEach es cenv))) _ _ s
  refine Calls.spliced_cons (wpAny_mono (ha A E s h1 h2 h3 hf hn) (fun v s1 r => ?_) fun _ _ z => z)
  refine wpAny_mono (hr pos A E s1 h1 h2 h3 (S.up _ _ hf (keepsH r.2)) (hn.at' fun o e => keepsH r.2 _ o e)) (fun vs s2 q => ?_) fun _ _ z => z
  exact ⟨⟨v, vs, rfl, r.1, q.1⟩, keepsT r.2 q.2⟩
theorem pu_call {x : Str} {f : Addr} {e : Expr} {es : List Expr} {p pos : Pos} {R : Value → Prop} {Rs : List Value → Prop} (S : Stay K mg Φ) (ev : PuEnv cenv) (hg : cenv.kindOf x = some .globalImplicit) (hm : mg x = some (.ref f)) (hk : PySem.W.keepIn K (.ref f) = true)
    (ha : PuA P w Φ cenv m D U (e :: es) Rs) (hf : ∀ us, Rs us → PuF P w Φ D U f us R) (hd : (x == ("__debug__" : Str)) = false := by decide) (he : starEach (e :: es) cenv = (false, eval e cenv) :: starEach es cenv := by rfl)
    (hpl : (backTo pos (starEach es cenv)).any (·.1) = false := by rfl) : PuE P w Φ cenv m D U (.Call (.Name x p) (e :: es) [] pos) R := by
  intro A E s h1 h2 h3 hφ hn
  refine wpAny_Call_Name_kw (Calls.Name_function_global ev.kind hg (Calls.loadGlobal_global (by rw [ev.glob]; exact S.glob _ hφ) hm ?_) hd)
  refine PySem.W.callWith_K (h₀ := s.heap) (S.kin _ hφ) hk (wpAny_mono (ha pos A E s h1 h2 h3 hφ hn) (fun us s1 r => ?_) fun _ _ z => z) he hpl
  have hφ1 := S.up _ _ hφ (keepsH r.2)
  refine ⟨S.kin _ hφ1, wpAny_call (codeAny_mono (hf us r.1 A s1 h1 h2 h3 hφ1) fun rr s2 q => ?_)⟩
  cases rr with
  | error e => exact False.elim q
  | ok fl =>
    cases fl with
    | ret u => exact ⟨q.1, keepsT r.2 q.2⟩
    | next => exact False.elim q
    | brk => exact False.elim q
    | cont => exact False.elim q
/-- a def whose body is one return -/
theorem pf_of {x qual : Str} {st : Stmt} {f : Addr} {fd : FuncData} {N ps : List Str} {e : Expr} {rp : Pos} {us : List Value} {R : Value → Prop} (F : Fun K x qual st f fd) (S : FnScope N ps (defScope st)) (Sx : Stay K mg Φ)
    (hl : us.length = ps.length) (hbody : defBody st = [.Return (some e) rp]) (hD : D < recursionLimit)
    (he : ∀ cenv : Env, PuEnv cenv → cenv.scope = defScope st → PuE P w Φ cenv (bindL cenv.kindOf (ps.zip us) fun _ => none) (D + 1) (U + 3) e R) : PuG P w Φ D U f fd ps us R := by
  intro A s args hbb h1 h2 h3 hφ
  obtain ⟨oc, od, kV, doc, pm, an, cdv, ct, osl, rfl, lk, hcd⟩ := F.ex
  have KX : K.In s.heap := Sx.kin _ hφ
  have lim : s.heap.NoLimit := Sx.lim _ hφ
  have hkind : ∀ y ∈ ps.zip us, (defScope st).names.lookup y.1 = some .local ∨ ((defScope st).names.lookup y.1 = some .cell ∧ ((cellsFrom (s.heap.objs.size + 1) (defScope st).names []).lookup y.1).isSome = true) := fun ⟨n, v⟩ hy => by
    rcases S.par n (List.of_mem_zip hy).1 with q | q
    · exact .inl q
    · exact .inr ⟨q, PySem.W.cellsFrom_some _ _ _ (.inl q)⟩
  refine codeAny_call_function (Nat.lt_of_le_of_lt h2 hD) (KX _ _ lk) rfl S.co S.gen rfl (PySem.W.codeRec_of KX hcd) (hbb _ _ _ _ ?_)
  refine wpAny_newFunctionEnv_cells S.kind hkind fun env hen s1 ic => ?_
  subst hen
  refine ⟨lim.keeps ic.toInCall.keep, codeAny_func ?_⟩
  obtain ⟨h1', tk, rfl, hkp⟩ := ic.done
  show wpAny _ _ (execs (defBody st) _) _ _ _
  rw [hbody]
  refine wpAny_execs_cons (wpAny_Return_some (wpAny_mono (he _ ⟨S.kind, rfl, rfl⟩ rfl _ _ _ h1 (by show A.depth + 1 ≤ D + 1; omega) (by show A.units + 3 ≤ U + 3; omega) (Sx.up _ _ hφ hkp) ic.toInCall.ns) (fun y s2 q => ?_) fun _ _ z => z))
  exact ⟨q.1, keepsT ⟨h1', tk, rfl, hkp⟩ q.2⟩
end

/-! ### all(..), any(..) of a generator expression over a tuple: the element a plain reading -/
/-- the element's reading, item by item -/
def EltT (X : Cx) (T : Addr) (sc : Scope) (x : Str) (el : Expr) (xs : List V) (pb : Nat → Bool) (H1 : Hp) : Prop :=
  ∀ (Φ : Heap → Prop) (pins : List (Addr × Obj)) (σ : L2.St) (t1 : Shared) (cenv : Env) (m : Str → Option Value) (i : Nat) (v : V) (u : Value), Stay X.K X.mg Φ → Inv X pins σ H1 t1 →
    (∀ h, Φ h → ∀ b o, b ≠ T → t1.heap.get? b = some o → h.get? b = some o) → PuEnv cenv → cenv.scope = sc → cenv.cells = cloFrom X.env.cells sc.names [] → xs[i]? = some v → RelV v u → m x = some u →
    PuE X.prog X.w Φ cenv m (X.A.depth + 1) (X.A.units + 8) el (· = .bool (pb i))
/-- the generator g, ready for a walk of n bools -/
def Rdy (X : Cx) (pins : List (Addr × Obj)) (σ : L2.St) (H1 : Hp) (T : Addr) (n : Nat) (pb : Nat → Bool) (g : Addr) (t5 : Shared) : Prop :=
  ∃ (fp wr : List Addr) (G : Array GenState → Array GenState → Prop) (F : Nat → Value → Prop) (St : Nat → Shared → Prop),
    WalksS X.prog X.w X.A.in1 g fp wr G n F St ∧ St 0 t5 ∧ TruthOf X.prog X.w X.A.in1 F pb ∧ ∀ t', Moved wr G t5 t' → ∃ H2, GxR.Tabbed T H1 H2 ∧ Inv X pins σ H2 t'
section
variable {X : Cx} {pins : List (Addr × Obj)} {σ : L2.St} {H : Hp} {s : Shared}
/-- the ground of an element: all that stood but the table -/
theorem stay_but {K : PySem.W.Frag} {mg : Str → Option Value} {base : Heap} {T : Addr} {h1 : Heap} (M : Mod K mg base) (hb : ∀ b o, base.get? b = some o → h1.get? b = some o ∧ b ≠ T) :
    Stay K mg fun h => ∀ b o, b ≠ T → h1.get? b = some o → h.get? b = some o := by
  have up : ∀ h : Heap, (∀ b o, b ≠ T → h1.get? b = some o → h.get? b = some o) → ∀ b o, base.get? b = some o → h.get? b = some o := fun h q b o e => q b o (hb b o e).2 (hb b o e).1
  refine ⟨fun h h' q k b o n e => k b o (q b o n e), fun h q => M.kin.keeps (up h q), fun h q => M.glob.keeps (up h q), fun h q => ?_, fun h q => M.nolimit.keeps (up h q)⟩
  obtain ⟨mb, e1, e2⟩ := M.blt
  exact ⟨mb, e1.keeps (up h q), e2⟩
theorem gen_tup {c T : Addr} {elt iter : Expr} {x : Str} {px gpos : Pos} {scope : Scope} {te : TE} {k : Nat} {Q' : Value → Shared → Prop} {R : Nat → (Nat → Bool) → Hp → Prop}
    (hr : Room k X.A) (TB : GxR.TabB X.base X.mg c T) (hcode : X.env.code = .ref c) (S : GxR.GenS X.env scope x) (hi : PE X iter te) (hs : ∀ v, genFold iter X.env v = pure v) (I : Inv X pins σ H s)
    (h : te σ H fun v H1 => ∃ (a : Addr) (xs : List V) (pb : Nat → Bool), v = .ref a ∧ SqT X.K H1 a xs ∧ GxR.TabG H1 T ∧ EltT X T scope x elt xs pb H1 ∧ R xs.length pb H1)
    (hQ' : ∀ n pb H1 g t5, R n pb H1 → Rdy X pins σ H1 T n pb g t5 → Q' (.ref g) t5) :
    wpAny (model X.prog X.w) X.A (eval (.GeneratorExp elt [⟨.Name x px, iter, [], 0⟩] scope gpos) X.env) Q' X.xe s := by
  refine wpAny_GeneratorExp_walksQD hr.hd S.co (closure_ok S.free) S.cell S.dot S.loc S.kind (by have := hr.dp; omega) ?_ hs
  refine thn (hi.run pins s σ H _ I h) fun xv t1 ⟨v, H1, I1, r1, a, xs, pb, ev, hsq, ⟨ps, hT, htri⟩, hel, hQ⟩ => ?_
  subst ev
  cases r1
  obtain ⟨its, rv, htup, hz⟩ := I1.tuple hsq
  have htup' : t1.heap.IsTuple a its.toArray := htup
  have tT : t1.heap.get? T = some { cls := .none, data := .fields ps } := I1.hok T _ hT
  have lT : T < t1.heap.objs.size := Heap.lt_size tT
  have la : a < t1.heap.objs.size := by obtain ⟨o, e, _⟩ := htup; exact Heap.lt_size e
  have naT : a ≠ T := fun e => by
    obtain ⟨o, e1, e2, _⟩ := htup
    rw [e, tT] at e1
    cases e1
    cases e2
  refine wpAny_pyIter_tuple htup' ?_
  obtain ⟨o9, ho9⟩ : ∃ o9 : Obj, o9 = { cls := .type "tuple_iterator", data := .fields #[.ref a, .int 0 0] } := ⟨_, rfl⟩
  rw [← ho9]
  have tT2 : (t1.heap.push o9).get? T = some { cls := .none, data := .fields ps } := Heap.get?_push_of_some _ tT
  have cd : PySem.W.CodeHd (t1.heap.push o9) c T := TB.code.keeps fun b u e => Heap.get?_push_of_some _ (I1.bk b u e)
  have lim2 : (t1.heap.push o9).NoLimit := I1.nolimit.push o9
  have sz2 : (t1.heap.push o9).objs.size = t1.heap.objs.size + 1 := Heap.size_push ..
  have hbT : ∀ b u, X.base.get? b = some u → t1.heap.get? b = some u ∧ b ≠ T := fun b u e => ⟨I1.bk b u e, fun z => by
    have q := (I1.bs b u e).2
    rw [z, hT] at q
    cases q⟩
  have run : ∀ (code : Value) (h3 : Heap) (tk : Nat) (ps' : Array Value), Heap.ExtBut T (t1.heap.push o9) h3 → (t1.heap.push o9).objs.size ≤ h3.objs.size → h3.get? T = some { cls := .none, data := .fields ps' } → (∃ more, ps' = ps ++ more) → TriplesOk ps'.toList →
      wpAny (model X.prog X.w) X.A (builtinsFor X.env.globals X.env.builtins) (fun bi t4 =>
        ∃ Ia fp wr n₀ Pf St₀ pz F, Value.ref t1.heap.objs.size = .ref Ia ∧ (∀ A' : Around, A'.handled = none → Walks X.prog X.w A' Ia fp wr n₀ Pf St₀) ∧ St₀ 0 t4.heap ∧ (∀ b ∈ fp, b < t4.heap.objs.size) ∧ t4.heap.NoLimit ∧ cStatics ∉ wr ∧
          (∀ href : Heap, (∀ b o, t4.heap.get? b = some o → href.get? b = some o) →
            QuietGenD X.prog X.w (genEnv scope (cloFrom X.env.cells scope.names []) t4.heap.objs.size code bi X.env) x [] elt (List.range t4.heap.objs.size) wr Pf pz F href (X.A.depth + 1) (X.A.units + 8)) ∧
          (∀ g0 h₅ tk gs, gs.bare = true → t4.heap.objs.size < g0 → h₅.objs.size = g0 + 1 → (∀ b o, t4.heap.get? b = some o → h₅.get? b = some o) →
            WalksS X.prog X.w X.A.in4 g0 (g0 :: t4.heap.objs.size :: List.range t4.heap.objs.size) (t4.heap.objs.size :: wr) (GenOnlyQ t4.gens.size) (passing pz n₀ 0).length
              (fun j y => ∃ i, (passing pz n₀ 0)[j]? = some i ∧ F i y) (GenAt X.prog X.w X.A.in4 g0 t4.gens.size t4.heap.objs.size (List.range t4.heap.objs.size) wr pz n₀ F) →
            GenAt X.prog X.w X.A.in4 g0 t4.gens.size t4.heap.objs.size (List.range t4.heap.objs.size) wr pz n₀ F 0 { t4 with gens := t4.gens.push gs, toks := tk, heap := h₅ } →
            Q' (.ref g0) { t4 with gens := t4.gens.push gs, toks := tk, heap := h₅ })) X.xe { t1 with heap := h3, toks := tk } := by
    intro code h3 tk ps' hx hsz hT3 hmore ht3
    obtain ⟨bm, ob, e1, e2, e3, e4, e5, e6, e7, e8⟩ := TB.bm
    have hcT : cStatics ≠ T := fun e => by
      obtain ⟨_, ⟨o', es, ep, ho, hd, _⟩, _⟩ := I1.nolimit
      rw [e, tT] at ho
      cases ho
      cases hd
    have hcl : cStatics < t1.heap.objs.size := let ⟨_, hns, _⟩ := I1.nolimit; hns.lt
    have up3 : ∀ b u, b ≠ T → t1.heap.get? b = some u → h3.get? b = some u := fun b u hb e => hx b u hb (Heap.get?_push_of_some _ e)
    have hsz' : t1.heap.objs.size + 1 ≤ h3.objs.size := by rw [← sz2]; exact hsz
    refine wpAny_builtinsFor (m := X.mg) (by rw [I1.ok.glob]; exact ((I1.mod.glob.keeps I1.bk).push o9).extBut hx TB.gP) e1 e2 (up3 _ _ e4 (I1.bk _ _ e5)) e6 e7 e8 ?_
    refine ⟨t1.heap.objs.size, [t1.heap.objs.size, a], [t1.heap.objs.size], its.toArray.size, (fun i v => its.toArray[i]? = some v), (fun i h => h.IsTupleIter t1.heap.objs.size a i ∧ h.IsTuple a its.toArray), (fun _ => true), (fun i y => y = .bool (pb i)), rfl,
      (fun A' hA => Walks.tuple hA _ _ (Nat.ne_of_lt la) _), ⟨⟨o9, ?_, by rw [ho9], by rw [ho9]; rfl⟩, ?_⟩, ?_, lim2.extBut hx hcT, ?_, ?_, ?_⟩
    · exact hx _ _ (Nat.ne_of_gt lT) (Heap.get?_push_size _ (by rw [ho9]; rfl))
    · obtain ⟨o, q1, q2, q3⟩ := htup
      exact ⟨o, up3 a o naT q1, q2, q3⟩
    · intro b hb
      have hb' : b = t1.heap.objs.size ∨ b = a := by simpa using hb
      show b < h3.objs.size
      rcases hb' with z | z
      · rw [z]; exact Nat.lt_of_lt_of_le (Nat.lt_succ_self _) hsz'
      · rw [z]; exact Nat.lt_of_lt_of_le (Nat.lt_succ_of_lt la) hsz'
    · intro z
      have z' : cStatics = t1.heap.objs.size := by simpa using z
      exact Nat.ne_of_lt hcl z'
    · intro href hhref
      have St3 := stay_but (T := T) (h1 := t1.heap) I1.mod hbT
      refine ⟨fun A' E' i v s₂ m₂ _ _ _ hPv hn hm hk => ?_, fun A' E' i v s₂ m₂ hA hD hU hPv hp hn hm hk => ?_⟩
      · simp only [List.forIn_nil]
        exact wpAny_pure ⟨rfl, keeps0 s₂ s₂.toks⟩
      · have hv : its[i]? = some v := by simpa using hPv
        have hi' : i < xs.length := by rw [rv.length]; exact (List.getElem?_eq_some_iff.mp hv).1
        obtain ⟨u, hu, ru⟩ := rv.get (List.getElem?_eq_getElem hi')
        rw [hv] at hu
        cases hu
        refine hel _ pins σ t1 (genEnv scope (cloFrom X.env.cells scope.names []) h3.objs.size code builtinsNs X.env) m₂ i _ v St3 I1 (fun h q => q) ⟨S.kind, I1.ok.glob, rfl⟩ rfl rfl (List.getElem?_eq_getElem hi') ru hm A' E' s₂ hA hD hU ?_ hn
        intro b u hb e
        have e3' := up3 b u hb e
        refine hk b (List.mem_range.mpr (Heap.lt_size e3')) (fun z => ?_) u (hhref b u e3')
        have z' : b = t1.heap.objs.size := by simpa using z
        have hlt := Heap.lt_size e
        rw [z'] at hlt
        exact Nat.lt_irrefl _ hlt
    · intro g h5 tk5 gs hgb hag hsz5 hk5 W5 hat
      simp only [GxR.passing_true, List.length_range] at W5
      have hlen : its.toArray.size = xs.length := by rw [List.size_toArray]; exact rv.length.symm
      rw [hlen] at W5 hat
      refine hQ' xs.length pb H1 g _ hQ ⟨_, _, _, _, _, W5.in4_1, hat, ?_, fun s' hm => ?_⟩
      · intro j y sj Qj Ej hy hQj
        obtain ⟨i, hij, rfl⟩ := hy
        obtain ⟨hj, ej⟩ := List.getElem?_eq_some_iff.mp hij
        rw [List.getElem_range] at ej
        subst ej
        exact wpAny_truthy_bool hQj
      · obtain ⟨more, em⟩ := hmore
        have nwr : ∀ b u, t1.heap.get? b = some u → b ∉ h3.objs.size :: [t1.heap.objs.size] := fun b u e hb => by
          have hl := Heap.lt_size e
          have hb' : b = h3.objs.size ∨ b = t1.heap.objs.size := by simpa using hb
          rcases hb' with z | z
          · rw [z] at hl; exact Nat.lt_irrefl _ (Nat.lt_of_lt_of_le hl (Nat.le_of_succ_le hsz'))
          · rw [z] at hl; exact Nat.lt_irrefl _ hl
        have J := GxR.inv_tab (more := more) (h' := s'.heap) (g' := s'.gens) (d' := s'.drawn) (t' := s'.toks) I1 hT (fun b u hb e => hm.heap b u (nwr b u e) (hk5 b u (up3 b u hb e)))
          (by rw [← em]; exact hm.heap T _ (nwr T _ tT) (hk5 T _ hT3)) (PyProof.Rows.AllBare.movedS (I1.bare.push hgb) hm)
        rw [GxR.sh_eta t1 s' hm.os] at J
        exact ⟨upd H1 T (.tbl (ps ++ more)), ⟨⟨ps ++ more, upd_same, by rw [← em]; exact ht3⟩, fun b hb => upd_ne hb⟩, J⟩
  refine ⟨lim2, ?_⟩
  cases hf : codeAmong gpos ps.toList with
  | none =>
    refine wpAny_genexprCodeX hcode (cd.code tT2 htri) (cd.tab tT2) hf fun c' h' tk hx hge hlt hco' _ htab' _ => ?_
    obtain ⟨_, _, _, _, _, _, _, _, _, _, _, _, _, _, _, _, _, _, _, htr, _⟩ := hco'
    exact run _ h' tk _ hx (Nat.le_trans hge (Nat.le_of_lt hlt)) htab'.2 ⟨_, rfl⟩ htr
  | some cv =>
    refine wpAny_genexprCode_hit hcode (cd.code tT2 htri) hf ?_
    exact run cv (t1.heap.push o9) t1.toks ps (Heap.ExtBut.refl _ _) (Nat.le_refl _) tT2 ⟨#[], by simp⟩ htri
/-- all(elt for x in e), e a tuple: behind it the def's table may have grown -/
def tAllG (X : Cx) (T : Addr) (sc : Scope) (x : Str) (elt : Expr) (te : TE) : TE := fun σ H Q => te σ H fun v H1 => ∃ (a : Addr) (xs : List V) (pb : Nat → Bool), v = .ref a ∧ SqT X.K H1 a xs ∧ GxR.TabG H1 T ∧ EltT X T sc x elt xs pb H1 ∧
  ∀ H2, GxR.Tabbed T H1 H2 → Q (.bl ((List.range xs.length).all pb)) H2
def tAnyG (X : Cx) (T : Addr) (sc : Scope) (x : Str) (elt : Expr) (te : TE) : TE := fun σ H Q => te σ H fun v H1 => ∃ (a : Addr) (xs : List V) (pb : Nat → Bool), v = .ref a ∧ SqT X.K H1 a xs ∧ GxR.TabG H1 T ∧ EltT X T sc x elt xs pb H1 ∧
  ∀ H2, GxR.Tabbed T H1 H2 → Q (.bl ((List.range xs.length).any pb)) H2
theorem pe_allG {c T : Addr} {elt iter : Expr} {x : Str} {px p pos gpos : Pos} {scope : Scope} {te : TE} {k : Nat}
    (hr : Room k X.A) (hg : Gl X "all") (hm : X.mg "all" = none) (hb : bootBuiltins "all" = some (.builtin "all")) (TB : GxR.TabB X.base X.mg c T) (hcode : X.env.code = .ref c) (S : GxR.GenS X.env scope x) (hi : PE X iter te) (hs : ∀ v, genFold iter X.env v = pure v)
    (he : starEach [.GeneratorExp elt [⟨.Name x px, iter, [], 0⟩] scope gpos] X.env = (false, eval (.GeneratorExp elt [⟨.Name x px, iter, [], 0⟩] scope gpos) X.env) :: starEach [] X.env := by rfl) :
    PE X (.Call (.Name "all" p) [.GeneratorExp elt [⟨.Name x px, iter, [], 0⟩] scope gpos] [] pos) (tAllG X T scope x elt te) := by
  refine ⟨fun pins s σ H Q I h => wpAny_Call_Name_kw (ld_blt I hg hm hb (PyProof.Rows.callWith_builtin1 ?_ he (by rfl)))⟩
  rw [he]
  show wpAny _ _ (spliced ((false, eval (.GeneratorExp elt [⟨.Name x px, iter, [], 0⟩] scope gpos) X.env) :: backTo pos (starEach [] X.env))) _ _ s
  refine Calls.spliced_cons (gen_tup (R := fun n pb H1 => ∀ H2, GxR.Tabbed T H1 H2 → Q (.bl ((List.range n).all pb)) H2) hr TB hcode S hi hs I h fun n pb H1 g s5 hR hG => ?_)
  obtain ⟨fp, wr, G, F, St, W, hst, htr, hI⟩ := hG
  refine Calls.spliced_nil (call_all_walkS (W.self 0 _ _ _ hst ⟨g, fp, wr, G, _, F, St, _, rfl, W, hst, htr, fun s' hmv => ?_⟩))
  obtain ⟨H2, hT, J⟩ := hI s' hmv
  exact ⟨.bl _, H2, J, rfl, hR H2 hT⟩
end
/-- the element's reading over zip of two tuples -/
def EltZ (X : Cx) (T : Addr) (sc : Scope) (x y : Str) (el : Expr) (xs ys : List V) (pb : Nat → Bool) (H1 : Hp) : Prop :=
  ∀ (Φ : Heap → Prop) (pins : List (Addr × Obj)) (σ : L2.St) (t1 : Shared) (cenv : Env) (m : Str → Option Value) (i : Nat) (v v2 : V) (u u2 : Value), Stay X.K X.mg Φ → Inv X pins σ H1 t1 →
    (∀ h, Φ h → ∀ b o, b ≠ T → t1.heap.get? b = some o → h.get? b = some o) → PuEnv cenv → cenv.scope = sc → cenv.cells = cloFrom X.env.cells sc.names [] → xs[i]? = some v → RelV v u → m x = some u → ys[i]? = some v2 → RelV v2 u2 → m y = some u2 →
    PuE X.prog X.w Φ cenv m (X.A.depth + 1) (X.A.units + 8) el (· = .bool (pb i))
section
variable {X : Cx} {pins : List (Addr × Obj)} {σ : L2.St} {H : Hp} {s : Shared}
theorem gen_zip {c T : Addr} {elt e e2 : Expr} {x y : Str} {pa pb' pt p zpos gpos : Pos} {kt : Nat} {scope : Scope} {ta : TA} {k : Nat} {Q' : Value → Shared → Prop} {R : Nat → (Nat → Bool) → Hp → Prop}
    (hr : Room k X.A) (TB : GxR.TabB X.base X.mg c T) (hcode : X.env.code = .ref c) (S : GxR.GenS X.env scope x) (hy : scope.names.lookup y = some .local) (hxy : x ≠ y) (hg : Gl X "zip") (hm : X.mg "zip" = none) (ha : PA X [e, e2] ta)
    (hs : ∀ v, genFold (.Call (.Name "zip" p) [e, e2] [] zpos) X.env v = pure v) (I : Inv X pins σ H s)
    (h : ta σ H fun vs H1 => ∃ (a b : Addr) (xs ys : List V) (pb : Nat → Bool), vs = [.ref a, .ref b] ∧ SqT X.K H1 a xs ∧ SqT X.K H1 b ys ∧ GxR.TabG H1 T ∧ EltZ X T scope x y elt xs ys pb H1 ∧ R (min xs.length ys.length) pb H1)
    (hQ' : ∀ n pb H1 g t5, R n pb H1 → Rdy X pins σ H1 T n pb g t5 → Q' (.ref g) t5)
    (hst : starEach [e, e2] X.env = (false, eval e X.env) :: starEach [e2] X.env := by rfl) (hpl : (backTo zpos (starEach [e2] X.env)).any (·.1) = false := by rfl) :
    wpAny (model X.prog X.w) X.A (eval (.GeneratorExp elt [⟨.Tuple [.Name x pa, .Name y pb'] kt pt, .Call (.Name "zip" p) [e, e2] [] zpos, [], 0⟩] scope gpos) X.env) Q' X.xe s := by
  refine wpAny_GeneratorExp_walksQTD hr.hd S.co (closure_ok S.free) S.cell S.dot S.loc hy hxy S.kind (by have := hr.dp; omega) ?_ hs
  refine PyProof.Rows.Call_ (ld_blt I hg hm PyProof.Rows.boot_zip (PyProof.Rows.callWith_type1 (thn (ha.run zpos pins s σ H _ I h) fun us t1 ⟨vs, H1, I1, r1, a, b, xs, ys, pb, ev, hsx, hsy, ⟨ps, hT, htri⟩, hel, hQ⟩ => ?_) hst hpl))
  subst ev
  obtain ⟨u1, u2, rfl, ra, rb⟩ := vals2 r1
  cases ra
  cases rb
  obtain ⟨its, rv, htup, hz⟩ := I1.tuple hsx
  obtain ⟨its2, rv2, htup2, hz2⟩ := I1.tuple hsy
  have tT : t1.heap.get? T = some { cls := .none, data := .fields ps } := I1.hok T _ hT
  have lT : T < t1.heap.objs.size := Heap.lt_size tT
  have la : a < t1.heap.objs.size := by obtain ⟨o, e, _⟩ := htup; exact Heap.lt_size e
  have lb : b < t1.heap.objs.size := by obtain ⟨o, e, _⟩ := htup2; exact Heap.lt_size e
  have naT : a ≠ T := fun e => by
    obtain ⟨o, e1, e2, _⟩ := htup
    rw [e, tT] at e1
    cases e1
    cases e2
  have nbT : b ≠ T := fun e => by
    obtain ⟨o, e1, e2, _⟩ := htup2
    rw [e, tT] at e1
    cases e1
    cases e2
  refine RZ.call_zipT (show t1.heap.IsTuple a its.toArray from htup) (show t1.heap.IsTuple b its2.toArray from htup2) fun h2 hz0 hTI hTO hi1 hi2 hsz2 hk2 => wpAny_pyIter_zip hz0 ?_
  have hlen : its.toArray.size = xs.length := by rw [List.size_toArray]; exact rv.length.symm
  have hlen2 : its2.toArray.size = ys.length := by rw [List.size_toArray]; exact rv2.length.symm
  have tT2 : h2.get? T = some { cls := .none, data := .fields ps } := hk2 _ _ tT
  have cd : PySem.W.CodeHd h2 c T := TB.code.keeps fun b u e => hk2 _ _ (I1.bk b u e)
  have lim2 : h2.NoLimit := I1.nolimit.keeps hk2
  have hbT : ∀ b u, X.base.get? b = some u → t1.heap.get? b = some u ∧ b ≠ T := fun b u e => ⟨I1.bk b u e, fun z => by
    have q := (I1.bs b u e).2
    rw [z, hT] at q
    cases q⟩
  have run : ∀ (code : Value) (h3 : Heap) (tk : Nat) (ps' : Array Value), Heap.ExtBut T h2 h3 → h2.objs.size ≤ h3.objs.size → h3.get? T = some { cls := .none, data := .fields ps' } → (∃ more, ps' = ps ++ more) → TriplesOk ps'.toList →
      wpAny (model X.prog X.w) X.A (builtinsFor X.env.globals X.env.builtins) (fun bi t4 =>
        ∃ Ia fp wr n₀ Pt St₀ Mid pz F, Value.ref (t1.heap.objs.size + 4) = .ref Ia ∧ (∀ A' : Around, A'.handled = none → WalksU X.prog X.w A' Ia fp wr n₀ Pt St₀ Mid) ∧ (∀ i vals, Pt i vals → ∃ va vb, vals = #[va, vb]) ∧ St₀ 0 t4.heap ∧ (∀ b ∈ fp, b < t4.heap.objs.size) ∧ t4.heap.NoLimit ∧ cStatics ∉ wr ∧
          (∀ href : Heap, (∀ b o, t4.heap.get? b = some o → href.get? b = some o) →
            QuietGenTD X.prog X.w (genEnv scope (cloFrom X.env.cells scope.names []) t4.heap.objs.size code bi X.env) x y [] elt (List.range t4.heap.objs.size) wr Pt pz F href (X.A.depth + 1) (X.A.units + 8)) ∧
          (∀ g0 h₅ tk gs, gs.bare = true → t4.heap.objs.size < g0 → h₅.objs.size = g0 + 1 → (∀ b o, t4.heap.get? b = some o → h₅.get? b = some o) →
            WalksS X.prog X.w X.A.in4 g0 (g0 :: t4.heap.objs.size :: List.range t4.heap.objs.size) (t4.heap.objs.size :: wr) (GenOnlyQ t4.gens.size) (passing pz n₀ 0).length
              (fun j y => ∃ i, (passing pz n₀ 0)[j]? = some i ∧ F i y) (GenAt X.prog X.w X.A.in4 g0 t4.gens.size t4.heap.objs.size (List.range t4.heap.objs.size) wr pz n₀ F) →
            GenAt X.prog X.w X.A.in4 g0 t4.gens.size t4.heap.objs.size (List.range t4.heap.objs.size) wr pz n₀ F 0 { t4 with gens := t4.gens.push gs, toks := tk, heap := h₅ } →
            Q' (.ref g0) { t4 with gens := t4.gens.push gs, toks := tk, heap := h₅ })) X.xe { t1 with heap := h3, toks := tk } := by
    intro code h3 tk ps' hx hsz hT3 hmore ht3
    obtain ⟨bm, ob, e1, e2, e3, e4, e5, e6, e7, e8⟩ := TB.bm
    have hcT : cStatics ≠ T := fun e => by
      obtain ⟨_, ⟨o', es, ep, ho, hd, _⟩, _⟩ := I1.nolimit
      rw [e, tT] at ho
      cases ho
      cases hd
    have hcl : cStatics < t1.heap.objs.size := let ⟨_, hns, _⟩ := I1.nolimit; hns.lt
    have up3 : ∀ b u, b ≠ T → t1.heap.get? b = some u → h3.get? b = some u := fun b u hb e => hx b u hb (hk2 _ _ e)
    have hsz' : t1.heap.objs.size + 5 ≤ h3.objs.size := by rw [← hsz2]; exact hsz
    have far : ∀ j : Nat, T ≠ t1.heap.objs.size + j := fun j z => by
      have q : (T : Nat) < t1.heap.objs.size := lT
      rw [z] at q
      exact Nat.lt_irrefl _ (Nat.lt_of_le_of_lt (Nat.le_add_right _ _) q)
    have nea : ∀ j : Nat, a ≠ t1.heap.objs.size + j := fun j z => by
      have q : (a : Nat) < t1.heap.objs.size := la
      rw [z] at q
      exact Nat.lt_irrefl _ (Nat.lt_of_le_of_lt (Nat.le_add_right _ _) q)
    have neb : ∀ j : Nat, b ≠ t1.heap.objs.size + j := fun j z => by
      have q : (b : Nat) < t1.heap.objs.size := lb
      rw [z] at q
      exact Nat.lt_irrefl _ (Nat.lt_of_le_of_lt (Nat.le_add_right _ _) q)
    have nn : ∀ i j : Nat, i ≠ j → (t1.heap.objs.size : Nat) + i ≠ t1.heap.objs.size + j := fun i j q => by omega
    have sep : ZipSep2 (t1.heap.objs.size + 4) (t1.heap.objs.size + 2) (t1.heap.objs.size + 3) t1.heap.objs.size (t1.heap.objs.size + 1) [t1.heap.objs.size, a] [t1.heap.objs.size + 1, b] := by
      have m2 : ∀ {q r t : Addr}, q ≠ r → q ≠ t → q ∉ [r, t] := fun {q r t} z1 z2 z => by
        have z' : q = r ∨ q = t := by simpa using z
        rcases z' with z' | z'
        · exact z1 z'
        · exact z2 z'
      exact ⟨nn 2 4 (by decide), nn 3 4 (by decide), nn 2 3 (by decide), nn 2 0 (by decide), List.mem_cons_self, m2 (nn 4 0 (by decide)) (nea 4).symm, m2 (nn 3 0 (by decide)) (nea 3).symm, nn 2 1 (by decide), List.mem_cons_self, m2 (nn 4 1 (by decide)) (neb 4).symm, m2 (nn 3 1 (by decide)) (neb 3).symm,
        m2 (nn 0 1 (by decide)) (neb 0).symm, m2 (nn 1 0 (by decide)) (nea 1).symm⟩
    refine wpAny_builtinsFor (m := X.mg) (by rw [I1.ok.glob]; exact (I1.mod.glob.keeps fun b u e => hk2 _ _ (I1.bk b u e)).extBut hx TB.gP) e1 e2 (up3 _ _ e4 (I1.bk _ _ e5)) e6 e7 e8 ?_
    refine ⟨t1.heap.objs.size + 4, _, _, _, _, _, _, (fun _ => true), (fun i y => y = .bool (pb i)), rfl,
      (fun A' hA => (WalksT.zipD2 sep (Draws.tuple (A := A'.in1) hA _ _ (nea 0) its.toArray) (Draws.tuple (A := A'.in1) hA _ _ (neb 1) its2.toArray)).toU), ?_, ⟨?_, ?_, ⟨.none, .none, ?_⟩, ⟨?_, ?_⟩, ⟨?_, ?_⟩⟩, ?_, lim2.extBut hx hcT, ?_, ?_, ?_⟩
    · rintro i vals ⟨x1, x2, _, _, rfl⟩
      exact ⟨x1, x2, rfl⟩
    · exact hx _ _ (far 4).symm hz0
    · exact hx _ _ (far 2).symm hTI
    · exact hx _ _ (far 3).symm hTO
    · exact hi1.at fun o q => hx _ _ (far 0).symm q
    · obtain ⟨o, q1, q2, q3⟩ := htup
      exact ⟨o, up3 a o naT q1, q2, q3⟩
    · exact hi2.at fun o q => hx _ _ (far 1).symm q
    · obtain ⟨o, q1, q2, q3⟩ := htup2
      exact ⟨o, up3 b o nbT q1, q2, q3⟩
    · intro q hq
      have hq' : q = t1.heap.objs.size + 4 ∨ q = t1.heap.objs.size + 2 ∨ q = t1.heap.objs.size + 3 ∨ q = t1.heap.objs.size ∨ q = a ∨ q = t1.heap.objs.size + 1 ∨ q = b := by simpa using hq
      have ok : ∀ j : Nat, j < 5 → (t1.heap.objs.size : Nat) + j < h3.objs.size := fun j hj => Nat.lt_of_lt_of_le (Nat.add_lt_add_left hj _) hsz'
      show (q : Nat) < h3.objs.size
      rcases hq' with z | z | z | z | z | z | z
      · rw [z]; exact ok 4 (by decide)
      · rw [z]; exact ok 2 (by decide)
      · rw [z]; exact ok 3 (by decide)
      · rw [z]; exact ok 0 (by decide)
      · rw [z]; exact Nat.lt_trans la (ok 0 (by decide))
      · rw [z]; exact ok 1 (by decide)
      · rw [z]; exact Nat.lt_trans lb (ok 0 (by decide))
    · intro z
      have z' : cStatics = t1.heap.objs.size + 4 ∨ cStatics = t1.heap.objs.size + 3 ∨ cStatics = t1.heap.objs.size ∨ cStatics = t1.heap.objs.size + 1 := by simpa using z
      have no : ∀ j : Nat, cStatics ≠ t1.heap.objs.size + j := fun j z => by
        have q : (cStatics : Nat) < t1.heap.objs.size := hcl
        rw [z] at q
        exact Nat.lt_irrefl _ (Nat.lt_of_le_of_lt (Nat.le_add_right _ _) q)
      rcases z' with z' | z' | z' | z'
      · exact no 4 z'
      · exact no 3 z'
      · exact no 0 z'
      · exact no 1 z'
    · intro href hhref
      have St3 := stay_but (T := T) (h1 := t1.heap) I1.mod hbT
      refine ⟨fun A' E' i va vb s₂ m₂ _ _ _ hPv hn hma hmb hk => ?_, fun A' E' i va vb s₂ m₂ hA hD hU hPv hp hn hma hmb hk => ?_⟩
      · simp only [List.forIn_nil]
        exact wpAny_pure ⟨rfl, keeps0 s₂ s₂.toks⟩
      · obtain ⟨x1, x2, hx1, hx2, exy⟩ := hPv
        have ev : va = x1 ∧ vb = x2 := by
          have q := congrArg Array.toList exy
          simpa using q
        obtain ⟨rfl, rfl⟩ := ev
        have hv : its[i]? = some va := by simpa using hx1
        have hv2 : its2[i]? = some vb := by simpa using hx2
        have hi' : i < xs.length := by rw [rv.length]; exact (List.getElem?_eq_some_iff.mp hv).1
        have hi2' : i < ys.length := by rw [rv2.length]; exact (List.getElem?_eq_some_iff.mp hv2).1
        obtain ⟨u, hu, ru⟩ := rv.get (List.getElem?_eq_getElem hi')
        obtain ⟨u', hu', ru'⟩ := rv2.get (List.getElem?_eq_getElem hi2')
        rw [hv] at hu
        rw [hv2] at hu'
        cases hu
        cases hu'
        refine hel _ pins σ t1 (genEnv scope (cloFrom X.env.cells scope.names []) h3.objs.size code builtinsNs X.env) m₂ i _ _ va vb St3 I1 (fun h q => q) ⟨S.kind, I1.ok.glob, rfl⟩ rfl rfl (List.getElem?_eq_getElem hi') ru hma (List.getElem?_eq_getElem hi2') ru' hmb A' E' s₂ hA hD hU ?_ hn
        intro q u hb e
        have e3' := up3 q u hb e
        refine hk q (List.mem_range.mpr (Heap.lt_size e3')) (fun z => ?_) u (hhref q u e3')
        have z' : q = t1.heap.objs.size + 4 ∨ q = t1.heap.objs.size + 3 ∨ q = t1.heap.objs.size ∨ q = t1.heap.objs.size + 1 := by simpa using z
        have hlt : (q : Nat) < t1.heap.objs.size := Heap.lt_size e
        have no : ∀ j : Nat, q ≠ t1.heap.objs.size + j := fun j z => by
          rw [z] at hlt
          exact Nat.lt_irrefl _ (Nat.lt_of_le_of_lt (Nat.le_add_right _ _) hlt)
        rcases z' with z' | z' | z' | z'
        · exact no 4 z'
        · exact no 3 z'
        · exact no 0 z'
        · exact no 1 z'
    · intro g h5 tk5 gs hgb hag hsz5 hk5 W5 hat
      simp only [GxR.passing_true, List.length_range] at W5
      rw [hlen, hlen2] at W5 hat
      refine hQ' (min xs.length ys.length) pb H1 g _ hQ ⟨_, _, _, _, _, W5.in4_1, hat, ?_, fun s' hm => ?_⟩
      · intro j y sj Qj Ej hy hQj
        obtain ⟨i, hij, rfl⟩ := hy
        obtain ⟨hj, ej⟩ := List.getElem?_eq_some_iff.mp hij
        rw [List.getElem_range] at ej
        subst ej
        exact wpAny_truthy_bool hQj
      · obtain ⟨more, em⟩ := hmore
        have nwr : ∀ b u, t1.heap.get? b = some u → b ∉ h3.objs.size :: [t1.heap.objs.size + 4, t1.heap.objs.size + 3, t1.heap.objs.size, t1.heap.objs.size + 1] := fun b u e hb => by
          have hl : (b : Nat) < t1.heap.objs.size := Heap.lt_size e
          have hb' : b = h3.objs.size ∨ b = t1.heap.objs.size + 4 ∨ b = t1.heap.objs.size + 3 ∨ b = t1.heap.objs.size ∨ b = t1.heap.objs.size + 1 := by simpa using hb
          have no : ∀ j : Nat, b ≠ t1.heap.objs.size + j := fun j z => by
            rw [z] at hl
            exact Nat.lt_irrefl _ (Nat.lt_of_le_of_lt (Nat.le_add_right _ _) hl)
          rcases hb' with z | z | z | z | z
          · rw [z] at hl
            exact Nat.lt_irrefl _ (Nat.lt_of_lt_of_le hl (Nat.le_trans (Nat.le_add_right _ 5) hsz'))
          · exact no 4 z
          · exact no 3 z
          · exact no 0 z
          · exact no 1 z
        have J := GxR.inv_tab (more := more) (h' := s'.heap) (g' := s'.gens) (d' := s'.drawn) (t' := s'.toks) I1 hT (fun b u hb e => hm.heap b u (nwr b u e) (hk5 b u (up3 b u hb e)))
          (by rw [← em]; exact hm.heap T _ (nwr T _ tT) (hk5 T _ hT3)) (PyProof.Rows.AllBare.movedS (I1.bare.push hgb) hm)
        rw [GxR.sh_eta t1 s' hm.os] at J
        exact ⟨upd H1 T (.tbl (ps ++ more)), ⟨⟨ps ++ more, upd_same, by rw [← em]; exact ht3⟩, fun b hb => upd_ne hb⟩, J⟩
  refine ⟨lim2, ?_⟩
  cases hf : codeAmong gpos ps.toList with
  | none =>
    refine wpAny_genexprCodeX hcode (cd.code tT2 htri) (cd.tab tT2) hf fun c' h' tk hx hge hlt hco' _ htab' _ => ?_
    obtain ⟨_, _, _, _, _, _, _, _, _, _, _, _, _, _, _, _, _, _, _, htr, _⟩ := hco'
    exact run _ h' tk _ hx (Nat.le_trans hge (Nat.le_of_lt hlt)) htab'.2 ⟨_, rfl⟩ htr
  | some cv =>
    refine wpAny_genexprCode_hit hcode (cd.code tT2 htri) hf ?_
    exact run cv h2 t1.toks ps (Heap.ExtBut.refl _ _) (Nat.le_refl _) tT2 ⟨#[], by simp⟩ htri
def tAnyZ (X : Cx) (T : Addr) (sc : Scope) (x y : Str) (elt : Expr) (ta : TA) : TE := fun σ H Q => ta σ H fun vs H1 => ∃ (a b : Addr) (xs ys : List V) (pb : Nat → Bool), vs = [.ref a, .ref b] ∧ SqT X.K H1 a xs ∧ SqT X.K H1 b ys ∧ GxR.TabG H1 T ∧ EltZ X T sc x y elt xs ys pb H1 ∧
  ∀ H2, GxR.Tabbed T H1 H2 → Q (.bl ((List.range (min xs.length ys.length)).any pb)) H2
theorem pe_anyZ {c T : Addr} {elt e e2 : Expr} {x y : Str} {pa pb' pt p p' pos zpos gpos : Pos} {kt : Nat} {scope : Scope} {ta : TA} {k : Nat}
    (hr : Room k X.A) (hg : Gl X "any") (hm : X.mg "any" = none) (TB : GxR.TabB X.base X.mg c T) (hcode : X.env.code = .ref c) (S : GxR.GenS X.env scope x) (hy : scope.names.lookup y = some .local) (hxy : x ≠ y) (hgz : Gl X "zip") (hmz : X.mg "zip" = none) (ha : PA X [e, e2] ta)
    (hs : ∀ v, genFold (.Call (.Name "zip" p) [e, e2] [] zpos) X.env v = pure v)
    (hst : starEach [e, e2] X.env = (false, eval e X.env) :: starEach [e2] X.env := by rfl) (hpl : (backTo zpos (starEach [e2] X.env)).any (·.1) = false := by rfl)
    (he : starEach [.GeneratorExp elt [⟨.Tuple [.Name x pa, .Name y pb'] kt pt, .Call (.Name "zip" p) [e, e2] [] zpos, [], 0⟩] scope gpos] X.env = (false, eval (.GeneratorExp elt [⟨.Tuple [.Name x pa, .Name y pb'] kt pt, .Call (.Name "zip" p) [e, e2] [] zpos, [], 0⟩] scope gpos) X.env) :: starEach [] X.env := by rfl) :
    PE X (.Call (.Name "any" p') [.GeneratorExp elt [⟨.Tuple [.Name x pa, .Name y pb'] kt pt, .Call (.Name "zip" p) [e, e2] [] zpos, [], 0⟩] scope gpos] [] pos) (tAnyZ X T scope x y elt ta) := by
  refine ⟨fun pins s σ H Q I h => wpAny_Call_Name_kw (ld_blt I hg hm PyProof.Rows.boot_any (PyProof.Rows.callWith_builtin1 ?_ he (by rfl)))⟩
  rw [he]
  show wpAny _ _ (spliced ((false, eval (.GeneratorExp elt [⟨.Tuple [.Name x pa, .Name y pb'] kt pt, .Call (.Name "zip" p) [e, e2] [] zpos, [], 0⟩] scope gpos) X.env) :: backTo pos (starEach [] X.env))) _ _ s
  refine Calls.spliced_cons (gen_zip (R := fun n pb H1 => ∀ H2, GxR.Tabbed T H1 H2 → Q (.bl ((List.range n).any pb)) H2) hr TB hcode S hy hxy hgz hmz ha hs I h (fun n pb H1 g s5 hR hG => ?_) hst hpl)
  obtain ⟨fp, wr, G, F, St, W, hst, htr, hI⟩ := hG
  refine Calls.spliced_nil (call_any_walkS (W.self 0 _ _ _ hst ⟨g, fp, wr, G, _, F, St, _, rfl, W, hst, htr, fun s' hmv => ?_⟩))
  obtain ⟨H2, hT, J⟩ := hI s' hmv
  exact ⟨.bl _, H2, J, rfl, hR H2 hT⟩
end

/-! ### tuples: sum(t), t * 1, t[::-1] -/
section
variable {X : Cx}
/-- sum(t), t a tuple or a list of ints -/
def rSumS (K : PySem.W.Frag) : List V → Hp → VK → Prop := fun vs H Q => ∃ (a : Addr) (ns : List Int), vs = [V.ref a] ∧ (SqL K H a (ns.map V.int) ∨ SqT K H a (ns.map V.int)) ∧ Q (.int ns.sum) H
theorem cr_sumS (hc : X.calm = true) : CallR X (.builtin "sum") (rSumS X.K) := by
  intro pins s σ H vs us Q I r h
  obtain ⟨a, ns, rfl, hs, q⟩ := h
  rcases hs with hs | hs
  · exact cr_sum hc pins s σ H [.ref a] us Q I r ⟨a, ns, rfl, hs, q⟩
  · obtain ⟨its, rv, hl, _⟩ := I.tuple hs
    rw [Vals.ref1 r]
    have hi := intsAre_of rv
    obtain ⟨xs, e⟩ := hi.allInts.items
    have hn : numsOf (intItems xs).toList = ns := by rw [← e]; exact hi.numsOf
    rw [nums_intItems] at hn
    have hl' : s.heap.IsTuple a (intItems xs) := by rw [← e]; exact hl
    refine PySem.W.ktm_sumG (I.ok.hd hc) hl' fun h' tk t' hk => ⟨.int ns.sum, H, I.kept hk, ?_, q⟩
    rw [preSum_eq, List.take_of_length_le (by simp), hn]
    exact ⟨t', rfl⟩
theorem adjust_rev (n : Nat) : Builtin.Slice.sliceAdjust none none (-1) (n : Int) = ((n : Int) - 1, -1) := rfl
theorem places_rev (n : Nat) : Builtin.Slice.slicePlaces ((n : Int) - 1) (-1) (-1) = n := by
  unfold Builtin.Slice.slicePlaces
  rw [if_neg (by omega)]
  split
  · have e : ((n : Int) - 1 - -1 - 1) / (- -1) = (n : Int) - 1 := by
      rw [show (- -1 : Int) = 1 from rfl, Int.ediv_one]; omega
    rw [e]; omega
  · omega
theorem pick_revL : ∀ (l : List Value), ((List.range l.length).filterMap fun (k : Nat) => l[l.length - 1 - k]?) = l.reverse
  | [] => rfl
  | v :: l => by
    have e : ((List.range l.length).filterMap fun (k : Nat) => (v :: l)[l.length - k]?) = (List.range l.length).filterMap fun (k : Nat) => l[l.length - 1 - k]? := by
      have go : ∀ (m : List Nat), (∀ k ∈ m, k < l.length) → (m.filterMap fun (k : Nat) => (v :: l)[l.length - k]?) = m.filterMap fun (k : Nat) => l[l.length - 1 - k]? := by
        intro m
        induction m with
        | nil => intro _; rfl
        | cons k m ih =>
          intro hm
          have hk := hm k (by simp)
          have e3 : (v :: l)[l.length - k]? = l[l.length - 1 - k]? := by
            rw [show l.length - k = (l.length - 1 - k) + 1 by omega, List.getElem?_cons_succ]
          rw [List.filterMap_cons, List.filterMap_cons, e3, ih fun q hq => hm q (by simp [hq])]
      exact go _ fun k hk => List.mem_range.mp hk
    have e0 : ((List.range (v :: l).length).filterMap fun (k : Nat) => (v :: l)[(v :: l).length - 1 - k]?) = ((List.range (l.length + 1)).filterMap fun (k : Nat) => (v :: l)[l.length - k]?) := rfl
    rw [e0, List.range_succ, List.filterMap_append, e, pick_revL l]
    simp
theorem pick_rev (xs : Array Value) : ((List.range xs.size).filterMap fun (k : Nat) => xs[((xs.size : Int) - 1 + (k : Int) * -1).toNat]?).toArray = xs.toList.reverse.toArray := by
  have e : (fun (k : Nat) => xs[((xs.size : Int) - 1 + (k : Int) * -1).toNat]?) = fun (k : Nat) => if (k : Int) ≤ (xs.size : Int) - 1 then xs.toList[xs.toList.length - 1 - k]? else xs[0]? := by
    funext k
    by_cases hk : (k : Int) ≤ (xs.size : Int) - 1
    · rw [if_pos hk, Array.getElem?_toList, Array.length_toList]
      congr 1
      omega
    · rw [if_neg hk]
      congr 1
      omega
  rw [e]
  have go : ∀ (m : List Nat), (∀ k ∈ m, k < xs.size) → (m.filterMap fun (k : Nat) => if (k : Int) ≤ (xs.size : Int) - 1 then xs.toList[xs.toList.length - 1 - k]? else xs[0]?) = m.filterMap fun (k : Nat) => xs.toList[xs.toList.length - 1 - k]? := by
    intro m
    induction m with
    | nil => intro _; rfl
    | cons k m ih =>
      intro hm
      have hk := hm k (by simp)
      rw [List.filterMap_cons, List.filterMap_cons, if_pos (by omega), ih fun q hq => hm q (by simp [hq])]
  rw [go _ fun k hk => List.mem_range.mp hk]
  have := pick_revL xs.toList
  rw [Array.length_toList] at this ⊢
  rw [this]
def tRevT (K : PySem.W.Frag) (te : TE) : TE := fun σ H Q => te σ H fun x H1 => ∃ a xs, x = .ref a ∧ SqT K H1 a xs ∧ ∀ p, H1 p = none → Q (.ref p) (upd H1 p (.tup xs.reverse))
theorem pe_revT {e : Expr} {te : TE} {j : Nat} {p1 p2 p3 pos : Pos} (he : PE X e te) : PE X (.Subscript e (.Slice none none (some (.UnaryOp .USub (.Constant (.int 1) j p1) p2)) p3) pos) (tRevT X.K te) := by
  refine ⟨fun pins s σ H Q I h => ?_⟩
  refine PyProof.Rows.Subscript_ (thn (he.run pins s σ H _ I h) fun v s1 ⟨x, H1, I1, r1, a, xs, ex, hs, q⟩ => ?_)
  subst ex
  cases r1
  obtain ⟨its, rv, htup, hz⟩ := I1.tuple hs
  refine wpAny_Slice ?_
  rw [evalPart_none, evalPart_some]
  refine wpAny_pure (wpAny_pure ?_)
  refine thn ((pe_un (X := X) (pos := p2) un_neg (pe_int (X := X) (i := 1) (j := j) (pos := p1))).run pins s1 σ H1 (fun y H2 => y = .int (-1) ∧ H2 = H1) I1 ⟨1, rfl, rfl, rfl⟩) fun st s2 ⟨y, H2, I2, r2, ey, eH⟩ => ?_
  subst ey eH
  obtain ⟨t, rfl⟩ := r2
  obtain ⟨its', rv', htup', _⟩ := I2.tuple hs
  have hlen' : its'.toArray.size = xs.length := by rw [List.size_toArray]; exact rv'.length.symm
  obtain ⟨o7, ho7⟩ : ∃ o7 : Obj, o7 = { cls := .type "slice", data := .fields #[.none, .none, .int (-1) t] } := ⟨_, rfl⟩
  have I4 : Inv X pins σ H2 { s2 with heap := s2.heap.push o7 } := I2.kept (t' := s2.toks) fun b ob q => Heap.get?_push_of_some _ q
  have hs7 : (s2.heap.push o7).IsSliceOf s2.heap.objs.size .none .none (.int (-1) t) := by rw [ho7]; exact Heap.IsSliceOf.new ..
  have ht7 : PyProof.Rows.IsTup (s2.heap.push o7) a its'.toArray := htup'.push _
  rw [← ho7]
  refine PyProof.Rows.tail_any (ops := [.ref a, .ref s2.heap.objs.size]) (T := "tuple") (s := { s2 with heap := s2.heap.push o7 }) ht7.typeIs PyProof.Rows.slot_tuple_getitem.lookup ?_ (by with_unfolding_all rfl)
  have hTs : ({ s2 with heap := s2.heap.push o7 } : Shared).TypeIs (.ref s2.heap.objs.size) "slice" := by obtain ⟨o, e1, e2, _⟩ := hs7; exact ⟨o, e1, e2⟩
  obtain ⟨oo, ho1, ho2, ho3⟩ := id hs7
  unfold getItem
  try with_reducible refine wpAny_holding ?_
  first | refine wpAny_bind (wpAny_pure ?_) | skip
  refine wpAny_bind (wpAny_sequenceKey ht7.typeIs (by decide) (wpAny_bind (wpAny_callSpecial?_slot (name := Str.ofString "__getitem__") ht7.typeIs PyProof.Rows.slot_tuple_getitem (wpAny_call_entry PyProof.Rows.slot_tuple_getitem ht7.typeIs PyProof.Rows.entry_tuple_getitem ?_ (PyProof.Rows.args_tuple_getitem _ _)))))
  show wpAny _ _ (Builtin.Tuple.tupleItemsOf (.ref a) >>= _) _ _ _
  refine wpAny_bind (PyProof.Rows.tupleItemsOf_ ht7 (wpAny_bind (wpAny_typeOf hTs ?_)))
  rw [if_pos (by decide)]
  refine wpAny_bind (m := Builtin.Slice.sliceApplied _ _) ?_
  unfold Builtin.Slice.sliceApplied Builtin.Slice.sliceFields
  refine wpAny_bind (wpAny_bind (wpAny_field ho1 ho3 (x := .none) rfl (wpAny_bind (wpAny_field ho1 ho3 (x := .none) rfl (wpAny_bind (wpAny_field ho1 ho3 (x := .int (-1) t) rfl (wpAny_pure ?_)))))))
  refine wpAny_bind (PyProof.Rows.slicePart_int ?_)
  show wpAny _ _ (if ((-1 : Int) == 0) = true then _ else _) _ _ _
  rw [if_neg (by decide)]
  refine wpAny_bind (PyProof.Rows.slicePart_none (wpAny_bind (PyProof.Rows.slicePart_none (wpAny_bind (wpAny_pure ?_)))))
  show wpAny _ _ (pure ((its'.toArray.size : Int) - 1, (-1 : Int), Builtin.Slice.slicePlaces ((its'.toArray.size : Int) - 1) (-1) (-1))) _ _ _
  rw [places_rev]
  refine wpAny_pure ?_
  have hno : ¬ ((((its'.toArray.size : Int) - 1 == 0 && (-1 : Int) == 1 && its'.toArray.size == its'.toArray.size)) = true) := by
    intro z
    rw [Bool.and_eq_true, Bool.and_eq_true] at z
    exact absurd z.1.2 (by decide)
  show wpAny _ _ (if ((its'.toArray.size : Int) - 1 == 0 && (-1 : Int) == 1 && its'.toArray.size == its'.toArray.size) = true then _ else _) _ _ _
  rw [if_neg hno, pick_rev]
  have hsz : sizeOk (.seq its'.toArray.toList.reverse.toArray) := by
    show its'.toArray.toList.reverse.toArray.size ≤ sizeLine
    rw [List.size_toArray, List.length_reverse, Array.length_toList, hlen']
    exact hz
  have fin : EP X pins σ Q (.ref (s2.heap.push o7).objs.size) { s2 with heap := (s2.heap.push o7).push { cls := .type "tuple", data := .seq its'.toArray.toList.reverse.toArray } } := by
    have hf : H2 (s2.heap.push o7).objs.size = none := I4.hok.fresh (Nat.le_refl _)
    refine ⟨.ref _, _, I4.laid (t' := s2.toks) (o := .tup xs.reverse) (fun b ob z => Heap.get?_push_of_some _ z) (Nat.le_refl _) ?_, rfl, q _ hf⟩
    exact ⟨by rw [List.length_reverse]; exact hz, its'.reverse, rv'.reverse, ⟨_, Heap.get?_push_size _ rfl, rfl, 0, rfl⟩⟩
  first
    | exact wpAny_bind (m := Builtin.Tuple.tupleExact _) (wpAny_newObj_type (wpAny_pure ⟨_, rfl, wpAny_pure fin⟩) hsz)
    | exact wpAny_bind (m := Builtin.Tuple.tupleExact _) (wpAny_newObj_type (wpAny_bind (wpAny_pure (wpAny_pure ⟨_, rfl, wpAny_pure fin⟩))) hsz)
    | exact wpAny_bind (wpAny_bind (m := Builtin.Tuple.tupleExact _) (wpAny_newObj_type (wpAny_pure (wpAny_pure ⟨_, rfl, wpAny_pure fin⟩)) hsz))
    | exact wpAny_bind (wpAny_bind (m := Builtin.Tuple.tupleExact _) (wpAny_newObj_type (wpAny_pure ⟨_, rfl, wpAny_pure fin⟩) hsz))
end

section
open PyProof.Rows
theorem tup_mul_one (l : Addr) (items : Array Value) (n : Nat) (dd : Option Addr) (sl : Array (Option Value)) (u : Tok) :
    Meets (Builtin.«tuple.__mul__» ⟨[.ref l, .int 1 u], []⟩) (fun _ R s => s.heap.get? l = some { cls := .type "tuple", dict := dd, data := .seq items n, slots := sl } ∧ R (.ok (.ret (.ref l))) s) :=
  .of_wp fun prog w A R s h => by
    obtain ⟨hp, g, d, tk, os⟩ := s
    obtain ⟨hl, h⟩ := h
    have f1 := AutoSeq1.idx_int
    wp_walk using PySem.AutoSeq1.wpAny_loadPart' hl
    try (refine wpAny_ite_false (decide_eq_false (by decide)) ?_; wp_walk using PySem.AutoSeq1.wpAny_loadPart' hl)
    repeat (first
      | exact ⟨_, rfl, h⟩
      | (refine wpAny_ite_true (decide_eq_true (by simp)) ?_; wp_walk using PySem.AutoSeq1.wpAny_loadPart' hl)
      | (refine wpAny_ite_true (by simp) ?_; wp_walk using PySem.AutoSeq1.wpAny_loadPart' hl))
/-- t * 1 is t itself -/
def rRep1 (K : PySem.W.Frag) : R2 := fun x y H Q => ∃ l xs, x = .ref l ∧ y = .int 1 ∧ SqT K H l xs ∧ Q (.ref l) H
theorem op_rep1 {X : Cx} : OpR X (binaryOp .Mult) (rRep1 X.K) := by
  intro pins s σ H x y v u Q I rx ry h
  obtain ⟨l, xs, rfl, rfl, hT, q⟩ := h
  cases rx
  obtain ⟨t, rfl⟩ := ry
  obtain ⟨its, r, ⟨⟨cls, dd, data, sl⟩, ho, hc, n, hd⟩, hs⟩ := I.tuple hT
  simp only at hc hd
  subst hc hd
  exact wpAny_binaryOp_repeat_ref (T := "tuple") (U := "int") (by decide) ⟨_, ho, rfl⟩ (fun s' => typeIs_int s' 1 t) noFill_tuple_mul F.fills_int_mul F.slot_int_rmul repeat_tuple F.slot_int_index.lookup
    (call_meets F.slot_int_rmul (typeIs_int s 1 t) F.entry_int_rmul (F.args_int_rmul_2 _ _) (int_rmul_tuple 1 t l its.toArray n dd sl)
      ⟨ho, rfl, ⟨_, ho, rfl⟩, call_meets F.slot_tuple_mul ⟨_, ho, rfl⟩ F.entry_tuple_mul (F.args_tuple_mul_2 _ _) (tup_mul_one l its.toArray n dd sl t) ⟨ho, .ref l, H, I, rfl, q⟩⟩)
def rRepA (K : PySem.W.Frag) : R2 := fun x y H Q => rRepT K x y H Q ∨ rRep1 K x y H Q
theorem op_repA {X : Cx} : OpR X (binaryOp .Mult) (rRepA X.K) := OpR.or op_repT op_rep1
end

/-! ### order of nested data; sorted of it -/
section
open PySem.W
variable {X : Cx}
theorem ix_any : IxR X (fun x y H Q => rIxL X.K x y H Q ∨ rIxT X.K x y H Q) := IxR.or ix_list ix_tup
/-- the one before the other, as nested data -/
def rLtD (K : PySem.W.Frag) : R2 := fun x y H Q => ∃ d e, Dp K H x d ∧ Dp K H y e ∧ alike d e = true ∧ d ≠ .none ∧ d.depth ≤ 32 ∧ Q (.bl (dataLt d e)) H
def rGtD (K : PySem.W.Frag) : R2 := fun x y H Q => ∃ d e, Dp K H x d ∧ Dp K H y e ∧ alike d e = true ∧ d ≠ .none ∧ d.depth ≤ 32 ∧ Q (.bl (dataLt e d)) H
theorem op_ltD (hu : X.A.units + 64 < cLine) : OpR X (compareOp .Lt) (rLtD X.K) := by
  intro pins s σ H x y v u Q I rx ry ⟨d, e, hd, he, al, nn, dp, q⟩
  obtain ⟨as, r1⟩ := Dp.reads I d x v hd rx
  obtain ⟨bs, r2⟩ := Dp.reads I e y u he ry
  exact lt_data r1 r2 al nn (by omega) ⟨.bl _, H, I, rfl, q⟩
theorem op_gtD (hu : X.A.units + 64 < cLine) : OpR X (compareOp .Gt) (rGtD X.K) := by
  intro pins s σ H x y v u Q I rx ry ⟨d, e, hd, he, al, nn, dp, q⟩
  obtain ⟨as, r1⟩ := Dp.reads I d x v hd rx
  obtain ⟨bs, r2⟩ := Dp.reads I e y u he ry
  exact gt_data r1 r2 al nn (by omega) ⟨.bl _, H, I, rfl, q⟩
theorem each_of {β : Type} {g : β → V} : ∀ {bs : List β} {its : List Value}, Vals (bs.map g) its → EachIs (fun v b => RelV (g b) v) its bs
  | [], _, h => by cases h; exact .nil
  | _ :: _, _, h => by
    cases h with
    | cons r t => exact .cons r (each_of t)
theorem vals_of_each {β : Type} {g : β → V} : ∀ {bs : List β} {its : List Value}, EachIs (fun v b => RelV (g b) v) its bs → Vals (bs.map g) its
  | _, _, .nil => .nil
  | _, _, .cons r t => .cons r (vals_of_each t)
theorem each_and {α β : Type} {R S : α → β → Prop} : ∀ {as : List α} {bs : List β}, EachIs R as bs → (∀ a b, b ∈ bs → R a b → S a b) → EachIs S as bs
  | _, _, .nil, _ => .nil
  | _, _, .cons r t, h => .cons (h _ _ List.mem_cons_self r) (each_and t fun a b hb => h a b (List.mem_cons_of_mem _ hb))
/-- sorted(xs) of nested data, in order: the pairs are the items and what they read as -/
def rSortedD (K : PySem.W.Frag) : List V → Hp → VK → Prop := fun vs H Q => ∃ (a : Addr) (bs : List (V × PyData)), vs = [.ref a] ∧ SqL K H a (bs.map (·.1)) ∧ (∀ b ∈ bs, Dp K H b.1 b.2) ∧ AllAlike (bs.map (·.2)) ∧ Sortable (bs.map (·.2)) ∧ (∀ b ∈ bs, b.2.depth ≤ 32) ∧
  ∀ p, H p = none → Q (.ref p) (upd H p (.lst ((bs.mergeSort (dataLe false (·.2))).map (·.1))))
theorem cr_sortedD (hu : X.A.units + 64 < cLine) : CallR X (.builtin "sorted") (rSortedD X.K) := by
  intro pins s σ H vs us Q I r ⟨a, bs, ev, hs, hd, al, so, dp, q⟩
  subst ev
  obtain ⟨its, rv, hl, hz⟩ := I.list hs
  rw [Vals.ref1 r]
  have e := each_of (g := fun b : V × PyData => b.1) rv
  have hzb : bs.length ≤ sizeLine := by rw [List.length_map] at hz; exact hz
  refine sorted_data (R := fun v (b : V × PyData) => RelV b.1 v) (enc := fun b => b.2) hl.isList e (each_and e fun v b hb rr => Dp.reads I b.2 b.1 v (hd b hb) rr) al so hzb (fun b hb => by have := dp b hb; omega) fun out hol ho => ?_
  obtain ⟨ep, hat⟩ := PyProof.Rows.sortedAll_at s.heap its (List.toArray out)
  have hlen : ((bs.mergeSort (dataLe false (·.2))).map (·.1)).length ≤ sizeLine := by rw [List.length_map, (List.mergeSort_perm _ _).length_eq]; exact hzb
  exact ⟨.ref _, _, I.laid (t' := s.toks) (o := .lst ((bs.mergeSort (dataLe false (·.2))).map (·.1))) (fun _ _ => PyProof.Rows.sortedAll_old) (Nat.le_succ _) ⟨hlen, out, ep, vals_of_each ho, hat⟩, rfl, q _ (I.hok.fresh (Nat.le_succ _))⟩
theorem stay_all {K : PySem.W.Frag} {mg : Str → Option Value} {base : Heap} {h1 : Heap} (M : Mod K mg base) (hb : ∀ b o, base.get? b = some o → h1.get? b = some o) : Stay K mg fun h => Kp h1 h := by
  have up : ∀ h : Heap, Kp h1 h → ∀ b o, base.get? b = some o → h.get? b = some o := fun h q b o e => q b o (hb b o e)
  refine ⟨fun h h' q k b o e => k b o (q b o e), fun h q => M.kin.keeps (up h q), fun h q => M.glob.keeps (up h q), fun h q => ?_, fun h q => M.nolimit.keeps (up h q)⟩
  obtain ⟨mb, e1, e2⟩ := M.blt
  exact ⟨mb, e1.keeps (up h q), e2⟩
theorem alike_ints {β : Type} (g : β → Int) (bs : List β) : AllAlike (bs.map fun b => PyData.int (g b)) := by
  intro d hd d' hd'
  obtain ⟨b, _, rfl⟩ := List.mem_map.mp hd
  obtain ⟨b', _, rfl⟩ := List.mem_map.mp hd'
  rfl
theorem sortable_ints {β : Type} (g : β → Int) (bs : List β) : Sortable (bs.map fun b => PyData.int (g b)) := by
  refine .inr fun d hd => ?_
  obtain ⟨b, _, rfl⟩ := List.mem_map.mp hd
  exact ⟨(fun z => nomatch z), (fun _ z => nomatch z)⟩
end

/-! ### zip of a tuple and a list; a method that sums products over it, read plainly -/
section
open PyProof.Rows
abbrev zmH1 (h : Heap) (l1 : Addr) : Heap := h.push { cls := .type "tuple_iterator", data := .fields #[.ref l1, .int 0 0] }
abbrev zmH2 (h : Heap) (l1 l2 : Addr) : Heap := (zmH1 h l1).push { cls := .type "list_iterator", data := .fields #[.ref l2, .int 0 0] }
abbrev zmH3 (h : Heap) (l1 l2 : Addr) : Heap := (zmH2 h l1 l2).push { cls := .type "tuple", data := .seq #[.ref h.objs.size, .ref (zmH1 h l1).objs.size] }
abbrev zmH4 (h : Heap) (l1 l2 : Addr) : Heap := (zmH3 h l1 l2).push { cls := .type "tuple", data := .seq #[.none, .none] }
abbrev zmH5 (h : Heap) (l1 l2 : Addr) : Heap := (zmH4 h l1 l2).push { cls := .type "zip", data := .fields #[.none, .bool false, .bool false, .ref (zmH2 h l1 l2).objs.size, .ref (zmH3 h l1 l2).objs.size] }
theorem meets_zipTL (l1 l2 : Addr) (xs ys : Array Value) :
    Meets (Builtin.«zip.__new__» ⟨[.type "zip", .ref l1, .ref l2], []⟩) (fun _ R s => s.heap.IsTuple l1 xs ∧ s.heap.IsList l2 ys ∧ R (.ok (.ret (.ref (zmH4 s.heap l1 l2).objs.size))) { s with heap := zmH5 s.heap l1 l2 }) :=
  .of_wp fun prog w A R s h => by
    obtain ⟨hp, g, d, tk, os⟩ := s
    obtain ⟨q1, q2, h⟩ := h
    have f0 := sub_zip
    have a1 : Heap.IsTuple (Shared.heap ⟨hp, g, d, tk, os⟩) l1 xs := q1
    have a2 : Heap.IsList (Shared.heap ⟨hp.push { cls := .type "tuple_iterator", data := .fields #[.ref l1, .int 0 0] }, g, d, tk, os⟩) l2 ys := Heap.IsList.push q2 _
    wp_walk using wpAny_pyIter_tuple a1, wpAny_pyIter_list a2
    exact ⟨_, rfl, h⟩
variable {prog : Program} {w : World} {A : Around} {E : Value → Shared → Prop} {s : Shared}
theorem call_zipTL {l1 l2 : Addr} {xs ys : Array Value} {Q : Value → Shared → Prop} (q1 : s.heap.IsTuple l1 xs) (q2 : s.heap.IsList l2 ys)
    (h : ∀ h', IsZip h' (s.heap.objs.size + 4) (s.heap.objs.size + 2) (s.heap.objs.size + 3) .none → IsTupOf2 h' (s.heap.objs.size + 2) (.ref s.heap.objs.size) (.ref (s.heap.objs.size + 1)) → IsTupOf2 h' (s.heap.objs.size + 3) .none .none →
      h'.IsTupleIter s.heap.objs.size l1 0 → h'.IsListIter (s.heap.objs.size + 1) l2 0 → h'.objs.size = s.heap.objs.size + 5 → Kp s.heap h' → Q (.ref (s.heap.objs.size + 4)) { s with heap := h' }) :
    wpAny (model prog w) A (call (.type "zip") [.ref l1, .ref l2]) Q E s := by
  refine callType_new F.called_zip (by decide) (F.typeCall_zip_2 _ _) (F.newCall_zip_2 _ _) (fun obj => F.args_object_init_3 obj _ _) F.entry_zip_new (meets_zipTL l1 l2 xs ys) ⟨q1, q2, ?_⟩
  have z1 : (zmH1 s.heap l1).objs.size = s.heap.objs.size + 1 := Heap.size_push ..
  have z2 : (zmH2 s.heap l1 l2).objs.size = s.heap.objs.size + 2 := by rw [Heap.size_push, z1]
  have z3 : (zmH3 s.heap l1 l2).objs.size = s.heap.objs.size + 3 := by rw [Heap.size_push, z2]
  have z4 : (zmH4 s.heap l1 l2).objs.size = s.heap.objs.size + 4 := by rw [Heap.size_push, z3]
  have z5 : (zmH5 s.heap l1 l2).objs.size = s.heap.objs.size + 5 := by rw [Heap.size_push, z4]
  have g5 : (zmH5 s.heap l1 l2).get? (zmH4 s.heap l1 l2).objs.size = some _ := Heap.get?_push_size _ rfl
  have g4 : (zmH5 s.heap l1 l2).get? (zmH3 s.heap l1 l2).objs.size = some _ := Heap.get?_push_of_some _ (Heap.get?_push_size _ rfl)
  have g3 : (zmH5 s.heap l1 l2).get? (zmH2 s.heap l1 l2).objs.size = some _ := Heap.get?_push_of_some _ (Heap.get?_push_of_some _ (Heap.get?_push_size _ rfl))
  have g2 : (zmH5 s.heap l1 l2).get? (zmH1 s.heap l1).objs.size = some _ := Heap.get?_push_of_some _ (Heap.get?_push_of_some _ (Heap.get?_push_of_some _ (Heap.get?_push_size _ rfl)))
  have g1 : (zmH5 s.heap l1 l2).get? s.heap.objs.size = some _ := Heap.get?_push_of_some _ (Heap.get?_push_of_some _ (Heap.get?_push_of_some _ (Heap.get?_push_of_some _ (Heap.get?_push_size _ rfl))))
  show _ ∧ _
  rw [z2, z3, z4] at g5
  rw [z3] at g4
  rw [z1, z2] at g3
  rw [z1] at g2
  have hQ := h (zmH5 s.heap l1 l2) g5 g3 g4 ⟨_, g1, rfl, rfl⟩ ⟨_, g2, rfl, rfl⟩ z5 fun c o e => Heap.get?_push_of_some _ (Heap.get?_push_of_some _ (Heap.get?_push_of_some _ (Heap.get?_push_of_some _ (Heap.get?_push_of_some _ e))))
  rw [← z4] at hQ
  exact ⟨⟨_, Heap.get?_push_size _ rfl, rfl⟩, hQ⟩
/-- the cells of a zip over a tuple and a list, made now -/
theorem zip_sep {n : Nat} {l1 l2 : Addr} (a1 : l1 < n) (a2 : l2 < n) : ZipSep2 (n + 4) (n + 2) (n + 3) n (n + 1) [n, l1] [n + 1, l2] := by
  have nn : ∀ i j : Nat, i ≠ j → (n : Nat) + i ≠ n + j := fun i j q => by omega
  have ne1 : ∀ j : Nat, n + j ≠ l1 := fun j z => by
    have q : (l1 : Nat) < n := a1
    rw [← z] at q
    exact Nat.lt_irrefl _ (Nat.lt_of_le_of_lt (Nat.le_add_right _ _) q)
  have ne2 : ∀ j : Nat, n + j ≠ l2 := fun j z => by
    have q : (l2 : Nat) < n := a2
    rw [← z] at q
    exact Nat.lt_irrefl _ (Nat.lt_of_le_of_lt (Nat.le_add_right _ _) q)
  have m2 : ∀ {q r t : Addr}, q ≠ r → q ≠ t → q ∉ [r, t] := fun {q r t} z1 z2 z => by
    have z' : q = r ∨ q = t := by simpa using z
    rcases z' with z' | z'
    · exact z1 z'
    · exact z2 z'
  exact ⟨nn 2 4 (by decide), nn 3 4 (by decide), nn 2 3 (by decide), nn 2 0 (by decide), List.mem_cons_self, m2 (nn 4 0 (by decide)) (ne1 4), m2 (nn 3 0 (by decide)) (ne1 3), nn 2 1 (by decide), List.mem_cons_self, m2 (nn 4 1 (by decide)) (ne2 4), m2 (nn 3 1 (by decide)) (ne2 3),
    m2 (nn 0 1 (by decide)) (ne2 0), m2 (nn 1 0 (by decide)) (ne1 1)⟩
end

/-- the sum of the products, place by place, up to the shorter -/
def dotZ : List Int → List Int → Int
  | x :: xs, y :: ys => x * y + dotZ xs ys
  | _, _ => 0
theorem dot_take : ∀ (i : Nat) (xs ys : List Int) (x y : Int), xs[i]? = some x → ys[i]? = some y → dotZ (xs.take (i + 1)) (ys.take (i + 1)) = dotZ (xs.take i) (ys.take i) + x * y
  | 0, x0 :: xs, y0 :: ys, x, y, h1, h2 => by
    simp at h1 h2
    subst h1 h2
    simp [dotZ]
  | i + 1, x0 :: xs, y0 :: ys, x, y, h1, h2 => by
    have := dot_take i xs ys x y (by simpa using h1) (by simpa using h2)
    simp only [List.take_succ_cons, dotZ, this]
    omega
  | _, [], _, _, _, h1, _ => by simp at h1
  | _, _ :: _, [], _, _, _, h2 => by simp at h2
theorem dot_take_all (xs ys : List Int) (n : Nat) (h : n = min xs.length ys.length) : dotZ (xs.take n) (ys.take n) = dotZ xs ys := by
  subst h
  have go : ∀ (xs ys : List Int), dotZ (xs.take (min xs.length ys.length)) (ys.take (min xs.length ys.length)) = dotZ xs ys := by
    intro xs
    induction xs with
    | nil => intro ys; simp [dotZ]
    | cons x xs ih =>
      intro ys
      cases ys with
      | nil => simp [dotZ]
      | cons y ys =>
        have e : min (x :: xs).length (y :: ys).length = min xs.length ys.length + 1 := by simp only [List.length_cons]; omega
        rw [e]
        simp only [List.take_succ_cons, dotZ, ih]
  exact go xs ys
section
variable {P : Program} {w : World} {K : PySem.W.Frag} {mg : Str → Option Value} {Φ : Heap → Prop} {D U : Nat}
/-- def code(self, m): total = 0; for e, u in zip(m, self.units): total += e * u; return total -/
theorem pf_dot {x qual at_ vm vt ve vu : Str} {st : Stmt} {f a M L dx C : Addr} {fd : FuncData} {N ps : List Str} {p1 p2 p3 p4 p5 p6 p7 p8 p9 p10 p11 p12 p13 p14 p15 p16 p17 p18 p19 : Pos} {j1 kt : Nat} {vself : Str} {ms uss : List Int}
    (F : Fun K x qual st f fd) (S : FnScope N ps (defScope st)) (Sx : Stay K mg Φ) (hps : ps = [vself, vm])
    (hbody : defBody st = [.Assign [.Name vt p1] (.Constant (.int 0) j1 p2) p3,
      .For (.Tuple [.Name ve p4, .Name vu p5] kt p6) (.Call (.Name "zip" p7) [.Name vm p8, .Attribute (.Name vself p9) at_ p10] [] p11) [.AugAssign (.Name vt p12) .Add (.BinOp (.Name ve p13) .Mult (.Name vu p14) p15) p16] [] p17, .Return (some (.Name vt p18)) p19])
    (hk : ∀ y ∈ [vself, vm, vt, ve, vu], (defScope st).names.lookup y = some .local) (hnd : [vself, vm, vt, ve, vu].Nodup) (hz : (defScope st).names.lookup ("zip" : Str) = some .globalImplicit) (hmz : mg "zip" = none)
    (hdb : ∀ y ∈ [vself, vm, vt, ve, vu], (y == ("__debug__" : Str)) = false) (hD : D + 8 < recursionLimit) (hU : U + 64 < cLine)
    (cl : Cls K C) (na : NoAttr K C at_)
    (hself : ∀ h, Φ h → ∃ mA t, ObjM h a dx C mA ∧ mA at_ = some (.ref t) ∧ t = L)
    (hM : ∀ h, Φ h → ∃ its : List Value, h.IsTuple M its.toArray ∧ PyProof.Rows.IntsAre its ms) (hL : ∀ h, Φ h → ∃ its : List Value, h.IsList L its.toArray ∧ PyProof.Rows.IntsAre its uss)
    (hw : ∀ (i : Nat) (x y : Int), ms[i]? = some x → uss[i]? = some y → CMulW x y) : PuG P w Φ D U f fd ps [.ref a, .ref M] (fun y => ∃ t, y = .int (dotZ ms uss) t) := by
  intro A s args hbb h1 h2 h3 hφ
  obtain ⟨oc, od, kV, doc, pm, an, cdv, ct, osl, rfl, lk, hcd⟩ := F.ex
  have KX : K.In s.heap := Sx.kin _ hφ
  have lim : s.heap.NoLimit := Sx.lim _ hφ
  have hus : ([Value.ref a, Value.ref M] : List Value).length = ps.length := by rw [hps]; rfl
  have kd : ∀ y ∈ [vself, vm, vt, ve, vu], ∀ cenv : Env, cenv.scope = defScope st → cenv.kindOf y = some .local := fun y hy cenv e => by
    show cenv.scope.names.lookup y = _
    rw [e]
    exact hk y hy
  have hkind : ∀ y ∈ ps.zip [Value.ref a, Value.ref M], (defScope st).names.lookup y.1 = some .local ∨ ((defScope st).names.lookup y.1 = some .cell ∧ ((cellsFrom (s.heap.objs.size + 1) (defScope st).names []).lookup y.1).isSome = true) := fun ⟨n, v⟩ hy => by
    rcases S.par n (List.of_mem_zip hy).1 with q | q
    · exact .inl q
    · exact .inr ⟨q, PySem.W.cellsFrom_some _ _ _ (.inl q)⟩
  refine codeAny_call_function (by omega) (KX _ _ lk) rfl S.co S.gen rfl (PySem.W.codeRec_of KX hcd) (hbb _ _ _ _ ?_)
  refine wpAny_newFunctionEnv_cells S.kind hkind fun env hen s1 ic => ?_
  have hsc : env.scope = defScope st := by rw [hen]; rfl
  have hgl : env.globals = mainGlobals := by rw [hen]; rfl
  have hbl : env.builtins = builtinsNs := by rw [hen]; rfl
  have hloc : env.locals = s.heap.objs.size := by rw [hen]; rfl
  refine ⟨lim.keeps ic.toInCall.keep, codeAny_func ?_⟩
  obtain ⟨h1', tk, rfl, hkp⟩ := ic.done
  show wpAny _ _ (execs (defBody st) _) _ _ _
  rw [hbody]
  have m0 : (bindL env.kindOf (ps.zip [Value.ref a, Value.ref M]) fun _ => none) vself = some (.ref a) ∧ (bindL env.kindOf (ps.zip [Value.ref a, Value.ref M]) fun _ => none) vm = some (.ref M) := by
    have nd2 : ps.Nodup := by rw [hps]; exact hnd.sublist (by simp)
    exact ⟨bindL_get (i := 0) nd2 (by rw [hps]; rfl) rfl (kd _ (by simp) env hsc), bindL_get (i := 1) nd2 (by rw [hps]; rfl) rfl (kd _ (by simp) env hsc)⟩
  obtain ⟨m, hm⟩ : ∃ m : Str → Option Value, m = bindL env.kindOf (ps.zip [Value.ref a, Value.ref M]) fun _ => none := ⟨_, rfl⟩
  have hns : h1'.Ns env.locals m := by rw [hm]; exact ic.toInCall.ns
  rw [← hm] at m0
  have F0 : PyProof.Rows.Fr s.heap env.locals h1' m := ⟨hns, hkp, by rw [hloc]; exact Nat.le_refl _⟩
  have ck : (env.scope.kind == .class || (env.scope.kind == .module && env.locals != env.globals)) = false := by rw [hsc, S.kind]; rfl
  have ek : env.scope.kind = .function := by rw [hsc]; exact S.kind
  have ne : ∀ {y z : Str}, y ≠ z → (if z = y then (none : Option Value) else none) = none := fun _ => by split <;> rfl
  have nt : vself ≠ vt ∧ vm ≠ vt ∧ ve ≠ vt ∧ vu ≠ vt ∧ ve ≠ vu ∧ vself ≠ ve ∧ vself ≠ vu ∧ vm ≠ ve ∧ vm ≠ vu := by
    simp only [List.nodup_cons, List.mem_cons, not_or, List.not_mem_nil, not_false_eq_true, and_true, List.nodup_nil] at hnd
    exact ⟨hnd.1.2.1, hnd.2.1.1, fun z => hnd.2.2.1.1 z.symm, fun z => hnd.2.2.1.2 z.symm, hnd.2.2.2, hnd.1.2.2.1, hnd.1.2.2.2, hnd.2.1.2.1, hnd.2.1.2.2⟩
  -- total = 0
  refine wpAny_mono (Q := fun f s' => ∃ t, f = .ret (.int (dotZ ms uss) t) ∧ Keeps s s') (E := fun _ _ => False) ?_ (fun f s' q => ?_) (fun _ _ z => z.elim)
  case refine_2 =>
    obtain ⟨t, rfl, q⟩ := q
    exact ⟨⟨t, rfl⟩, q⟩
  refine wpAny_execs_cons (wpAny_Assign_Name (wpAny_Constant_int (wpAny_storeName_local (kd _ (by simp) env hsc) hns (fun h2 hn2 hs2 => ?_) ck)) rfl)
  have F2 := F0.set hn2 hs2
  have hφ2 : Φ h2 := Sx.up _ _ hφ F2.keep
  have hg2 : h2.Ns mainGlobals mg := Sx.glob _ hφ2
  obtain ⟨mb, b1, b2⟩ := Sx.blt _ hφ2
  have e0 : ∀ tk', ({ s with heap := h2, toks := tk' } : Shared).heap = h2 := fun _ => rfl
  refine wpAny_execs_cons (wpAny_mono (Q := fun f s' => f = .next ∧ ∃ h3 tk3 m3 t3, s' = { s with heap := h3, toks := tk3 } ∧ PyProof.Rows.Fr s.heap env.locals h3 m3 ∧ m3 vt = some (.int (dotZ ms uss) t3)) (E := fun _ _ => False) ?loop (fun f s' q => ?after) (fun _ _ z => z.elim))
  case after =>
    obtain ⟨rfl, h3, tk3, m3, t3, rfl, F3, hv3⟩ := q
    refine wpAny_execs_cons (wpAny_Return_some (wpAny_Name (wpAny_loadName_local ek (kd _ (by simp) env hsc) F3.ns hv3 ?_) (hdb _ (by simp))))
    exact ⟨t3, rfl, h3, tk3, rfl, F3.keep⟩
  case loop =>
    refine PySem.W.For_turns F2 ?_ (hE := PassesOwn.never)
    refine PyProof.Rows.Call_ (Calls.Name_function_global ek (by show env.scope.names.lookup _ = _; rw [hsc]; exact hz) (Calls.loadGlobal_builtin (by rw [hgl]; exact hg2) hmz (by rw [hbl]; exact b1) ((b2 _ (by decide)).trans PyProof.Rows.boot_zip) (PyProof.Rows.callWith_type1 ?_ rfl rfl)))
    show wpAny _ _ (spliced ((false, eval (.Name vm p8) env) :: backTo p11 (starEach [.Attribute (.Name vself p9) at_ p10] env))) _ _ _
    have n2 : ∀ y, y ≠ vt → (fun y => if y = vt then some (Value.int 0 s.toks) else m y) y = m y := fun y q => if_neg q
    refine Calls.spliced_cons (wpAny_Name (wpAny_loadName_local ek (kd _ (by simp) env hsc) hn2 (v := .ref M) ?v1 ?_) (hdb _ (by simp)))
    case v1 => first | exact (if_neg nt.2.1).trans m0.2 | simp [nt.2.1, m0.2]
    refine Calls.spliced_cons (attr_of rfl (wpAny_Name (wpAny_loadName_local ek (kd _ (by simp) env hsc) hn2 (v := .ref a) ?v2 ?_) (hdb _ (by simp))))
    case v2 => first | exact (if_neg nt.1).trans m0.1 | simp [nt.1, m0.1]
    obtain ⟨mA, tL, O, hmA, rfl⟩ := hself _ hφ2
    refine get_map (Sx.kin _ hφ2) O (cl.get _) cl.hd na hmA (handed_of (v := .ref tL) rfl) ?_
    refine Calls.spliced_nil ?_
    obtain ⟨itm, hitm, hims⟩ := hM _ hφ2
    obtain ⟨itl, hitl, hils⟩ := hL _ hφ2
    refine call_zipTL hitm hitl fun h4 z1 z2 z3 z4 z5 z6 k4 => wpAny_pyIter_zip z1 ?_
    have F4 : PyProof.Rows.Fr s.heap env.locals h4 _ := F2.keeps k4
    have lM : M < h2.objs.size := by obtain ⟨o, e, _⟩ := hitm; exact Heap.lt_size e
    have lL : tL < h2.objs.size := by obtain ⟨o, e, _⟩ := hitl; exact Heap.lt_size e
    have lenv : env.locals < h2.objs.size := F2.ns.lt
    have hge : ∀ j : Nat, s.heap.get? (h2.objs.size + j) = none := fun j => Heap.get?_none_of_le (Nat.le_trans F2.above (Nat.le_trans (Nat.le_of_lt lenv) (Nat.le_add_right _ j)))
    have hen4 : ∀ j : Nat, env.locals ≠ h2.objs.size + j := fun j z => by
      have q : (env.locals : Nat) < h2.objs.size := lenv
      rw [z] at q
      exact Nat.lt_irrefl _ (Nat.lt_of_le_of_lt (Nat.le_add_right _ _) q)
    have hnM : env.locals ≠ M := fun z => by
      obtain ⟨o, e1, e2, e3⟩ := hM _ hφ |>.choose_spec.1
      have q := Heap.lt_size e1
      rw [← z, hloc] at q
      exact Nat.lt_irrefl _ q
    have hnL : env.locals ≠ tL := fun z => by
      obtain ⟨o, e1, e2, e3⟩ := hL _ hφ |>.choose_spec.1
      have q := Heap.lt_size e1
      rw [← z, hloc] at q
      exact Nat.lt_irrefl _ q
    have W := PySem.W.KTurns.ofWalksU (elts := [.Name ve p4, .Name vu p5]) (k := kt) (pos := p6) (WalksT.zipD2 (prog := P) (w := w) (A := A.deeper env) (zip_sep lM lL) (Draws.tuple (A := (A.deeper env).in1) h1 _ _ (Nat.ne_of_lt lM) itm.toArray) (Draws.list (A := (A.deeper env).in1) h1 _ _ (Nat.ne_of_lt (Nat.lt_succ_of_lt lL)) itl.toArray)).toU
    refine ⟨h2.objs.size + 4, _, _, _, _, _, _, _, [], fun i m' n' => n' = [] ∧ ∃ t, m' vt = some (.int (dotZ (ms.take i) (uss.take i)) t), rfl, W, ?_, ?_, (fun _ hp => nomatch hp), ?_, F4, PyProof.Rows.News.nil, ⟨rfl, tk, ?_⟩, ?_, ?_⟩
    · intro hh
      have hh' : env.locals = h2.objs.size + 4 ∨ env.locals = h2.objs.size + 2 ∨ env.locals = h2.objs.size + 3 ∨ env.locals = h2.objs.size ∨ env.locals = M ∨ env.locals = h2.objs.size + 1 ∨ env.locals = tL := by simpa using hh
      rcases hh' with z | z | z | z | z | z | z
      · exact hen4 4 z
      · exact hen4 2 z
      · exact hen4 3 z
      · exact hen4 0 z
      · exact hnM z
      · exact hen4 1 z
      · exact hnL z
    · intro b hb'
      have hh' : b = h2.objs.size + 4 ∨ b = h2.objs.size + 3 ∨ b = h2.objs.size ∨ b = h2.objs.size + 1 := by simpa using hb'
      rcases hh' with z | z | z | z
      · rw [z]; exact hge 4
      · rw [z]; exact hge 3
      · rw [z]; exact hge 0
      · rw [z]; exact hge 1
    · exact ⟨z1, z2, ⟨_, _, z3⟩, ⟨z4, hitm.at fun o e => k4 _ o e⟩, ⟨z5, hitl.at fun o e => k4 _ o e⟩⟩
    · simp [dotZ]
    · rintro i v m1 n1 h5 tk5 own hi ⟨T, vals, rfl, ⟨x1, x2, hx1, hx2, rfl⟩, hT⟩ ⟨rfl, t1, hv1⟩ - hown1 hown2 hown3 st5 F5 N5
      have hx1' : itm[i]? = some x1 := by simpa using hx1
      have hx2' : itl[i]? = some x2 := by simpa using hx2
      have li : i < ms.length := by rw [← hims.length]; exact (List.getElem?_eq_some_iff.mp hx1').1
      have li2 : i < uss.length := by rw [← hils.length]; exact (List.getElem?_eq_some_iff.mp hx2').1
      obtain ⟨q1, e1⟩ := hims.get i _ (List.getElem?_eq_getElem li)
      obtain ⟨q2, e2⟩ := hils.get i _ (List.getElem?_eq_getElem li2)
      rw [hx1'] at e1
      rw [hx2'] at e2
      cases e1
      cases e2
      refine wpAny_assign_Tuple (s := { s with heap := h5, toks := tk5 }) h1 hT rfl rfl fun h6 hx6 => ?_
      have old6 : Kp h5 h6 := fun b o e => hx6 b o (Nat.ne_of_lt (Heap.lt_size e)) e
      have F6 := F5.keeps old6
      show wpAny _ _ (do holding [Value.int uss[i] q2] (assign (.Name ve p4) env (Value.int ms[i] q1)); do holding [] (assign (.Name vu p5) env (Value.int uss[i] q2)); pure ()) _ _ _
      refine wpAny_bind (wpAny_holding (wpAny_assign_Name (wpAny_storeName_local (kd _ (by simp) env hsc) F6.ns (fun h7 hn7 hs7 => ?_) ck)))
      have F7 := F6.set hn7 hs7
      refine wpAny_bind (wpAny_holding (wpAny_assign_Name (wpAny_storeName_local (kd _ (by simp) env hsc) hn7 (fun h8 hn8 hs8 => wpAny_pure ?_) ck)))
      have F8 := F7.set hn8 hs8
      have gv : ∀ (y : Str) (g : Str → Option Value), (fun x => if x = vu then some (Value.int uss[i] q2) else if x = ve then some (Value.int ms[i] q1) else g x) y = if y = vu then some (Value.int uss[i] q2) else if y = ve then some (Value.int ms[i] q1) else g y := fun _ _ => rfl
      refine wpAny_execs_cons (wpAny_AugAssign_Name (wpAny_loadName_local ek (kd _ (by simp) env hsc) hn8 (v := .int (dotZ (ms.take i) (uss.take i)) t1) ?w1 ?_))
      case w1 => simp [nt.2.2.1.symm, nt.2.2.2.1.symm, hv1]
      refine wpAny_BinOp (wpAny_Name (wpAny_loadName_local ek (kd _ (by simp) env hsc) hn8 (v := .int ms[i] q1) ?w2 ?_) (hdb _ (by simp)))
      case w2 => simp [nt.2.2.2.2.1]
      refine wpAny_Name (wpAny_loadName_local ek (kd _ (by simp) env hsc) hn8 (v := .int uss[i] q2) ?w3 ?_) (hdb _ (by simp))
      case w3 => simp
      refine PyProof.Rows.mul_int ?_ (hw i _ _ (List.getElem?_eq_getElem li) (List.getElem?_eq_getElem li2)).ok
      refine PyProof.Rows.iadd_int ?_
      refine wpAny_storeName_local (kd _ (by simp) env hsc) hn8 (fun h9 hn9 hs9 => ?_) ck
      have F9 := F8.set hn9 hs9
      refine wpAny_execs_nil ?_
      refine PyProof.Rows.LoopStepU.intro F9 (fun p hp => ?_) (fun p hp => absurd hp (by simp)) ⟨rfl, ?_⟩
      · have hp' : p ∈ own := by simpa using hp
        have q5 := N5 p (by simpa using hp')
        refine ⟨?_, q5.2⟩
        exact (hs9.2 _ q5.2.1).trans ((hs8.2 _ q5.2.1).trans ((hs7.2 _ q5.2.1).trans (old6 _ _ q5.1)))
      · apply Exists.intro
        rw [dot_take i ms uss _ _ (List.getElem?_eq_getElem li) (List.getElem?_eq_getElem li2)]
        exact if_pos rfl
    · rintro h5 tk5 m5 n5 F5 N5 - ⟨-, t5, hv5⟩
      refine ⟨rfl, h5, tk5, m5, t5, rfl, F5, ?_⟩
      rw [hv5]
      congr 2
      refine dot_take_all ms uss _ ?_
      rw [List.size_toArray, List.size_toArray, hims.length, hils.length]
end

/-! ### lambdas without parameters, made and called in one def -/
section
open PySem.Spec PyProof.Rows LamX NdefX
def LamO (f : Addr) (q : Str) (params : Arguments) (body : Expr) (scope : Scope) (cl : List (Str × Addr)) (c' : Addr) : HO :=
  .ext fun h => ∃ pm ctv, h.get? f = some (PySem.W.kla_obj "<lambda>" q params body scope cl pm c' ctv)
variable {X : Cx} {pins : List (Addr × Obj)} {σ : L2.St} {H : Hp} {s : Shared}
theorem inv_lam {q : Str} {params : Arguments} {body : Expr} {scope : Scope} {cl : List (Str × Addr)} {c' : Addr} {pm ctv : Value} {t' : Nat} (I : L2.Inv X pins σ H s) :
    L2.Inv X pins σ (upd H s.heap.objs.size (LamO s.heap.objs.size q params body scope cl c')) { s with heap := s.heap.push (PySem.W.kla_obj "<lambda>" q params body scope cl pm c' ctv), toks := t' } := by
  refine I.laid (a := s.heap.objs.size) (fun b u e => Heap.get?_push_of_some _ e) (Nat.le_refl _) ?_
  have e : (s.heap.push (PySem.W.kla_obj "<lambda>" q params body scope cl pm c' ctv)).get? s.heap.objs.size = some (PySem.W.kla_obj "<lambda>" q params body scope cl pm c' ctv) := Heap.get?_push_size _ rfl
  exact ⟨⟨pm, ctv, e⟩, ⟨_, e⟩, fun h1 h2 ⟨p, t, z⟩ st => ⟨p, t, st _ z⟩⟩
theorem lam_makeT {T : List (Addr × Str)} {c P : Addr} {params : Arguments} {body : Expr} {scope : Scope} {pos : Pos} {E : Value → Shared → Prop} {Q : Value → Shared → Prop} (I : L2.Inv X pins σ H s) (TB : TabB X.base X.mg c P) (hcode : X.env.code = .ref c)
    (hm : (P, X.env.qual ++ "<lambda>") ∈ T) (hu : ∀ p ∈ T, p.1 = P → p.2 = X.env.qual ++ "<lambda>") (hT : Tabs T H) (hdef : defaultsOf params X.env = ([], [])) (hfree : ∀ y ∈ scope.names, y.2 = .free → ∃ c, X.env.cells.lookup y.1 = some c)
    (h : ∀ (f c' : Addr) (H1 : Hp) (s' : Shared), L2.Inv X pins σ H1 s' → ExtN H H1 → (∀ b, H1 b = Option.none → H b = Option.none) → Tabs T H1 → H f = Option.none → H1 f = some (LamO f (X.env.qual ++ "<lambda>") params body scope (cloFrom X.env.cells scope.names []) c') → H1 c' = some (CodeO c' (X.env.qual ++ "<lambda>")) → (∀ b o, b ≠ P → H b = some o → H1 b = some o) → Q (.ref f) s') :
    wpAny (model X.prog X.w) X.A (eval (.Lambda params body scope pos) X.env) Q E s := by
  obtain ⟨ps, hP, ht, ha⟩ := hT _ hm
  refine PySem.W.kla_eval hdef ?_
  have bP : s.heap.BuiltinsAt X.mg P := TB.bm.keeps I.bk
  have hP' : s.heap.get? P = some { cls := .none, data := .fields ps } := I.hok P _ hP
  cases hc : codeAmong pos ps.toList with
  | none =>
    refine PySem.W.kla_makeFunction (mg := X.mg) (c := c) (P := P) (ps := ps) (closure_ok hfree) I.ok.glob (I.mod.glob.keeps I.bk) hcode (TB.code.keeps I.bk) hP' ht hc TB.gP bP fun c' ctv h' tk hx hge hlt hrec htb => ?_
    obtain ⟨c2, oc, vs, t, e2, hoc, hd, hv⟩ := hrec
    cases e2
    have nC : H c' = Option.none := I.hok.fresh hge
    have I1 := inv_table (t' := tk) (more := #[rawInt pos.line, rawInt pos.col, .ref c']) (h' := h') I hP (fun b o hb e => hx b o hb e) htb hge ⟨oc, vs, t, hoc, hd, hv⟩
    have hE : ExtN H (upd (upd H P (.tbl (ps ++ #[rawInt pos.line, rawInt pos.col, .ref c']))) c' (CodeO c' (X.env.qual ++ "<lambda>"))) := fun b o e n => by
      rw [upd_ne (ne_of_none e nC), upd_ne (fun z => n ps (Option.some.inj (e.symm.trans (by rw [z]; exact hP))))]
      exact e
    have eL : (ps ++ #[rawInt pos.line, rawInt pos.col, .ref c']).toList = ps.toList ++ [rawInt pos.line, rawInt pos.col, .ref c'] := by simp
    have T1 : Tabs T (upd (upd H P (.tbl (ps ++ #[rawInt pos.line, rawInt pos.col, .ref c']))) c' (CodeO c' (X.env.qual ++ "<lambda>"))) := fun p hp => by
      by_cases hb : p.1 = P
      · rw [hu p hp hb, hb]
        refine ⟨_, by rw [upd_ne (ne_of_none hP nC), upd_same], by rw [eL]; exact PySem.TriplesOk_snoc _ _ _ _ ht, fun p' cv hcv => ?_⟩
        rw [eL] at hcv
        rcases among_app _ ht hcv with z | z
        · obtain ⟨c0, e1, e2⟩ := ha p' cv z
          exact ⟨c0, e1, hE _ _ e2 codeO_ne⟩
        · exact ⟨c', z, upd_same⟩
      · obtain ⟨ps', a1, a2, a3⟩ := hT p hp
        refine ⟨ps', by rw [upd_ne (ne_of_none a1 nC), upd_ne hb]; exact a1, a2, fun p' cv hcv => ?_⟩
        obtain ⟨c0, e1, e2⟩ := a3 p' cv hcv
        exact ⟨c0, e1, hE _ _ e2 codeO_ne⟩
    have nF := I1.hok.fresh (Nat.le_refl _)
    have I2 := inv_lam (q := X.env.qual ++ "<lambda>") (params := params) (body := body) (scope := scope) (cl := cloFrom X.env.cells scope.names []) (c' := c') (pm := (X.mg "__name__").getD .none) (ctv := ctv) (t' := tk) I1
    refine h h'.objs.size c' _ _ I2 (fun b o e n => ?_) (fun b e => upd_none (upd_none (upd_none e))) (T1.ext fun b o e => ?_) (I.hok.fresh (Nat.le_trans hge (Nat.le_of_lt hlt))) upd_same ?_ (fun b o nb e => ?_)
    · have e1 := hE b o e n
      exact (upd_ne (ne_of_none e1 nF)).trans e1
    · exact (upd_ne (ne_of_none e nF)).trans e
    · exact (upd_ne (Nat.ne_of_lt hlt)).trans upd_same
    · have q1 : (upd (upd H P (.tbl (ps ++ #[rawInt pos.line, rawInt pos.col, .ref c']))) c' (CodeO c' (X.env.qual ++ "<lambda>"))) b = some o := by
        rw [upd_ne (ne_of_none e nC), upd_ne nb]
        exact e
      exact (upd_ne (ne_of_none q1 nF)).trans q1
  | some cv =>
    obtain ⟨c', e, hco⟩ := ha pos cv hc
    subst e
    refine PySem.W.kla_makeFunctionHit (mg := X.mg) (c := c) (P := P) (ps := ps) (closure_ok hfree) I.ok.glob (I.mod.glob.keeps I.bk) hcode (TB.code.keeps I.bk) hP' ht hc bP fun ctv h' tk hx hsz => ?_
    have I1 : L2.Inv X pins σ H { s with heap := h', toks := tk } := I.kept hx
    have nF : H h'.objs.size = Option.none := I1.hok.fresh (Nat.le_refl _)
    have I2 := inv_lam (q := X.env.qual ++ "<lambda>") (params := params) (body := body) (scope := scope) (cl := cloFrom X.env.cells scope.names []) (c' := c') (pm := (X.mg "__name__").getD .none) (ctv := ctv) (t' := tk) I1
    refine h h'.objs.size c' _ _ I2 (fun b o e n => ?_) (fun b e => upd_none e) (hT.ext fun b o e => ?_) nF upd_same ?_ (fun b o _ e => (upd_ne (ne_of_none e nF)).trans e)
    · exact (upd_ne (ne_of_none e nF)).trans e
    · exact (upd_ne (ne_of_none e nF)).trans e
    · exact (upd_ne (ne_of_none hco nF)).trans hco
/-- the reading of a lambda: a new function object, known with its code object -/
def tLam (T : List (Addr × Str)) (q : Str) (params : Arguments) (body : Expr) (scope : Scope) (cl : List (Str × Addr)) : TE := fun _ H Q =>
  Tabs T H ∧ ∀ (f c' : Addr) (H1 : Hp), ExtN H H1 → (∀ b, H1 b = Option.none → H b = Option.none) → Tabs T H1 → H f = Option.none → H1 f = some (LamO f q params body scope cl c') → H1 c' = some (CodeO c' q) → Q (.ref f) H1
theorem pe_lam {T : List (Addr × Str)} {c P : Addr} {params : Arguments} {body : Expr} {scope : Scope} {pos : Pos} (TB : TabB X.base X.mg c P) (hcode : X.env.code = .ref c) (hm : (P, X.env.qual ++ "<lambda>") ∈ T)
    (hu : ∀ p ∈ T, p.1 = P → p.2 = X.env.qual ++ "<lambda>") (L : LamS X.env.scope scope) (hdef : defaultsOf params X.env = ([], []) := by rfl) :
    PE X (.Lambda params body scope pos) (tLam T (X.env.qual ++ "<lambda>") params body scope (cloFrom X.env.cells scope.names [])) := by
  refine ⟨fun pins s σ H Q I h => ?_⟩
  obtain ⟨hT, h⟩ := h
  exact lam_makeT I TB hcode hm hu hT hdef (L.has I.ok) fun f c' H1 s' I1 eN nn T1 f0 f1 c1 _ => ⟨.ref f, H1, I1, rfl, h f c' H1 eN nn T1 f0 f1 c1⟩
/-- fe(), fe an expression that gives such a lambda of the very def -/
theorem pe_callLam {params : Arguments} {body : Expr} {scope : Scope} {k : Nat} {E : L2.St → XK} {tb : XK → TE} {fe : Expr} {tf : TE} {p2 : Pos} (L : LamS X.env.scope scope) (hf : PE X fe tf)
    (hbind : ∀ c' pm ctv, bindArgs (PySem.W.kla_fn "<lambda>" (X.env.qual ++ "<lambda>") params body scope (cloFrom X.env.cells scope.names []) pm (.ref c') ctv) ⟨[], []⟩ = pure [])
    (hx : ∀ σ, PassesAt (L2.CX X.prog X.w) X σ (E σ)) (hr : Room (k + 1) X.A)
    (hbody : ∀ (E0 : XK) (A : Around) (outer : List Env) (s : Shared) (H : Hp) (f c' : Addr), Room k (A.deeper (lamEnv X scope s.heap.objs.size f c')) → PE (lamCx X A outer s H E0 scope f c') body (tb E0))
    (he : eval (fe.Call [] [] p2) X.env = (do
      let f ← eval fe X.env
      callWith p2 f [] (backTo p2 (starEach [] X.env)) (backToKw p2 (keywordEach [] X.env))) := by rfl) :
    PE X (.Call fe [] [] p2) (fun σ H Q => tf σ H fun x H1 => ∃ f c', x = .ref f ∧ H1 f = some (LamO f (X.env.qual ++ "<lambda>") params body scope (cloFrom X.env.cells scope.names []) c') ∧ H1 c' = some (CodeO c' (X.env.qual ++ "<lambda>")) ∧ tb (E σ) σ H1 Q) := by
  refine ⟨fun pins s σ H Q I h => ?_⟩
  refine PyProof.Rows.Call_ (thn (hf.run pins s σ H _ I h) fun u s1 hh => ?_) he
  obtain ⟨x, H1, I1, r1, f, c', ex, ef, ec, ht⟩ := hh
  subst ex
  obtain rfl : u = Value.ref f := r1
  obtain ⟨⟨pm, ctv, of1⟩, _, _⟩ := I1.hok f _ ef
  refine PySem.W.callWith_F0 ⟨_, _, _, _, of1⟩ ?_
  obtain ⟨⟨oc, vs, t, hoc, hdc, hvc⟩, _, _⟩ := I1.hok c' _ ec
  have rc : codeAny (model X.prog X.w) X.A (.call (.ref f) ⟨[], []⟩) (CR (L2.CX X.prog X.w) X.stack X.prog X.w H1 s1 Q (E σ)) s1 := by
    refine PySem.W.kla_callFunE hr.depth of1 rfl L.co L.gen rfl ⟨c', oc, vs, t, rfl, hoc, hdc, hvc⟩ ?_
    rw [hbind]
    refine wpAny_pure (wpAny_newFunctionEnv (fun y hy => (L.own y hy).2) (fun y hy => absurd hy (by simp)) (fun h₁ hns hsb => ⟨I1.nolimit.fresh _ hsb, ?_⟩) L.kind)
    show codeAny _ _ (.expr body (lamEnv X scope s1.heap.objs.size f c')) _ _
    have kp : ∀ b o, s1.heap.get? b = some o → h₁.get? b = some o := fun b o e => hsb.extBut b o (Nat.ne_of_lt (Heap.lt_size e)) (Heap.get?_push_of_some _ e)
    have J : L2.Inv (lamCx X X.A X.stack s1 H1 (E σ) scope f c') [] σ H1 { s1 with heap := h₁, toks := s1.toks + ([] : List (Str × Value)).length } :=
      lam_start2 I1 L I1.env0 hr.hd Un.refl hns kp
    refine PySem.W.kla_codeExpr (wpAny_mono ((hbody (E σ) _ _ s1 H1 f c' (hr.deeper _)).run [] _ _ H1 Q J ht) (fun v s' hq => ?_) fun e s' hq => hq)
    obtain ⟨w', H', J', rv, q⟩ := hq
    exact ⟨w', H', J'.os, J'.bare, J'.base, J'.hok, rv, q⟩
  refine wpAny_call (codeAny_mono rc fun r s' hq => ?_)
  cases r with
  | error e => exact hx σ pins H1 s1 e s' I1 hq
  | ok fl =>
    cases fl with
    | ret u => exact I1.after hq
    | next => exact False.elim hq
    | brk => exact False.elim hq
    | cont => exact False.elim hq
end

/-! ### sorted(xs, key=lambda m: o.f(m)), o a captured name -/
section
open PySem.Spec PyProof.Rows LamX NdefX
variable {P : Program} {w : World} {K : PySem.W.Frag} {mg : Str → Option Value} {Φ : Heap → Prop} {cenv : Env} {m : Str → Option Value} {D U : Nat}
theorem pu_free {x : Str} {u : Value} {c : Addr} {pos : Pos} (ev : PuEnv cenv) (hx : cenv.scope.names.lookup x = some .free) (hc : cenv.cells.lookup x = some c) (hv : ∀ h, Φ h → h.IsCell c (some u)) (hn : (x == ("__classdict__" : Str)) = false := by decide)
    (hd : (x == ("__debug__" : Str)) = false := by decide) : PuE P w Φ cenv m D U (.Name x pos) (· = u) :=
  fun A E s _ _ _ hf _ => wpAny_Name (wpAny_loadName_free ev.kind (show cenv.scope.names.lookup x = some .free from hx) hc (hv _ hf) ⟨rfl, keeps0 s s.toks⟩ hn) hd
/-- o.f(args) -/
theorem pu_meth {o e : Expr} {es : List Expr} {at_ : Str} {apos pos : Pos} {pl : Sem Bool} {a C g : Addr} {R : Value → Prop} {Rs : List Value → Prop} (S : Stay K mg Φ) (ho : PuE P w Φ cenv m D U o (· = .ref a)) (cl : Cls K C) (hm : Meth K C at_ g)
    (hobj : ∀ h, Φ h → ∃ dx mA, ObjM h a dx C mA ∧ mA at_ = none) (ha : PuA P w Φ cenv m D U (e :: es) Rs) (hf : ∀ us, Rs us → PuF P w Φ D U g (.ref a :: us) R)
    (he : starEach (e :: es) cenv = (false, eval e cenv) :: starEach es cenv := by rfl) (hpl : (backTo pos (starEach es cenv)).any (·.1) = false := by rfl)
    (ht : eval (.Call (.Attribute o at_ apos) (e :: es) [] pos) cenv = (do
      let ov ← eval o cenv
      standAt apos.atName
      let (fv, first) ← holding [ov] (getMethod ov at_ pl)
      callWith pos fv first (backTo pos (starEach (e :: es) cenv)) (backToKw pos (keywordEach [] cenv))) := by rfl) :
    PuE P w Φ cenv m D U (.Call (.Attribute o at_ apos) (e :: es) [] pos) R := by
  intro A E s h1 h2 h3 hφ hn
  refine PySem.W.methodCall_KW (pl := pl) (wpAny_mono (ho A E s h1 h2 h3 hφ hn) (fun u s1 r => ?_) fun _ _ z => z) ht
  obtain ⟨rfl, k1⟩ := r
  have hφ1 := S.up _ _ hφ (keepsH k1)
  obtain ⟨dx, mA, O, hno⟩ := hobj _ hφ1
  refine get_meth (S.kin _ hφ1) O (cl.get at_) hm.at_ hm.fn hno ?_
  refine PySem.W.callWith_K (first := [.ref a]) (h₀ := s1.heap) (S.kin _ hφ1) hm.kp (wpAny_mono (ha pos A E s1 h1 h2 h3 hφ1 (hn.at' fun o e => keepsH k1 _ o e)) (fun us s2 r => ?_) fun _ _ z => z) he hpl
  have hφ2 := S.up _ _ hφ1 (keepsH r.2)
  refine ⟨S.kin _ hφ2, wpAny_call (codeAny_mono (hf us r.1 A s2 h1 h2 h3 hφ2) fun rr s3 q => ?_)⟩
  cases rr with
  | error e => exact False.elim q
  | ok fl =>
    cases fl with
    | ret u => exact ⟨q.1, keepsT k1 (keepsT r.2 q.2)⟩
    | next => exact False.elim q
    | brk => exact False.elim q
    | cont => exact False.elim q
/-- a lambda of one parameter -/
theorem pf_lam1 {f c' : Addr} {q x : Str} {params : Arguments} {body : Expr} {scope : Scope} {cl : List (Str × Addr)} {u : Value} {R : Value → Prop} (S : Stay K mg Φ)
    (hf : ∀ h, Φ h → ∃ pm ctv, h.get? f = some (PySem.W.kla_obj "<lambda>" q params body scope cl pm c' ctv)) (hc : ∀ h, Φ h → ∃ (oc : Obj) (vs : Array Value) (t : Tok), h.get? c' = some oc ∧ oc.data = .fields vs ∧ vs[1]? = some (.str q t))
    (hk : scope.kind = .function) (hco : scope.isCoroutine = false) (hgen : scope.isGenerator = false) (hcell : ∀ y ∈ scope.names, y.2 ≠ .cell) (hx : scope.names.lookup x = some .local)
    (hbind : ∀ pm ctv, bindArgs (PySem.W.kla_fn "<lambda>" q params body scope cl pm (.ref c') ctv) ⟨[u], []⟩ = pure [(x, u)]) (hD : D < recursionLimit)
    (he : ∀ env : Env, PuEnv env → env.scope = scope → env.cells = cl → PuE P w Φ env (fun y => ([(x, u)] : List (Str × Value)).reverse.lookup y) (D + 1) (U + 3) body R) : PuF P w Φ D U f [u] R := by
  intro A s h1 h2 h3 hφ
  obtain ⟨pm, ctv, of1⟩ := hf _ hφ
  obtain ⟨oc, vs, t, hoc, hdc, hvc⟩ := hc _ hφ
  refine PySem.W.kla_callFunE (Nat.lt_of_le_of_lt h2 hD) of1 rfl hco hgen rfl ⟨c', oc, vs, t, rfl, hoc, hdc, hvc⟩ ?_
  rw [hbind]
  refine wpAny_pure (wpAny_newFunctionEnv hcell (fun y hy => by rw [List.mem_singleton] at hy; subst hy; exact hx) (fun h₁ hns hsb => ⟨(S.lim _ hφ).fresh _ hsb, ?_⟩) hk)
  have kp : Kp s.heap h₁ := fun b o e => hsb.extBut b o (Nat.ne_of_lt (Heap.lt_size e)) (Heap.get?_push_of_some _ e)
  refine PySem.W.kla_codeExpr (wpAny_mono (he _ ⟨hk, rfl, rfl⟩ rfl rfl _ _ { s with heap := h₁, toks := s.toks + ([(x, u)] : List (Str × Value)).length } h1 (by show A.depth + 1 ≤ D + 1; omega) (by show A.units + 3 ≤ U + 3; omega) (S.up _ _ hφ kp) hns) (fun v s' hq => ?_) fun e s' hq => hq)
  exact ⟨hq.1, keepsT ⟨h₁, _, rfl, kp⟩ hq.2⟩
variable {X : Cx}
/-- the reading of a lambda: all but its def's table stays -/
def tLamF (Pt : Addr) (T : List (Addr × Str)) (q : Str) (params : Arguments) (body : Expr) (scope : Scope) (cl : List (Str × Addr)) : TE := fun _ H Q =>
  Tabs T H ∧ ∀ (f c' : Addr) (H1 : Hp), (∀ b o, b ≠ Pt → H b = some o → H1 b = some o) → ExtN H H1 → Tabs T H1 → H1 f = some (LamO f q params body scope cl c') → H1 c' = some (CodeO c' q) → Q (.ref f) H1
theorem pe_lamF {T : List (Addr × Str)} {c Pt : Addr} {params : Arguments} {body : Expr} {scope : Scope} {pos : Pos} (TB : TabB X.base X.mg c Pt) (hcode : X.env.code = .ref c) (hm : (Pt, X.env.qual ++ "<lambda>") ∈ T)
    (hu : ∀ p ∈ T, p.1 = Pt → p.2 = X.env.qual ++ "<lambda>") (hfree : ∀ y ∈ scope.names, y.2 = .free → X.env.kindOf y.1 = some .cell ∨ X.env.kindOf y.1 = some .free) (hdef : defaultsOf params X.env = ([], []) := by rfl) :
    PE X (.Lambda params body scope pos) (tLamF Pt T (X.env.qual ++ "<lambda>") params body scope (cloFrom X.env.cells scope.names [])) := by
  refine ⟨fun pins s σ H Q I ⟨hT, h⟩ => ?_⟩
  exact lam_makeT I TB hcode hm hu hT hdef (fun y hy e => I.ok.has _ (hfree y hy e)) fun f c' H1 s' I1 eN nn T1 f0 f1 c1 kb => ⟨.ref f, H1, I1, rfl, h f c' H1 kb eN T1 f1 c1⟩
/-- the key's plain promise, in any state that the call may see -/
def KeyF (X : Cx) (σ : L2.St) (H : Hp) (f : Addr) (bs : List (V × Int)) : Prop :=
  ∀ (Φ : Heap → Prop) (pins : List (Addr × Obj)) (t1 : Shared), Stay X.K X.mg Φ → L2.Inv X pins σ H t1 → (∀ h, Φ h → Kp t1.heap h) → ∀ b ∈ bs, ∀ u, RelV b.1 u → PuF X.prog X.w Φ X.A.depth (X.A.units + 2) f [u] (fun y => ∃ t, y = .int b.2 t)
def tSortF (X : Cx) (te tl : TE) : TE := fun σ H Q => tCons te tNil σ H fun vs H1 => tCons tl tNil σ H1 fun zs H2 => ∃ (a f : Addr) (bs : List (V × Int)), vs = [.ref a] ∧ zs = [.ref f] ∧ SqL X.K H2 a (bs.map (·.1)) ∧ KeyF X σ H2 f bs ∧
  ∀ p, H2 p = none → Q (.ref p) (upd H2 p (.lst ((bs.mergeSort (PySem.W.dataLe false fun b => .int b.2)).map (·.1))))
theorem pe_sortF {e fe : Expr} {te tl : TE} {p pos kpos : Pos} {k : Nat} (hr : Room k X.A) (hg : Gl X "sorted") (hm : X.mg "sorted" = none) (hv : bootBuiltins "sorted" = some (.builtin "sorted")) (he : PE X e te) (hl : PE X fe tl)
    (q0 : starEach [e] X.env = (false, eval e X.env) :: starEach [] X.env := by rfl)
    (q1 : backTo pos (starEach [e] X.env) = (false, eval e X.env) :: backTo pos (starEach [] X.env) := by rfl) (q2 : (backTo pos (starEach [e] X.env)).any (·.1) = false := by rfl)
    (q3 : (backToKw pos (keywordEach [⟨some "key", fe, kpos⟩] X.env)).all (·.1.isSome) = true := by rfl) (q4 : (backToKw pos (keywordEach [⟨some "key", fe, kpos⟩] X.env)).any (·.1.isNone) = false := by rfl)
    (q5 : (backToKw pos (keywordEach [⟨some "key", fe, kpos⟩] X.env)).filterMap (·.1) = [Str.ofString "key"] := by rfl) :
    PE X (.Call (.Name "sorted" p) [e] [⟨some "key", fe, kpos⟩] pos) (tSortF X te tl) := by
  refine ⟨fun pins s σ H Q I h => wpAny_Call_Name_kw (ld_blt I hg hm hv ?_)⟩
  have ha := pa_cons (X := X) he pa_nil q0
  have hk := pk_cons (X := X) (nm := some "key") (kpos := kpos) hl pk_nil
  refine PyProof.Rows.callWith_kw (thn (ha.run pos pins s σ H _ I h) fun us s1 ⟨vs, H1, I1, r1, h1⟩ => thn (hk.run pos pins s1 σ H1 _ I1 h1) fun ws s2 ⟨zs, H2, I2, r2, a, f, bs, ev, ez, hs, hf, q⟩ => ?_) q1 q2 q3 q4
  rw [q5]
  subst ev ez
  obtain rfl := Vals.ref1 r1
  obtain ⟨w1, rfl, e1⟩ := vals1 r2
  obtain rfl : w1 = Value.ref f := e1
  obtain ⟨its, rv, hli, hz⟩ := I2.list hs
  have e := each_of (g := fun b : V × Int => b.1) rv
  have hzb : bs.length ≤ sizeLine := by rw [List.length_map] at hz; exact hz
  have St := stay_all (h1 := s2.heap) I2.mod fun b o q => I2.bk b o q
  refine PySem.W.sorted_key_data (R := fun v (b : V × Int) => RelV b.1 v) (b := false) (f := .ref f) (kw := [(Str.ofString "key", .ref f)]) (fun b => .int b.2) hli.isList e (alike_ints _ bs) (sortable_ints _ bs) hzb (fun b hb => ?_) (PyProof.Rows.ksk_s1 _ _) (fun _ => PyProof.Rows.ksk_l1 _ _) (fun x => PyProof.Rows.ksk_t1 _ _) (fun v b rr hb h tk hk2 => ?_) fun out c h' tk hk2 hfr hat hol ho => ?_
  · have := hr.units
    show X.A.units + 2 + (PyData.int b.2).depth < cLine
    simp only [PyData.depth]
    omega
  · refine wpAny_call (codeAny_mono (hf _ pins s2 St I2 (fun h q => q) b hb v rr X.A.in1.in1 { s2 with heap := h, toks := tk } hr.hd (Nat.le_refl _) (Nat.le_refl _) hk2) fun rr s3 w1 => ?_)
    cases rr with
    | error e => exact False.elim w1
    | ok fl =>
      cases fl with
      | ret y =>
        obtain ⟨⟨t, rfl⟩, h2, tk2, e2, k2⟩ := w1
        exact ⟨h2, tk2, e2, k2, .int _ _⟩
      | next => exact False.elim w1
      | brk => exact False.elim w1
      | cont => exact False.elim w1
  · have hlen : ((bs.mergeSort (PySem.W.dataLe false fun b => .int b.2)).map (·.1)).length ≤ sizeLine := by rw [List.length_map, (List.mergeSort_perm _ _).length_eq]; exact hzb
    exact ⟨.ref _, _, I2.laid (t' := tk) (o := .lst ((bs.mergeSort (PySem.W.dataLe false fun b => .int b.2)).map (·.1))) hk2 (Nat.le_succ _) ⟨hlen, out, c, vals_of_each ho, hat⟩, rfl, q _ (I2.hok.fresh (Nat.le_succ _))⟩
end

/-! ### generator expressions whose element is read in full: the element may call, make and walk what it likes -/
section
open PySem.Spec PyProof.Rows GenW
/-- the context of a generator expression's element; B: the around of its frame -/
abbrev gxCx (X : Cx) (B : Around) (s : Shared) (H : Hp) (cenv : Env) (ys : List Str) (fp : List Addr) (pn : List (Addr × Obj)) : Cx :=
  { X with A := B, N := X.N ++ ys, s_0 := s, H_0 := H, env := cenv, outer := X.stack, stack := cenv :: X.stack, ex := fp, fn := fun _ => false, calm := true, pn := pn, xe := fun _ _ => False }
/-- the names of a generator expression's scope: its own are new, the others captured -/
structure GxOk (N : List Str) (sc scope : Scope) (own : List (Str × Nat)) : Prop where
  kind : scope.kind = .function
  co : scope.isCoroutine = false
  cell : ∀ y ∈ scope.names, y.2 ≠ .cell
  dot : scope.names.lookup (".0" : Str) = some NameKind.local
  free : ∀ y ∈ scope.names, y.2 = .free → sc.names.lookup y.1 = some .cell ∨ sc.names.lookup y.1 = some .free
  ix : ∀ p ∈ own, N[p.2]? = some p.1
  own : ∀ y ∈ scope.names, y.2 = .local → y.1 ∈ own.map (·.1) ∨ y.1 ∉ N
def gxC (N : List Str) (sc scope : Scope) (own : List (Str × Nat)) : Bool :=
  (match scope.kind with | .function => true | _ => false) && !scope.isCoroutine && decide (scope.names.lookup (".0" : Str) = some NameKind.local) && (own.all fun p => decide (N[p.2]? = some p.1)) &&
    (scope.names.all fun y => match y.2 with
      | .free => (match sc.names.lookup y.1 with | some .cell => true | some .free => true | _ => false)
      | .local => decide (y.1 ∈ own.map (·.1)) || decide (y.1 ∉ N)
      | .cell => false
      | _ => true)
theorem gxOk_by {N : List Str} {sc scope : Scope} {own : List (Str × Nat)} (h : gxC N sc scope own = true) : GxOk N sc scope own := by
  unfold gxC at h
  simp only [Bool.and_eq_true, List.all_eq_true, decide_eq_true_eq, Bool.not_eq_true'] at h
  obtain ⟨⟨⟨⟨h1, h2⟩, h3⟩, h5⟩, h4⟩ := h
  refine ⟨?_, h2, fun y hy e => ?_, h3, fun y hy e => ?_, h5, fun y hy e => ?_⟩
  · split at h1
    · assumption
    · cases h1
  · have q := h4 y hy
    simp only [e] at q
    cases q
  · have q := h4 y hy
    simp only [e] at q
    split at q <;> first | exact .inl (by assumption) | exact .inr (by assumption) | cases q
  · have q := h4 y hy
    simp only [e, Bool.or_eq_true, decide_eq_true_eq] at q
    exact q
variable {X : Cx} {pins : List (Addr × Obj)} {σ : L2.St} {H : Hp} {s : Shared}
theorem over_gen {A : Around} {elt : Expr} {gs : List Comprehension} {scope : Scope} {pos : Pos} {it acc : Value} {cenv : Env} : A.over (.compLoop (.GeneratorExp elt gs scope pos) 0 it acc cenv) [] = A.deeper cenv := by
  first
    | rfl
    | (obtain ⟨hd, d, fr, gs, u⟩ := A; simp [Around.over, Around.deeper, marksOver, frameCount, unitsOf, envsOf, guardsOf, pushEnvs, pushGuards, Code.envs, Code.env?, Code.isFrame, Code.guards, Code.isGuard, Code.weight, Code.frames, Code.isCreation, Code.isCaller, Code.cUnits])
theorem gx_start {scope : Scope} {ys : List Str} {fp : List Addr} {B : Around} {C a bi : Addr} {code : Value} {go : Obj} {m : Str → Option Value} {H' : Hp} {s' : Shared} {own : List (Str × Nat)} {vs : List Nat} (I : Inv X pins σ H s) (ok : GxOk X.N X.env.scope scope own) (hN : X.N.Nodup) (hvs : ∀ p ∈ own, p.2 ∈ vs)
    (hbi : bi = builtinsNs) (hB : B.handled = none) (hfr : B.frames = some (genEnv scope (cloFrom X.env.cells scope.names []) C code bi X.env :: X.stack)) (hfp : ∀ b ∈ fp, FpOk X pins H b ∧ b < s.heap.objs.size)
    (hos : s'.os = s.os) (hg : AllBare s'.gens) (un : Un (frs X.stack) fp H H' s.heap s'.heap) (hok : HOk X.prog X.w H' s'.heap) (hC : s.heap.objs.size ≤ C) (hCn : H' C = none) (hns : s'.heap.Ns C m)
    (ha : s'.heap.get? a = some go) (ha0 : s.heap.objs.size ≤ a) (haC : a ≠ C) (haN : H' a = none) (hgo : ∀ v, go.data ≠ .cell v) (hkc : ∀ c v, s.heap.IsCell c v → H c = none → c ∉ fp → s'.heap.IsCell c v) :
    Inv (gxCx X B s H (genEnv scope (cloFrom X.env.cells scope.names []) C code bi X.env) ys fp [(a, go)]) [] (wipe (σ ++ List.replicate ys.length none) vs) H' s' := by
  subst hbi
  have hfree : ∀ y ∈ scope.names, y.2 = .free → ∃ c, X.env.cells.lookup y.1 = some c := fun y hy e => by
    rcases ok.free y hy e with k | k
    · exact I.ok.has _ (.inl k)
    · exact I.ok.has _ (.inr k)
  have cm : ∀ {y c}, (y, c) ∈ cloFrom X.env.cells scope.names [] → X.env.cells.lookup y = some c ∧ c < s.heap.objs.size := fun {y c} hm => by
    rcases cloFrom_mem hm with hm | ⟨h1, rfl⟩
    · cases hm
    · obtain ⟨c, hc⟩ := hfree _ h1 rfl
      rw [hc]
      obtain ⟨w, z⟩ := I.cell _ _ hc
      exact ⟨rfl, z.lt⟩
  have look : ∀ {y}, scope.names.lookup y = some .free → ∃ c, (cloFrom X.env.cells scope.names []).lookup y = some c ∧ X.env.cells.lookup y = some c := fun {y} hl => by
    obtain ⟨c', e'⟩ := mem_lookup (cloFrom_has (cells := X.env.cells) (acc := []) (PySem.mem_of_lookup hl))
    exact ⟨c', e', (cm (PySem.mem_of_lookup e')).1⟩
  have cellK : ∀ {y c}, (cloFrom X.env.cells scope.names []).lookup y = some c → ∀ v, s.heap.IsCell c v → s'.heap.IsCell c v := fun {y c} e v z =>
    hkc c v z (I.freeC _ _ (cm (PySem.mem_of_lookup e)).1) fun hb => (hfp c hb).1.2.2.2.2.1 _ _ (cm (PySem.mem_of_lookup e)).1 rfl
  have okB : (gxCx X B s H (genEnv scope (cloFrom X.env.cells scope.names []) C code builtinsNs X.env) ys fp [(a, go)]).Ok := by
    refine ⟨I.ok.mod, ok.kind, I.ok.glob, rfl, hC, fun y z c e1 e2 => I.ok.inj y z c (cm (PySem.mem_of_lookup e1)).1 (cm (PySem.mem_of_lookup e2)).1, fun y hy => ?_, fun y c z e => absurd z (by simp), fun _ => hB, hfr, .inr ⟨rfl, rfl⟩,
      fun b hb => ⟨Nat.ne_of_lt (Nat.lt_of_lt_of_le (hfp b hb).2 hC), fun y c e z => (hfp b hb).1.2.2.2.2.1 y c (cm (PySem.mem_of_lookup e)).1 z⟩, I.bs, Nat.le_trans I.ok.bsz I.sz, fun b o e hb => ?_, fun b hb z => ?_, I.stack, I.stkFree⟩
    · rcases hy with hy | hy
      · exact absurd rfl (ok.cell _ (PySem.mem_of_lookup (show scope.names.lookup y = some .cell from hy)))
      · obtain ⟨c, h1, _⟩ := look (show scope.names.lookup y = some .free from hy)
        exact ⟨c, h1⟩
    · rcases (hfp b hb).1.2.2.2.1 with z | z
      · exact I.ok.noex b o e z
      · exact absurd (Nat.lt_of_lt_of_le (Heap.lt_size e) (Nat.le_trans I.ok.bsz z)) (Nat.lt_irrefl _)
    · rcases List.mem_cons.mp (I.stkSub b z) with z | z
      · exact (hfp b hb).1.2.1 z
      · exact (hfp b hb).1.2.2.1 z
  refine ⟨okB, hos, hg, un, ⟨m, hns, fun i y v e1 e2 e3 => ?_⟩, fun y c e => ?_, hCn, fun y c e => ?_, fun p hp => ?_, hok, ?_⟩
  · obtain ⟨e2, hiv⟩ := wipe_some e2
    have hi : i < σ.length := by
      by_cases hi : i < σ.length
      · exact hi
      · rw [List.getElem?_append_right (by omega), List.getElem?_replicate] at e2
        split at e2 <;> cases e2
    rw [List.getElem?_append_left hi] at e2
    have e1 : (X.N ++ ys)[i]? = some y := e1
    rw [List.getElem?_append_left (by rw [← I.len]; exact hi)] at e1
    have hfr' : scope.names.lookup y = some .free := by
      rcases (show Vis scope y from e3) with e | e | e
      · rcases ok.own _ (PySem.mem_of_lookup e) rfl with z | z
        · obtain ⟨p, hp, hpy⟩ := List.mem_map.mp z
          have e4 := ok.ix p hp
          rw [show p.1 = y from hpy] at e4
          rw [nodup_ix hN e1 e4] at hiv
          exact absurd (hvs p hp) hiv
        · exact absurd (List.mem_of_getElem? e1) z
      · exact absurd rfl (ok.cell _ (PySem.mem_of_lookup e))
      · exact e
    obtain ⟨m0, hn, hl⟩ := I.loc
    have hvis : Vis X.env.scope y := (ok.free _ (PySem.mem_of_lookup hfr') rfl).elim (fun k => .inr (.inl k)) (fun k => .inr (.inr k))
    obtain ⟨u, r, q⟩ := hl i y v e1 e2 hvis
    refine ⟨u, r, .inr ⟨.inr hfr', ?_⟩⟩
    obtain ⟨c, h1, h2⟩ := look hfr'
    rcases q with ⟨k, _⟩ | ⟨_, c', e', z⟩
    · have k : X.env.scope.names.lookup y = some .local := k
      rcases ok.free _ (PySem.mem_of_lookup hfr') rfl with k' | k' <;> rw [show X.env.scope.names.lookup y = _ from k'] at k <;> cases k
    · rw [h2] at e'
      cases e'
      exact ⟨c, h1, cellK h1 _ z⟩
  · obtain ⟨v, z⟩ := I.cell _ _ (cm (PySem.mem_of_lookup e)).1
    exact ⟨v, cellK e v z⟩
  · have h1 := (cm (PySem.mem_of_lookup e)).1
    obtain ⟨v, z⟩ := I.cell _ _ h1
    obtain ⟨oc, hoc, _⟩ := z
    exact un.free c oc hoc (I.freeC _ _ h1) fun hb => (hfp c hb).1.2.2.2.2.1 _ _ h1 rfl
  · have e : p = (a, go) := by
      have q : p ∈ [(a, go)] ++ ([] : List (Addr × Obj)) := hp
      simpa using q
    subst e
    refine ⟨ha, haN, haC, fun z => ?_, hgo⟩
    have := I.stack.mem z
    obtain ⟨_, o, ho, _⟩ := this
    exact absurd (Nat.lt_of_lt_of_le (Heap.lt_size ho) ha0) (Nat.lt_irrefl _)
  · show _ = (X.N ++ ys).length
    rw [wipe_length, List.length_append, List.length_append, List.length_replicate, I.len]
end
/-! the walk of a generator expression that hands out bools -/
section
open PySem.Spec PyProof.Rows GenW
/-- the end of the generator's run: nothing is left -/
def gxR (X' : Cx) (σ : L2.St) (Fi : Hp → Prop) : GenEnd := fun _ _ r s1 => r = .ok .next ∧ ∃ H', Inv X' [] σ H' s1 ∧ Fi H'
/-- a bool is handed out; c: the bool that stops the walk -/
def gxY (X' : Cx) (σ : L2.St) (c : Bool) (Fl : Hp → Prop) : Protocol := fun _ _ v s kap =>
  ∃ (b : Bool) (H' : Hp), v = .bool b ∧ Inv X' [] σ H' s ∧ (b = c → Fl H') ∧ (b = !c → ∀ s'' : Shared, s''.heap = s.heap → s''.os = s.os → AllBare s''.gens → kap (.send .none) s'')
/-- another state with the same heap -/
theorem inv_same {X' : Cx} {pins : List (Addr × Obj)} {σ : L2.St} {H : Hp} {s s' : Shared} (I : Inv X' pins σ H s) (h : s'.heap = s.heap) (o : s'.os = s.os) (g : AllBare s'.gens) : Inv X' pins σ H s' := by
  refine I.call' (ch := []) o ?_ (by rw [h]; exact I.hok) g (fun b z => absurd z (by simp))
  rw [h]
  exact Un.refl
/-- a turn of the walk: W by the turn and a measure -/
def GxTurn (J : It) (g : TG) (te : TE) (σ : L2.St) (vs : List Nat) (c : Bool) (Fi Fl : Hp → Prop) (W : Nat → Nat → Hp → Prop) : Prop := ∀ i m H, W i m H →
  (J.stop i H ∧ Fi H) ∨ (J.go i H ∧ ∃ Nx : Hp → Prop, (∀ H', Nx H' → ∃ m', m' < m ∧ W (i + 1) m' H') ∧ ∀ x H', J.yld i H x H' → g x σ H' fun σ2 H2 => wipe σ2 vs = σ ∧ te σ2 H2 fun y H3 => ∃ b, y = .bl b ∧ (b = c → Fl H3) ∧ (b = !c → Nx H3))
section
variable {X' : Cx} {B0 : Around} {σ : L2.St} {vs : List Nat} {c : Bool} {Fi Fl : Hp → Prop} {W : Nat → Nat → Hp → Prop} {elt tg iter : Expr} {scope : Scope} {pos : Pos} {it : Addr} {fp : List Addr} {tn : Nat → Heap → Prop} {J : It} {g : TG} {te : TE} {k : Nat}
theorem weak_wipe {vs : List Nat} {pins : List (Addr × Obj)} {σ2 : L2.St} {H : Hp} {s : Shared} (hl : σ.length = X'.N.length) (I : Inv X' pins σ2 H s) (h : wipe σ2 vs = σ) : Inv X' pins σ H s := by
  refine I.weak (hl.trans I.len.symm) fun j v e => ?_
  rw [← h] at e
  exact (wipe_some e).1
theorem seg_gx (hA : X'.A = B0.over (.compLoop (.GeneratorExp elt [⟨tg, iter, [], 0⟩] scope pos) 0 (.ref it) .none X'.env) []) (hco : X'.env.scope.isCoroutine = false) (hcalm : X'.calm = true) (hxe : X'.xe = fun _ _ => False) (hex : X'.ex = fp)
    (hpn : ∀ p ∈ X'.pn, ∀ b ∈ fp, p.1 ≠ b) (T : Turn X'.prog X'.w X'.K tg J fp it tn) (hg : PG X' tg g) (he : PE X' elt te) (hl : σ.length = X'.N.length) (turn : GxTurn J g te σ vs c Fi Fl W) :
    ∀ (n i m : Nat) (s₀ s : Shared) (H : Hp), m < n → Inv X' [] σ H s → tn i s.heap → (∀ b ∈ fp, H b = none) → W i m H →
      Seg (model X'.prog X'.w) B0 (gxR X' σ Fi) (gxY X' σ c Fl) n s₀ (.compLoop (.GeneratorExp elt [⟨tg, iter, [], 0⟩] scope pos) 0 (.ref it) .none X'.env)
        ((model X'.prog X'.w).den (.compLoop (.GeneratorExp elt [⟨tg, iter, [], 0⟩] scope pos) 0 (.ref it) .none X'.env)) [] s := by
  have stat : ∀ {σ' : L2.St} {H' : Hp} {s' : Shared}, Inv X' [] σ' H' s' → (∀ b ∈ fp, H' b = none) → ∀ b ∈ fp, FpOk X' [] H' b := fun {σ' H' s'} I' hn b hb => by
    have hb' : b ∈ X'.ex := by rw [hex]; exact hb
    exact ⟨hn b hb, (I'.ok.exf b hb').1, I'.ok.exfs b hb', .inl hb', fun x c e => (I'.ok.exf b hb').2 x c e, fun p hp => hpn p (by simpa using hp) b hb⟩
  have noE : ∀ {e : Value} {s : Shared} {G : Prop}, X'.xe e s → G := fun {e s G} h => by rw [hxe] at h; exact h.elim
  intro n
  induction n with
  | zero => intro i m s₀ s H hm; omega
  | succ n ih =>
    intro i m s₀ s H hm I st hn w
    show Seg _ B0 _ _ _ s₀ _ ((compTurn (.GeneratorExp elt [⟨tg, iter, [], 0⟩] scope pos) 0 (.ref it) .none X'.env).onRaise (leaving X'.env)) [] s
    rw [compTurn_gen, Sem.onRaise_eq_wrap]
    refine seg_bind_wrap (wpAny_standAt ?_)
    rcases turn i m H w with ⟨stop, fi⟩ | ⟨go, Nx, hNx, step⟩
    · have q := T.done X' rfl rfl rfl hcalm i [] s σ H (fun _ _ => False) I (stat I hn) st stop
      rw [hA] at q
      refine seg_bind_wrap (wpAny_mono q (fun r s6 h6 => ?_) fun _ _ e => e.elim)
      obtain ⟨hr, I6⟩ := h6
      subst hr
      exact seg_end (.ok .next) ⟨rfl, H, I6, fi⟩
    · have q := T.item X' rfl rfl rfl hcalm i [] s σ H (fun _ _ => False) I (stat I hn) st go
      rw [hA] at q
      refine seg_bind_wrap (wpAny_mono q (fun r s6 h6 => ?_) fun _ _ e => e.elim)
      obtain ⟨u, hr, h6⟩ := h6
      subst hr
      refine seg_bind_wrap (wpAny_mono h6 (fun _ s7 h7 => ?_) fun _ _ e => e.elim)
      obtain ⟨x, H7, I7, r7, y7, st7, n7⟩ := h7
      have I7' := I7.pinned (stat I7 n7) (T.obj _ _ st7)
      have q2 := hg.run _ s7 σ H7 x u _ I7' r7 (step x H7 y7)
      rw [hA] at q2
      refine seg_bind_wrap (wpAny_mono q2 (fun _ s8 h8 => ?_) fun _ _ e => noE e)
      obtain ⟨σ8, H8, I8, hw8, q8⟩ := h8
      refine seg_bind_wrap (wpAny_pure ?_)
      simp only [if_true]
      have hy : ∀ v, yieldOut X'.env v = yieldValue v := fun v => by simp only [yieldOut, hco, Bool.false_eq_true, if_false]
      simp only [hy]
      rw [Sem.bind_eq_wrap', Sem.bind_eq_wrap', Sem.wrap_wrap, Sem.wrap_wrap]
      have q3 := he.run _ s8 σ8 H8 _ I8 q8
      rw [hA] at q3
      refine seg_wrap (wpAny_mono q3 (fun z s10 h10 => ?_) fun _ _ e => noE e)
      obtain ⟨yv, H10, I10, r10, b, rfl, hfl, hnx⟩ := h10
      cases r10
      have pin' : ∀ b ∈ fp, ∀ o, s7.heap.get? b = some o → s10.heap.get? b = some o ∧ H10 b = none := fun b hb o e =>
        let z := I10.pin (b, o) (List.mem_append_right _ (List.mem_append_right _ (mem_pinsAt hb e)))
        ⟨z.1, z.2.1⟩
      have I11 : Inv X' [] σ H10 s10 := weak_wipe hl (I10.unpinned (pins := [])) hw8
      have n11 : ∀ b ∈ fp, H10 b = none := fun b hb => by
        obtain ⟨o, e, _⟩ := T.obj _ _ st7 b hb
        exact (pin' b hb o e).2
      have st11 : tn (i + 1) s10.heap := T.keep _ _ _ st7 fun b hb o e => (pin' b hb o e).1
      refine seg_at (seg_yield rfl rfl rfl ⟨b, H10, rfl, I11, hfl, fun hb s'' eh eo eb => ?_⟩)
      obtain ⟨m', hm', w'⟩ := hNx H10 (hnx hb)
      exact seg_again rfl (ih (i + 1) m' s'' s'' H10 (by omega) (inv_same I11 eh eo eb) (by rw [eh]; exact st11) n11 w')
end
end
section
open PySem.Spec PyProof.Rows GenW
section
variable {X' : Cx} {A : Around} {σ : L2.St} {c : Bool} {Fi Fl : Hp → Prop} {R : Result → Shared → Prop} {a : Addr} {g : Nat} {go : Obj}
/-- one draw -/
theorem gx_next (hh : A.handled = none) (hd : A.depth < recursionLimit) (hgen : ∀ h : Heap, h.get? a = some go → h.IsGen a g) {n : Nat} {s : Shared} {Q : Option Value → Shared → Prop} {E : Value → Shared → Prop} (hg : s.heap.IsGen a g) (hl : s.heap.NoLimit)
    (hpn : (a, go) ∈ X'.pn)
    (hgs : ∃ gs, s.gens[g]? = some gs ∧ gs.Goes (model X'.prog X'.w) A.in1 (gxR X' σ Fi) (gxY X' σ c Fl) n (.send .none) (s.setGen g .running))
    (hend : ∀ s' H', Inv X' [] σ H' s' → Fi H' → Q none s')
    (hstop : ∀ s' H', Inv X' [] σ H' s' → Fl H' → Q (some (.bool c)) s')
    (hgoes : ∀ s' H' m, n = m + 1 → Inv X' [] σ H' s' → (∃ gs, s'.gens[g]? = some gs ∧ gs.Goes (model X'.prog X'.w) A.in1 (gxR X' σ Fi) (gxY X' σ c Fl) m (.send .none) (s'.setGen g .running)) → Q (some (.bool (!c))) s') :
    wpAny (model X'.prog X'.w) A (pyNext (.ref a)) Q E s := by
  obtain ⟨gs, hgs, hgo⟩ := hgs
  have hgl : g < s.gens.size := (Array.getElem?_eq_some_iff.mp hgs).1
  refine wpAny_gsz (n := g + 1) hgl (wpAny_pyNext_genexpQ (P := fun _ _ s1 => ∃ H', Inv X' [] σ H' s1 ∧ Fi H') (Y := gxY X' σ c Fl) (n := n) hh hl hd hg hgs hgo (fun v s₁ gs' hbare hv => ?_) fun s₁ hp h' hk => ?_)
  · intro hsz
    obtain ⟨b, H', rfl, I, hfl, hkap⟩ := hv
    have hsz1 : g < s₁.gens.size := by
      have q : (s₁.setGen g gs').gens.size = s₁.gens.size := setGen_size _ _ _
      have hsz' : g + 1 ≤ (s₁.setGen g gs').gens.size := hsz
      omega
    have I2 : Inv X' [] σ H' (s₁.setGen g gs') := inv_same I rfl rfl (allBare_setGen I.bare hbare)
    by_cases hb : b = c
    · subst hb
      exact hstop _ H' I2 (hfl rfl)
    · have hb' : b = !c := by revert hb; cases b <;> cases c <;> decide
      subst hb'
      have hk := hkap rfl ((s₁.setGen g gs').setGen g .running) rfl rfl (allBare_setGen (allBare_setGen I.bare hbare) rfl)
      cases n with
      | zero => exact hk.elim
      | succ m => exact hgoes _ H' m rfl I2 ⟨gs', setGen_at hsz1, hk⟩
  · intro hsz
    obtain ⟨H', I, fi⟩ := hp
    refine hend _ H' (I.call' (ch := []) (s' := { s₁.setGen g .finished with heap := h' }) rfl (Un.kept hk) (I.hok.kept hk) (allBare_setGen I.bare rfl) fun b z => absurd z (by simp)) fi
theorem gx_all (hh : A.handled = none) (hd : A.depth < recursionLimit) (hgen : ∀ h : Heap, h.get? a = some go → h.IsGen a g) (hpn : (a, go) ∈ X'.pn) (hc : c = false)
    (hend : ∀ s' H', Inv X' [] σ H' s' → Fi H' → R (.ok (.ret (.bool true))) s') (hstop : ∀ s' H', Inv X' [] σ H' s' → Fl H' → R (.ok (.ret (.bool false))) s') :
    ∀ (n : Nat) (s : Shared), s.heap.IsGen a g → s.heap.NoLimit →
      (∃ gs, s.gens[g]? = some gs ∧ gs.Goes (model X'.prog X'.w) A.in1.in1 (gxR X' σ Fi) (gxY X' σ c Fl) n (.send .none) (s.setGen g .running)) →
      codeAny (model X'.prog X'.w) A (.builtin "all.loop" ⟨[.ref a], []⟩) R s := by
  subst hc
  have loop : ∀ (n : Nat) (s : Shared), s.heap.IsGen a g → s.heap.NoLimit →
      (∃ gs, s.gens[g]? = some gs ∧ gs.Goes (model X'.prog X'.w) A.in1.in1 (gxR X' σ Fi) (gxY X' σ false Fl) n (.send .none) (s.setGen g .running)) →
      (∀ s' H' m, n = m + 1 → Inv X' [] σ H' s' → (∃ gs, s'.gens[g]? = some gs ∧ gs.Goes (model X'.prog X'.w) A.in1.in1 (gxR X' σ Fi) (gxY X' σ false Fl) m (.send .none) (s'.setGen g .running)) → codeAny (model X'.prog X'.w) A (.builtin "all.loop" ⟨[.ref a], []⟩) R s') →
      codeAny (model X'.prog X'.w) A (.builtin "all.loop" ⟨[.ref a], []⟩) R s := by
    intro n s hg hl hgs hrec
    refine codeAny_builtin F.entry_all_loop ?_
    rw [Around.under_plainId F.plain_all_loop _]
    show wpAny _ A.in1 (pyNext (.ref a) >>= _) _ _ s
    refine wpAny_bind (gx_next (A := A.in1) hh hd hgen hg hl hpn hgs (fun s' H' I fi => ?_) (fun s' H' I fl => ?_) fun s' H' m hn I hgs' => ?_)
    · exact wpAny_bind (wpAny_rule (wpAny_pure (hend s' H' I fi)))
    · refine wpAny_bind (wpAny_holding (wpAny_truthy_bool ?_))
      refine wpAny_bind (wpAny_letGo ?_)
      simp only [Bool.false_eq_true, if_false]
      exact wpAny_bind (wpAny_rule (wpAny_pure (hstop s' H' I fl)))
    · refine wpAny_bind (wpAny_holding (wpAny_truthy_bool ?_))
      refine wpAny_bind (wpAny_letGo ?_)
      simp only [Bool.not_false, if_true]
      exact wpAny_pure ⟨plainId_quiet F.plain_all_loop _, hrec s' H' m hn I hgs'⟩
  intro n
  induction n with
  | zero => exact fun s hg hl hgs => loop 0 s hg hl hgs fun _ _ m hn => absurd hn (by omega)
  | succ n ih =>
    exact fun s hg hl hgs => loop (n + 1) s hg hl hgs fun s' H' m hn I hgs' => by
      obtain rfl : m = n := by omega
      exact ih s' (hgen _ (I.pin (a, go) (List.mem_append_left _ hpn)).1) I.nolimit hgs'
theorem gx_any (hh : A.handled = none) (hd : A.depth < recursionLimit) (hgen : ∀ h : Heap, h.get? a = some go → h.IsGen a g) (hpn : (a, go) ∈ X'.pn) (hc : c = true)
    (hend : ∀ s' H', Inv X' [] σ H' s' → Fi H' → R (.ok (.ret (.bool false))) s') (hstop : ∀ s' H', Inv X' [] σ H' s' → Fl H' → R (.ok (.ret (.bool true))) s') :
    ∀ (n : Nat) (s : Shared), s.heap.IsGen a g → s.heap.NoLimit →
      (∃ gs, s.gens[g]? = some gs ∧ gs.Goes (model X'.prog X'.w) A.in1.in1 (gxR X' σ Fi) (gxY X' σ c Fl) n (.send .none) (s.setGen g .running)) →
      codeAny (model X'.prog X'.w) A (.builtin "any.loop" ⟨[.ref a], []⟩) R s := by
  subst hc
  have loop : ∀ (n : Nat) (s : Shared), s.heap.IsGen a g → s.heap.NoLimit →
      (∃ gs, s.gens[g]? = some gs ∧ gs.Goes (model X'.prog X'.w) A.in1.in1 (gxR X' σ Fi) (gxY X' σ true Fl) n (.send .none) (s.setGen g .running)) →
      (∀ s' H' m, n = m + 1 → Inv X' [] σ H' s' → (∃ gs, s'.gens[g]? = some gs ∧ gs.Goes (model X'.prog X'.w) A.in1.in1 (gxR X' σ Fi) (gxY X' σ true Fl) m (.send .none) (s'.setGen g .running)) → codeAny (model X'.prog X'.w) A (.builtin "any.loop" ⟨[.ref a], []⟩) R s') →
      codeAny (model X'.prog X'.w) A (.builtin "any.loop" ⟨[.ref a], []⟩) R s := by
    intro n s hg hl hgs hrec
    refine codeAny_builtin F.entry_any_loop ?_
    rw [Around.under_plainId F.plain_any_loop _]
    show wpAny _ A.in1 (pyNext (.ref a) >>= _) _ _ s
    refine wpAny_bind (gx_next (A := A.in1) hh hd hgen hg hl hpn hgs (fun s' H' I fi => ?_) (fun s' H' I fl => ?_) fun s' H' m hn I hgs' => ?_)
    · exact wpAny_bind (wpAny_rule (wpAny_pure (hend s' H' I fi)))
    · refine wpAny_bind (wpAny_holding (wpAny_truthy_bool ?_))
      refine wpAny_bind (wpAny_letGo ?_)
      simp only [if_true]
      exact wpAny_bind (wpAny_rule (wpAny_pure (hstop s' H' I fl)))
    · refine wpAny_bind (wpAny_holding (wpAny_truthy_bool ?_))
      refine wpAny_bind (wpAny_letGo ?_)
      simp only [Bool.not_true, Bool.false_eq_true, if_false]
      exact wpAny_pure ⟨plainId_quiet F.plain_any_loop _, hrec s' H' m hn I hgs'⟩
  intro n
  induction n with
  | zero => exact fun s hg hl hgs => loop 0 s hg hl hgs fun _ _ m hn => absurd hn (by omega)
  | succ n ih =>
    exact fun s hg hl hgs => loop (n + 1) s hg hl hgs fun s' H' m hn I hgs' => by
      obtain rfl : m = n := by omega
      exact ih s' (hgen _ (I.pin (a, go) (List.mem_append_left _ hpn)).1) I.nolimit hgs'
end
end
section
open PySem.Spec PyProof.Rows GenW
section
variable {X : Cx} {pins : List (Addr × Obj)} {σ : L2.St} {H : Hp} {s : Shared}
theorem un_tab {fs ex : List Addr} {H : Hp} {T : Addr} {ps more : Array Value} {h h' : Heap} (hT : H T = some (.tbl ps)) (k : ∀ b o, b ≠ T → h.get? b = some o → h'.get? b = some o) (hm : ∃ o, h'.get? T = some o) :
    Un fs ex H (upd H T (.tbl (ps ++ more))) h h' := by
  have nN : ∀ b, H b = none → b ≠ T := fun b e z => by rw [z, hT] at e; cases e
  have nP : ∀ b u, H b = some u → (∀ q, u ≠ .tbl q) → b ≠ T := fun b u e q z => by
    rw [z, hT] at e
    exact q ps (Option.some.inj e).symm
  refine ⟨fun b o e n _ _ => k b o (nN b n) e, fun b o e n _ _ => ⟨o.slots, k b o (nN b n) e⟩, fun b o _ n _ => by rw [upd_ne (nN b n)]; exact n, fun b o e _ => ?_, fun b xs e => by rw [upd_ne (nP b _ e fun q z => by cases z)]; exact e, fun b o u e => by rw [upd_ne (nP b _ e fun q z => by cases z)]; exact e, fun b qs e => ?_⟩
  · by_cases hb : b = T
    · rw [hb]; exact hm
    · exact ⟨o, k b o hb e⟩
  · by_cases hb : b = T
    · rw [hb, hT] at e
      cases e
      rw [hb, upd_same]
      exact ⟨more, rfl⟩
    · rw [upd_ne hb, e]
      exact ⟨#[], by simp⟩
theorem gx_gen {c0 T : Addr} {elt tg iter : Expr} {gpos : Pos} {scope : Scope} {ys : List Str} {wi : TI} {g : TG} {te : TE} {k : Nat} {own : List (Str × Nat)} {vs : List Nat} {cb : Bool} {Fi Fl : Hp → Prop} {Q' : Value → Shared → Prop} (hN : X.N.Nodup) (hvs : ∀ p ∈ own, p.2 ∈ vs)
    (hr : Room (k + 2) X.A) (TB : GxR.TabB X.base X.mg c0 T) (hcode : X.env.code = .ref c0) (ok : GxOk X.N X.env.scope scope own) (hi : PI X tg iter wi)
    (hg : ∀ (B : Around) (s : Shared) (H : Hp) (C : Addr) (cl : List (Str × Addr)) (code : Value) (fp : List Addr) (pn : List (Addr × Obj)), Room k B → PG (gxCx X B s H (genEnv scope cl C code builtinsNs X.env) ys fp pn) tg g)
    (he : ∀ (B : Around) (s : Shared) (H : Hp) (C : Addr) (cl : List (Str × Addr)) (code : Value) (fp : List Addr) (pn : List (Addr × Obj)), Room k B → PE (gxCx X B s H (genEnv scope cl C code builtinsNs X.env) ys fp pn) elt te)
    (hs : ∀ v, genFold iter X.env v = pure v) (I : Inv X pins σ H s)
    (h : wi σ H fun J H1 => GxR.TabG H1 T ∧ ∀ H1', GxR.Tabbed T H1 H1' → ∃ W : Nat → Nat → Hp → Prop, (∃ m, W 0 m H1') ∧ GxTurn J g te (wipe (σ ++ List.replicate ys.length none) vs) vs cb Fi Fl W)
    (hQ' : ∀ (B : Around) (s2 : Shared) (H2 : Hp) (cenv : Env) (fp : List Addr) (a : Addr) (gn : Nat) (go : Obj) (n : Nat) (s5 : Shared), (∀ h : Heap, h.get? a = some go → h.IsGen a gn) → s5.heap.IsGen a gn → s5.heap.NoLimit →
      (∃ gs, s5.gens[gn]? = some gs ∧ gs.Goes (model X.prog X.w) X.A.in1.in1 (gxR (gxCx X B s2 H2 cenv ys fp [(a, go)]) (wipe (σ ++ List.replicate ys.length none) vs) Fi) (gxY (gxCx X B s2 H2 cenv ys fp [(a, go)]) (wipe (σ ++ List.replicate ys.length none) vs) cb Fl) n (.send .none) (s5.setGen gn .running)) →
      (∀ s' H', Inv (gxCx X B s2 H2 cenv ys fp [(a, go)]) [] (wipe (σ ++ List.replicate ys.length none) vs) H' s' → Inv X pins σ H' s') → Q' (.ref a) s5) :
    wpAny (model X.prog X.w) X.A (eval (.GeneratorExp elt [⟨tg, iter, [], 0⟩] scope gpos) X.env) Q' X.xe s := by
  have hfree : ∀ y ∈ scope.names, y.2 = .free → ∃ c, X.env.cells.lookup y.1 = some c := fun y hy e => by
    rcases ok.free y hy e with k | k
    · exact I.ok.has _ (.inl k)
    · exact I.ok.has _ (.inr k)
  refine wpAny_GeneratorExp_make ok.co (closure_ok hfree) ok.cell ok.dot ok.kind hr.depth ?_ hs
  refine thn (hi.run pins s σ H _ I h) fun xv t1 h1 => thn h1 fun itv s2 h2 => ?_
  obtain ⟨it, fp, tn, J, H2, rfl, I2, Tn, st2, f2, ⟨ps, hT, htri⟩, hq⟩ := h2
  refine ⟨I2.nolimit, ?_⟩
  have tT : s2.heap.get? T = some { cls := .none, data := .fields ps } := I2.hok T _ hT
  have lT : T < s2.heap.objs.size := Heap.lt_size tT
  have cd : PySem.W.CodeHd s2.heap c0 T := TB.code.keeps fun b u e => I2.bk b u e
  have szf : ∀ b ∈ fp, b < s2.heap.objs.size := fun b hb => by
    obtain ⟨o, e, _⟩ := Tn.obj _ _ st2 b hb
    exact Heap.lt_size e
  have run : ∀ (code : Value) (h3 : Heap) (tk : Nat) (ps' : Array Value), Heap.ExtBut T s2.heap h3 → s2.heap.objs.size ≤ h3.objs.size → h3.get? T = some { cls := .none, data := .fields ps' } → (∃ more, ps' = ps ++ more) → TriplesOk ps'.toList →
      wpAny (model X.prog X.w) X.A (builtinsFor X.env.globals X.env.builtins) (fun bi s₄ =>
        ∀ h', h'.Ns s₄.heap.objs.size (fun y => if y = ".0" then some (Value.ref it) else none) → Heap.SameBut s₄.heap.objs.size (s₄.heap.push { cls := .type "frame", data := .dict #[] }) h' →
          Q' (.ref h'.objs.size) { s₄ with
            gens := s₄.gens.push (.fresh (.compStart (.GeneratorExp elt [⟨tg, iter, [], 0⟩] scope gpos) 0 (.ref it) .none (genEnv scope (cloFrom X.env.cells scope.names []) s₄.heap.objs.size code bi X.env))),
            toks := s₄.toks + 1 + 1 + 1,
            heap := h'.push { cls := .type "generator", data := .fields #[.int s₄.gens.size 0, .str "<genexpr>" (s₄.toks + 1), .str (X.env.qual ++ "<genexpr>") (s₄.toks + 1 + 1)] } }) X.xe { s2 with heap := h3, toks := tk } := by
    intro code h3 tk ps' hx hsz hT3 hmore ht3
    obtain ⟨bm, ob, e1, e2, e3, e4, e5, e6, e7, e8⟩ := TB.bm
    have up3 : ∀ b u, b ≠ T → s2.heap.get? b = some u → h3.get? b = some u := fun b u hb e => hx b u hb e
    refine wpAny_builtinsFor (m := X.mg) (by rw [I2.ok.glob]; exact (I2.mod.glob.keeps I2.bk).extBut hx TB.gP) e1 e2 (up3 _ _ e4 (I2.bk _ _ e5)) e6 e7 e8 ?_
    intro h' hns hsb
    replace hns : h'.Ns h3.objs.size (fun y => if y = ".0" then some (Value.ref it) else none) := hns
    replace hsb : Heap.SameBut h3.objs.size (h3.push { cls := .type "frame", data := .dict #[] }) h' := hsb
    obtain ⟨more, rfl⟩ := hmore
    have hCa : (h3.objs.size : Nat) < h'.objs.size := hns.lt
    have up5 : ∀ b u, h3.get? b = some u → h'.get? b = some u := fun b u e => hsb.extBut b u (Nat.ne_of_lt (Heap.lt_size e)) (Heap.get?_push_of_some _ e)
    obtain ⟨go, hgo⟩ : ∃ go : Obj, go = { cls := .type "generator", data := .fields #[.int s2.gens.size 0, .str "<genexpr>" (tk + 1), .str (X.env.qual ++ "<genexpr>") (tk + 1 + 1)] } := ⟨_, rfl⟩
    have up : ∀ b u, b ≠ T → s2.heap.get? b = some u → (h'.push go).get? b = some u := fun b u hb e => Heap.get?_push_of_some _ (up5 b u (up3 b u hb e))
    have tT5 : (h'.push go).get? T = some { cls := .none, data := .fields (ps ++ more) } := Heap.get?_push_of_some _ (up5 _ _ hT3)
    have nT : ∀ b, H2 b = none → b ≠ T := fun b e z => by rw [z, hT] at e; cases e
    have nT' : ∀ b : Addr, s2.heap.objs.size ≤ b → b ≠ T := fun b hb z => by rw [z] at hb; exact Nat.lt_irrefl _ (Nat.lt_of_lt_of_le lT hb)
    have hgen : ∀ h : Heap, h.get? h'.objs.size = some go → h.IsGen h'.objs.size s2.gens.size := fun h e => ⟨go, _, _, e, by rw [hgo], by rw [hgo], by rw [hgo]⟩
    have hpush : (h'.push go).get? h'.objs.size = some go := Heap.get?_push_size _ (by rw [hgo]; rfl)
    have bare5 : AllBare (s2.gens.push (.fresh (.compStart (.GeneratorExp elt [⟨tg, iter, [], 0⟩] scope gpos) 0 (.ref it) .none (genEnv scope (cloFrom X.env.cells scope.names []) h3.objs.size code builtinsNs X.env)))) := AllBare.push I2.bare rfl
    have J5 := GxR.inv_tab (more := more) (h' := h'.push go) (g' := s2.gens.push (.fresh (.compStart (.GeneratorExp elt [⟨tg, iter, [], 0⟩] scope gpos) 0 (.ref it) .none (genEnv scope (cloFrom X.env.cells scope.names []) h3.objs.size code builtinsNs X.env)))) (d' := s2.drawn) (t' := tk + 1 + 1 + 1) I2 hT up tT5 bare5
    have un5 : Un (frs X.stack) fp H2 (upd H2 T (.tbl (ps ++ more))) s2.heap (h'.push go) := un_tab hT up ⟨_, tT5⟩
    obtain ⟨W, ⟨m0, w0⟩, turn⟩ := hq _ (⟨⟨ps ++ more, upd_same, ht3⟩, fun b hb => upd_ne hb⟩ : GxR.Tabbed T H2 (upd H2 T (.tbl (ps ++ more))))
    have hCn : upd H2 T (.tbl (ps ++ more)) h3.objs.size = none := by rw [upd_ne (nT' _ hsz)]; exact I2.hok.fresh hsz
    have han : upd H2 T (.tbl (ps ++ more)) h'.objs.size = none := by
      have q : (s2.heap.objs.size : Nat) ≤ h'.objs.size := Nat.le_of_lt (Nat.lt_of_le_of_lt hsz hCa)
      rw [upd_ne (nT' _ q)]; exact I2.hok.fresh q
    have hfr : (X.A.in1.in1.over (.compLoop (.GeneratorExp elt [⟨tg, iter, [], 0⟩] scope gpos) 0 (.ref it) .none (genEnv scope (cloFrom X.env.cells scope.names []) h3.objs.size code builtinsNs X.env)) []).frames = some (genEnv scope (cloFrom X.env.cells scope.names []) h3.objs.size code builtinsNs X.env :: X.stack) := by
      rw [over_gen]
      exact Around.frames_deeper I2.ok.frames
    have rB : Room k (X.A.in1.in1.over (.compLoop (.GeneratorExp elt [⟨tg, iter, [], 0⟩] scope gpos) 0 (.ref it) .none (genEnv scope (cloFrom X.env.cells scope.names []) h3.objs.size code builtinsNs X.env)) []) := by
      rw [over_gen]
      refine ⟨hr.hd, ?_, ?_⟩
      · have := hr.dp; show X.A.depth + 1 + 3 * k + 5 < _; omega
      · have := hr.un; show X.A.units + 1 + 1 + 3 + 16 * k + 200 < _; omega
    generalize hB : X.A.in1.in1.over (.compLoop (.GeneratorExp elt [⟨tg, iter, [], 0⟩] scope gpos) 0 (.ref it) .none (genEnv scope (cloFrom X.env.cells scope.names []) h3.objs.size code builtinsNs X.env)) [] = B at hfr rB
    have I5 := gx_start (ys := ys) (B := B) (C := h3.objs.size) (a := h'.objs.size) (code := code) (go := go) (H' := upd H2 T (.tbl (ps ++ more)))
      (s' := { s2 with gens := s2.gens.push (.fresh (.compStart (.GeneratorExp elt [⟨tg, iter, [], 0⟩] scope gpos) 0 (.ref it) .none (genEnv scope (cloFrom X.env.cells scope.names []) h3.objs.size code builtinsNs X.env))), toks := tk + 1 + 1 + 1, heap := h'.push go })
      I2 ok hN hvs (rfl : builtinsNs = builtinsNs) rB.hd hfr (fun b hb => ⟨f2 b hb, szf b hb⟩) rfl bare5 un5 J5.hok hsz hCn (hns.keeps fun b o e => Heap.get?_push_of_some _ e) hpush
      (Nat.le_of_lt (Nat.lt_of_le_of_lt hsz hCa)) (Nat.ne_of_gt hCa) han (fun v q => by rw [hgo] at q; cases q) fun c v z hn _ => by
        obtain ⟨oc, hoc, r⟩ := z
        exact ⟨oc, up c oc (nT c hn) hoc, r⟩
    have n5 : ∀ b ∈ fp, upd H2 T (.tbl (ps ++ more)) b = none := fun b hb => by rw [upd_ne (nT b (f2 b hb).1)]; exact (f2 b hb).1
    have st5 : tn 0 (h'.push go) := Tn.keep _ _ _ st2 fun b hb o e => up b o (nT b (f2 b hb).1) e
    have hgo' : ({ cls := .type "generator", data := .fields #[.int (s2.gens.size : Nat) 0, .str "<genexpr>" (tk + 1), .str (X.env.qual ++ "<genexpr>") (tk + 1 + 1)] } : Obj) = go := hgo.symm
    show Q' (.ref h'.objs.size) { s2 with gens := s2.gens.push (.fresh (.compStart (.GeneratorExp elt [⟨tg, iter, [], 0⟩] scope gpos) 0 (.ref it) .none (genEnv scope (cloFrom X.env.cells scope.names []) h3.objs.size code builtinsNs X.env))), toks := tk + 1 + 1 + 1, heap := h'.push { cls := .type "generator", data := .fields #[.int s2.gens.size 0, .str "<genexpr>" (tk + 1), .str (X.env.qual ++ "<genexpr>") (tk + 1 + 1)] } }
    rw [← hgo]
    refine hQ' B s2 H2 (genEnv scope (cloFrom X.env.cells scope.names []) h3.objs.size code builtinsNs X.env) fp h'.objs.size s2.gens.size go (m0 + 1) _ hgen (hgen _ hpush) J5.nolimit ⟨_, Array.getElem?_push_size .., rfl, ?_⟩ fun s' H' I' =>
      I2.call' (ch := fp) I'.os I'.base I'.hok I'.bare fun b hb => ⟨(f2 b hb).2.2.2.1, (f2 b hb).2.1, (f2 b hb).2.2.2.2.1, (f2 b hb).2.2.2.2.2⟩
    have loop : ∀ s6 : Shared, s6.heap = h'.push go → s6.os = s2.os → AllBare s6.gens → Seg (model X.prog X.w) X.A.in1.in1 _ _ (m0 + 1) s6 (.compLoop (.GeneratorExp elt [⟨tg, iter, [], 0⟩] scope gpos) 0 (.ref it) .none (genEnv scope (cloFrom X.env.cells scope.names []) h3.objs.size code builtinsNs X.env)) _ [] s6 := fun s6 q1 q2 q3 =>
      seg_gx (X' := gxCx X B s2 H2 (genEnv scope (cloFrom X.env.cells scope.names []) h3.objs.size code builtinsNs X.env) ys fp [(h'.objs.size, go)]) (B0 := X.A.in1.in1) hB.symm ok.co rfl rfl rfl
        (fun p hp b hb => by
          rw [List.mem_singleton.mp hp]
          exact Nat.ne_of_gt (Nat.lt_trans (Nat.lt_of_lt_of_le (szf b hb) hsz) hCa))
        Tn (hg B s2 H2 _ _ code fp _ rB) (he B s2 H2 _ _ code fp _ rB)
        (by show _ = (X.N ++ ys).length; rw [wipe_length, List.length_append, List.length_append, List.length_replicate, I2.len]) turn (m0 + 1) 0 m0 s6 s6 _ (Nat.lt_succ_self _) (inv_same I5 q1 q2 q3) (by rw [q1]; exact st5) n5 w0
    have lp := loop (Shared.setGen { s2 with gens := s2.gens.push (.fresh (.compStart (.GeneratorExp elt [⟨tg, iter, [], 0⟩] scope gpos) 0 (.ref it) .none (genEnv scope (cloFrom X.env.cells scope.names []) h3.objs.size code builtinsNs X.env))), toks := tk + 1 + 1 + 1, heap := h'.push go } s2.gens.size .running) rfl rfl (allBare_setGen bare5 rfl)
    show Seg _ X.A.in1.in1 _ _ _ _ _ ((compStart (.GeneratorExp elt [⟨tg, iter, [], 0⟩] scope gpos) 0 (.ref it) .none (genEnv scope (cloFrom X.env.cells scope.names []) h3.objs.size code builtinsNs X.env)).onRaise (leaving _)) [] _
    unfold compStart
    rw [Sem.onRaise_eq_wrap]
    show Seg _ X.A.in1.in1 _ _ _ _ _ ((ask >>= _).wrap _ _ _ _) [] _
    refine seg_bind_wrap (wpAny_askSetting ?_)
    split
    · exact seg_again rfl lp
    · first
        | exact seg_bind_wrap (wpAny_rule (seg_bind_wrap (wpAny_standAt (seg_bind_wrap (Tn.self _ 0 _ _ _ st5 (seg_again rfl lp))))))
        | (refine seg_bind_wrap (wpAny_rule ?_); show Seg _ X.A.in1.in1 _ _ _ _ _ ((standAt iter.pos >>= _).wrap _ _ _ _) [] _; exact seg_bind_wrap (wpAny_standAt (seg_bind_wrap (Tn.self _ 0 _ _ _ st5 (seg_again rfl lp)))))
  cases hf : codeAmong gpos ps.toList with
  | none =>
    refine wpAny_genexprCodeX hcode (cd.code tT htri) (cd.tab tT) hf fun c' h' tk hx hge hlt hco' _ htab' _ => ?_
    obtain ⟨_, _, _, _, _, _, _, _, _, _, _, _, _, _, _, _, _, _, _, htr, _⟩ := hco'
    exact run _ h' tk _ hx (Nat.le_trans hge (Nat.le_of_lt hlt)) htab'.2 ⟨_, rfl⟩ htr
  | some cv =>
    refine wpAny_genexprCode_hit hcode (cd.code tT htri) hf ?_
    exact run cv s2.heap s2.toks ps (Heap.ExtBut.refl _ _) (Nat.le_refl _) tT ⟨#[], by simp⟩ htri
end
end
section
open PySem.Spec PyProof.Rows GenW
/-- all(elt for tg in e), any(..): the element read in full; ny: how many names it has of its own; behind it the def's table may have grown -/
def tAllR (T : Addr) (wi : TI) (g : TG) (te : TE) (ny : Nat) (vs : List Nat) : TE := fun σ H Q => wi σ H fun J H1 => GxR.TabG H1 T ∧ ∀ H1', GxR.Tabbed T H1 H1' → ∃ W : Nat → Nat → Hp → Prop, (∃ m, W 0 m H1') ∧ GxTurn J g te (wipe (σ ++ List.replicate ny none) vs) vs false (fun H2 => Q (.bl true) H2) (fun H2 => Q (.bl false) H2) W
def tAnyR (T : Addr) (wi : TI) (g : TG) (te : TE) (ny : Nat) (vs : List Nat) : TE := fun σ H Q => wi σ H fun J H1 => GxR.TabG H1 T ∧ ∀ H1', GxR.Tabbed T H1 H1' → ∃ W : Nat → Nat → Hp → Prop, (∃ m, W 0 m H1') ∧ GxTurn J g te (wipe (σ ++ List.replicate ny none) vs) vs true (fun H2 => Q (.bl false) H2) (fun H2 => Q (.bl true) H2) W
section
variable {X : Cx}
theorem pe_allR {c0 T : Addr} {elt tg iter : Expr} {p pos gpos : Pos} {scope : Scope} {ys : List Str} {wi : TI} {g : TG} {te : TE} {k : Nat} {own : List (Str × Nat)} {vs : List Nat} (hN : X.N.Nodup) (hvs : ∀ p ∈ own, p.2 ∈ vs)
    (hr : Room (k + 2) X.A) (hgl : Gl X "all") (hm : X.mg "all" = none) (hb : bootBuiltins "all" = some (.builtin "all")) (TB : GxR.TabB X.base X.mg c0 T) (hcode : X.env.code = .ref c0) (ok : GxOk X.N X.env.scope scope own) (hi : PI X tg iter wi)
    (hg : ∀ (B : Around) (s : Shared) (H : Hp) (C : Addr) (cl : List (Str × Addr)) (code : Value) (fp : List Addr) (pn : List (Addr × Obj)), Room k B → PG (gxCx X B s H (genEnv scope cl C code builtinsNs X.env) ys fp pn) tg g)
    (he : ∀ (B : Around) (s : Shared) (H : Hp) (C : Addr) (cl : List (Str × Addr)) (code : Value) (fp : List Addr) (pn : List (Addr × Obj)), Room k B → PE (gxCx X B s H (genEnv scope cl C code builtinsNs X.env) ys fp pn) elt te)
    (hs : ∀ v, genFold iter X.env v = pure v)
    (hst : starEach [.GeneratorExp elt [⟨tg, iter, [], 0⟩] scope gpos] X.env = (false, eval (.GeneratorExp elt [⟨tg, iter, [], 0⟩] scope gpos) X.env) :: starEach [] X.env := by rfl) :
    PE X (.Call (.Name "all" p) [.GeneratorExp elt [⟨tg, iter, [], 0⟩] scope gpos] [] pos) (tAllR T wi g te ys.length vs) := by
  refine ⟨fun pins s σ H Q I h => wpAny_Call_Name_kw (ld_blt I hgl hm hb (PyProof.Rows.callWith_builtin1 ?_ hst (by rfl)))⟩
  rw [hst]
  show wpAny _ _ (spliced ((false, eval (.GeneratorExp elt [⟨tg, iter, [], 0⟩] scope gpos) X.env) :: backTo pos (starEach [] X.env))) _ _ s
  refine Calls.spliced_cons (gx_gen (cb := false) (Fi := fun H2 => Q (.bl true) H2) (Fl := fun H2 => Q (.bl false) H2) hN hvs hr TB hcode ok hi hg he hs I h fun B s2 H2 cenv fp a gn go n s5 hgen hig hlim hgs hback => ?_)
  refine Calls.spliced_nil ?_
  refine call_function_tree F.kind_all F.plain_all F.entry_all (F.args_all1 _) ?_
  unfold Builtin.«all»
  refine wpAny_bind (m := oneArg "all" _) (wpAny_pure ?_)
  refine wpAny_bind (wpAny_pyIter_gen hig ?_)
  refine wpAny_pure ⟨plainId_quiet F.plain_all_loop _, gx_all (X' := gxCx X B s2 H2 cenv ys fp [(a, go)]) (c := false) hr.hd hr.depth hgen (List.mem_singleton.mpr rfl) rfl (fun s' H' I' fi => ?_) (fun s' H' I' fl => ?_) n s5 hig hlim hgs⟩
  · exact ⟨.bl true, H', hback s' H' I', rfl, fi⟩
  · exact ⟨.bl false, H', hback s' H' I', rfl, fl⟩
theorem pe_anyR {c0 T : Addr} {elt tg iter : Expr} {p pos gpos : Pos} {scope : Scope} {ys : List Str} {wi : TI} {g : TG} {te : TE} {k : Nat} {own : List (Str × Nat)} {vs : List Nat} (hN : X.N.Nodup) (hvs : ∀ p ∈ own, p.2 ∈ vs)
    (hr : Room (k + 2) X.A) (hgl : Gl X "any") (hm : X.mg "any" = none) (hb : bootBuiltins "any" = some (.builtin "any")) (TB : GxR.TabB X.base X.mg c0 T) (hcode : X.env.code = .ref c0) (ok : GxOk X.N X.env.scope scope own) (hi : PI X tg iter wi)
    (hg : ∀ (B : Around) (s : Shared) (H : Hp) (C : Addr) (cl : List (Str × Addr)) (code : Value) (fp : List Addr) (pn : List (Addr × Obj)), Room k B → PG (gxCx X B s H (genEnv scope cl C code builtinsNs X.env) ys fp pn) tg g)
    (he : ∀ (B : Around) (s : Shared) (H : Hp) (C : Addr) (cl : List (Str × Addr)) (code : Value) (fp : List Addr) (pn : List (Addr × Obj)), Room k B → PE (gxCx X B s H (genEnv scope cl C code builtinsNs X.env) ys fp pn) elt te)
    (hs : ∀ v, genFold iter X.env v = pure v)
    (hst : starEach [.GeneratorExp elt [⟨tg, iter, [], 0⟩] scope gpos] X.env = (false, eval (.GeneratorExp elt [⟨tg, iter, [], 0⟩] scope gpos) X.env) :: starEach [] X.env := by rfl) :
    PE X (.Call (.Name "any" p) [.GeneratorExp elt [⟨tg, iter, [], 0⟩] scope gpos] [] pos) (tAnyR T wi g te ys.length vs) := by
  refine ⟨fun pins s σ H Q I h => wpAny_Call_Name_kw (ld_blt I hgl hm hb (PyProof.Rows.callWith_builtin1 ?_ hst (by rfl)))⟩
  rw [hst]
  show wpAny _ _ (spliced ((false, eval (.GeneratorExp elt [⟨tg, iter, [], 0⟩] scope gpos) X.env) :: backTo pos (starEach [] X.env))) _ _ s
  refine Calls.spliced_cons (gx_gen (cb := true) (Fi := fun H2 => Q (.bl false) H2) (Fl := fun H2 => Q (.bl true) H2) hN hvs hr TB hcode ok hi hg he hs I h fun B s2 H2 cenv fp a gn go n s5 hgen hig hlim hgs hback => ?_)
  refine Calls.spliced_nil ?_
  refine call_function_tree F.kind_any F.plain_any F.entry_any (F.args_any1 _) ?_
  unfold Builtin.«any»
  refine wpAny_bind (m := oneArg "any" _) (wpAny_pure ?_)
  refine wpAny_bind (wpAny_pyIter_gen hig ?_)
  refine wpAny_pure ⟨plainId_quiet F.plain_any_loop _, gx_any (X' := gxCx X B s2 H2 cenv ys fp [(a, go)]) (c := true) hr.hd hr.depth hgen (List.mem_singleton.mpr rfl) rfl (fun s' H' I' fi => ?_) (fun s' H' I' fl => ?_) n s5 hig hlim hgs⟩
  · exact ⟨.bl false, H', hback s' H' I', rfl, fi⟩
  · exact ⟨.bl true, H', hback s' H' I', rfl, fl⟩
end
end
/-! ### over a tuple, over a range -/
section
variable {K : PySem.W.Frag} {g : TG} {te : TE} {σ : L2.St} {vs : List Nat} {c : Bool} {Fi Fl : Hp → Prop} {H1 : Hp}
theorem gx_tup {a : Addr} {xs : List V} (Pv : Nat → Hp → Prop) (h0 : Pv 0 H1) (hl : ∀ i H, i ≤ xs.length → Pv i H → SqT K H a xs)
    (hs : ∀ i x H, xs[i]? = some x → Pv i H → g x σ H fun σ2 H2 => wipe σ2 vs = σ ∧ te σ2 H2 fun y H3 => ∃ b, y = .bl b ∧ (b = c → Fl H3) ∧ (b = !c → Pv (i + 1) H3)) (hd : ∀ H, Pv xs.length H → Fi H) :
    ∃ W : Nat → Nat → Hp → Prop, (∃ m, W 0 m H1) ∧ GxTurn (Itt K a) g te σ vs c Fi Fl W := by
  refine ⟨fun i m H => m = xs.length - i ∧ i ≤ xs.length ∧ Pv i H, ⟨xs.length, by simp, Nat.zero_le _, h0⟩, ?_⟩
  rintro i m H ⟨rfl, hi, p⟩
  have q := hl i H hi p
  by_cases hlt : i < xs.length
  · refine .inr ⟨⟨xs, xs[i], q, by simp [hlt]⟩, Pv (i + 1), fun H' p' => ⟨xs.length - (i + 1), by omega, rfl, hlt, p'⟩, fun x H' y => ?_⟩
    obtain ⟨e, y⟩ := y
    subst e
    exact hs i x _ (y xs q) p
  · have e : i = xs.length := by omega
    subst e
    exact .inl ⟨⟨xs, q, Nat.le_refl _⟩, hd H p⟩
theorem gx_range {lo : Int} {n : Nat} (Pv : Nat → Hp → Prop) (h0 : Pv 0 H1)
    (hs : ∀ i H, i < n → Pv i H → g (.int (lo + i)) σ H fun σ2 H2 => wipe σ2 vs = σ ∧ te σ2 H2 fun y H3 => ∃ b, y = .bl b ∧ (b = c → Fl H3) ∧ (b = !c → Pv (i + 1) H3)) (hd : ∀ H, Pv n H → Fi H) :
    ∃ W : Nat → Nat → Hp → Prop, (∃ m, W 0 m H1) ∧ GxTurn (Itr lo n) g te σ vs c Fi Fl W := by
  refine ⟨fun i m H => m = n - i ∧ i ≤ n ∧ Pv i H, ⟨n, by simp, Nat.zero_le _, h0⟩, ?_⟩
  rintro i m H ⟨rfl, hi, p⟩
  by_cases hlt : i < n
  · refine .inr ⟨hlt, Pv (i + 1), fun H' p' => ⟨n - (i + 1), by omega, rfl, hlt, p'⟩, fun x H' y => ?_⟩
    obtain ⟨e, y⟩ := y
    subst e y
    exact hs i _ hlt p
  · have e : i = n := by omega
    subst e
    exact .inl ⟨Nat.le_refl _, hd H p⟩
end

/-! ### rules: xs[i] read by a store that adds, 's' * n, list('s') -/
section
open PySem PySem.Spec PyProof.Rows
variable {X : Cx}
theorem pget_list : PGet X (rIxL X.K) := by
  intro pins s σ H x y v u Q I rx ry h
  obtain ⟨p, xs, i, z, rfl, rfl, hq, he, q⟩ := h
  cases rx
  obtain ⟨t, rfl⟩ := ry
  obtain ⟨its, r, pl, hz⟩ := I.list hq
  obtain ⟨j, h1, h2, h3, h4, h5⟩ := atI_get he
  obtain ⟨w, ew, rw'⟩ := r.get h2
  have hl := r.length
  have hn := line63
  have fin : EP X pins σ Q w s := ⟨z, H, I, rw', q⟩
  by_cases h0 : 0 ≤ i
  · have hj : i.toNat = j := by
      rw [seqIndex_of h0 h5] at h1
      exact Option.some.inj h1
    exact wpAny_getItem_list pl.isList h0 (by omega) (by rw [hj]; simpa using ew) fin
  · have hj : (i + (its.toArray.size : Int)).toNat = j := by
      rw [seqIndex_neg (by omega) h4] at h1
      rw [List.size_toArray, ← hl]
      exact Option.some.inj h1
    exact wpAny_getItem_list_neg pl.isList (by omega) (by rw [List.size_toArray] <;> omega) (by omega) (by rw [hj]; simpa using ew) fin
def rMulS : V → V → Hp → VK → Prop := fun x y H Q => ∃ (z : Str) (k : Nat), x = .str z ∧ y = .int k ∧ k ≤ 1000 ∧ z.length ≤ 1000 ∧ Q (.str ⟨(List.replicate k z.cps.toList).flatten.toArray⟩) H
theorem fold_cps (z : Array Nat) : ∀ (k : Nat) (a : Array Nat), (List.replicate k z).foldl (· ++ ·) a = a ++ (List.replicate k z.toList).flatten.toArray
  | 0, a => by simp
  | k + 1, a => by
    rw [List.replicate_succ, List.foldl_cons, fold_cps z k, List.replicate_succ, List.flatten_cons]
    apply Array.toList_inj.mp
    simp
theorem op_mulStr : OpR X (binaryOp .Mult) rMulS := by
  intro pins s σ H x y v u Q I rx ry h
  obtain ⟨z, k, rfl, rfl, hk, hz, q⟩ := h
  obtain ⟨t, rfl⟩ := rx
  obtain ⟨t2, rfl⟩ := ry
  have hbig : 1000 * 1000 ≤ sizeLine := by decide
  have hlen : z.length * k ≤ 1000 * 1000 := Nat.mul_le_mul hz hk
  refine PySem.P.mul_str (by rw [decide_eq_false (by omega), decide_eq_false (by omega)]; rfl) (fun h1 _ => ?_) (fun _ _ => ?_) ?_
  · have hk1 : (1 : Int) ≤ (k : Int) := by omega
    have : (1000 : Int) ≤ (2 ^ 63 - 1) / (k : Int) := Int.le_ediv_of_mul_le (by omega) (by omega)
    omega
  · rw [Int.toNat_natCast]
    exact decide_eq_false (by show ¬ z.length * k > sizeLine; omega)
  · have fin : ∀ r : Str, r = ⟨(List.replicate k z.cps.toList).flatten.toArray⟩ → r.length ≤ sizeLine → (Made.str r).post (fun w s' => EP X pins σ Q w s') s := fun r e hr => by
      subst e
      exact ⟨hr, .str _, H, I.tok _, ⟨_, rfl⟩, q⟩
    by_cases h1 : (k : Int) < 1
    · rw [if_pos h1]
      have hk0 : k = 0 := by omega
      subst hk0
      exact fin _ rfl (by decide)
    · rw [if_neg h1]
      by_cases h2 : ((k : Int) == 1 || z.length == 0) = true
      · rw [if_pos h2]
        show EP X pins σ Q _ s
        refine ⟨.str z, H, I, ⟨t, rfl⟩, ?_⟩
        have e : (⟨(List.replicate k z.cps.toList).flatten.toArray⟩ : Str) = z := by
          rw [Bool.or_eq_true] at h2
          rcases h2 with h2 | h2
          · have hk1 : k = 1 := by
              have := eq_of_beq h2
              omega
            subst hk1
            simp
          · have hz0 := eq_of_beq h2
            have hz1 : z.cps.toList = [] := List.eq_nil_of_length_eq_zero (by rw [Array.length_toList]; exact hz0)
            have hz2 : z.cps = #[] := Array.toList_inj.mp (by rw [hz1])
            rw [hz1]
            have : (List.replicate k ([] : List Nat)).flatten = [] := by simp
            rw [this, ← hz2]
        rw [e] at q
        exact q
      · rw [if_neg h2, Int.toNat_natCast]
        refine fin _ ?_ ?_
        · rw [fold_cps]; simp
        · rw [fold_cps]
          show Array.size _ ≤ _
          have e : ∀ k : Nat, (List.replicate k z.cps.toList).flatten.length = k * z.length := fun k => by
            induction k with
            | zero => simp
            | succ k ih => rw [List.replicate_succ, List.flatten_cons, List.length_append, ih, Array.length_toList, Nat.succ_mul]; show z.cps.size + _ = _ + z.cps.size; omega
          simp only [Array.empty_append, List.size_toArray]
          rw [e, Nat.mul_comm]
          omega
def rListS : List V → Hp → VK → Prop := fun xs H Q => ∃ z : Str, xs = [.str z] ∧ z.length ≤ 1000 ∧ ∀ l, H l = none → Q (.ref l) (upd H l (.lst (z.cps.toList.map fun c => V.str ⟨#[c]⟩)))
theorem cr_listS (hc : X.calm = true) : CallR X (.type "list") rListS := by
  intro pins s σ H xs us Q I r h
  obtain ⟨z, rfl, hz, q⟩ := h
  obtain ⟨u, rfl, rx⟩ := vals1 r
  obtain ⟨t, rfl⟩ := rx
  have hbig : 1000 ≤ sizeLine := by decide
  refine PySem.call_list_str (I.ok.hd hc) z t (fun h' tk acc c' k e hi => ?_) (by show z.length ≤ _; omega)
  refine ⟨.ref s.heap.objs.size, _, I.laid (t' := tk) k (Nat.le_refl _) (show ObjOk X.prog X.w _ h' _ (.lst (z.cps.toList.map fun c => V.str ⟨#[c]⟩)) from ⟨by rw [List.length_map, Array.length_toList]; show z.length ≤ _; omega, acc.toList, c', ?_, e⟩), rfl, q _ (I.hok.fresh (Nat.le_refl _))⟩
  have key : ∀ (l : List Nat) (us : List Value), us.length = l.length → (∀ (j : Nat) (v : Value) (c : Nat), us[j]? = some v → l[j]? = some c → ∃ u, v = Value.str ⟨#[c]⟩ u) → Vals (l.map fun c => V.str ⟨#[c]⟩) us := by
    intro l
    induction l with
    | nil => intro us h _; rw [List.eq_nil_of_length_eq_zero h]; exact .nil
    | cons c l ih =>
      intro us h g
      cases us with
      | nil => cases h
      | cons v us =>
        refine .cons ?_ (ih us (by simpa using h) fun j v c e1 e2 => g (j + 1) v c (by simpa using e1) (by simpa using e2))
        obtain ⟨u, hu⟩ := g 0 v c (by simp) (by simp)
        exact ⟨u, hu⟩
  refine key _ _ (by rw [Array.length_toList, Array.length_toList]; exact hi.1) fun j v c e1 e2 => ?_
  rw [Array.getElem?_toList] at e1 e2
  obtain ⟨c0, u, h1, h2⟩ := hi.2 j v e1
  rw [e2] at h1
  cases h1
  exact ⟨u, h2⟩
end

/-! ### readings are monotone -/
def MoE (t : TE) : Prop := ∀ σ H (Q Q' : VK), (∀ v H1, Q v H1 → Q' v H1) → t σ H Q → t σ H Q'
def MoR (r : V → V → Hp → VK → Prop) : Prop := ∀ x y H (Q Q' : VK), (∀ v H1, Q v H1 → Q' v H1) → r x y H Q → r x y H Q'
theorem mo_var (i : Nat) : MoE (tVar i) := fun _ _ _ _ h ⟨v, e, q⟩ => ⟨v, e, h _ _ q⟩
theorem mo_c (v : V) : MoE (tC v) := fun _ _ _ _ h q => h _ _ q
theorem mo_fld {K : PySem.W.Frag} {t : TE} {f : Str} (m : MoE t) : MoE (tFld K t f) := fun σ H Q Q' h q => m σ H _ _ (fun _ _ ⟨a, C, dx, fs, v, e1, e2, c, n, l, q⟩ => ⟨a, C, dx, fs, v, e1, e2, c, n, l, h _ _ q⟩) q
theorem mo_op {r : V → V → Hp → VK → Prop} {a b : TE} (m : MoR r) (ma : MoE a) (mb : MoE b) : MoE (tOp r a b) := fun σ H Q Q' h q => ma σ H _ _ (fun _ _ q => mb σ _ _ _ (fun _ _ q => m _ _ _ _ _ h q) q) q
theorem mo_slS {a : TE} {l h : TO} (ma : MoE a) (ml : ∀ σ H (Q Q' : Option Int → Hp → Prop), (∀ v H1, Q v H1 → Q' v H1) → l σ H Q → l σ H Q') (mh : ∀ σ H (Q Q' : Option Int → Hp → Prop), (∀ v H1, Q v H1 → Q' v H1) → h σ H Q → h σ H Q') : MoE (tSl rSlS a l h) :=
  fun σ H Q Q' g q => ma σ H _ _ (fun _ _ q => ml σ _ _ _ (fun _ _ q => mh σ _ _ _ (fun _ _ ⟨z, e, hz, q⟩ => ⟨z, e, hz, g _ _ q⟩) q) q) q
theorem mo_part {a : TE} (m : MoE a) : ∀ σ H (Q Q' : Option Int → Hp → Prop), (∀ v H1, Q v H1 → Q' v H1) → tPart a σ H Q → tPart a σ H Q' := fun σ H Q Q' h q => m σ H _ _ (fun _ _ ⟨i, e, q⟩ => ⟨i, e, h _ _ q⟩) q
theorem mo_test {a : TE} (m : MoE a) : ∀ σ H (Q Q' : Bool → Hp → Prop), (∀ b H1, Q b H1 → Q' b H1) → tTest a σ H Q → tTest a σ H Q' := fun σ H Q Q' h q => m σ H _ _ (fun _ _ ⟨i, e, q⟩ => ⟨i, e, h _ _ q⟩) q
theorem mo_eq : MoR rEq := fun _ _ _ _ _ h ⟨s, q⟩ => ⟨s, h _ _ q⟩
theorem mo_ne : MoR rNe := fun _ _ _ _ _ h ⟨s, q⟩ => ⟨s, h _ _ q⟩
theorem mo_i0 (g : Int → Int → V) : MoR (rI0 g) := fun _ _ _ _ _ h ⟨i, j, a, b, q⟩ => ⟨i, j, a, b, h _ _ q⟩
theorem mo_meth0 {C : Addr} {m : Str} {sp : Sp} {dvs : List V} {E : XK} {ta : TE} (ma : MoE ta) (ms : ∀ vs H (Q Q' : VK), (∀ v H1, Q v H1 → Q' v H1) → sp vs H Q E → sp vs H Q' E) : MoE (tMeth C m sp dvs E ta tNil) :=
  fun σ H Q Q' h q => ma σ H _ _ (fun _ _ ⟨a, dx, fs, e1, e2, e3, q⟩ => ⟨a, dx, fs, e1, e2, e3, ms _ _ _ _ h q⟩) q

/-! ### tuples whose objects are known: slices of a written tuple, .index of them -/
section
open PySem PySem.Spec PyProof.Rows
def PlT (K : PySem.W.Frag) (H : Hp) (p : Addr) (xs : List V) : Prop := (∃ o, o.cls = .type "tuple" ∧ o.dict = none ∧ H p = some (.frz o (.tup xs))) ∨ WrT K p xs
theorem WrT.sqt {K : PySem.W.Frag} {H : Hp} {a : Addr} {xs : List V} (h : WrT K a xs) : SqT K H a xs := by
  obtain ⟨o, its, n, h1, h2, _, h4, h5, h6⟩ := h
  exact .inr ⟨o, its, n, h1, h2, h4, h5, h6⟩
theorem PlT.sqt {K : PySem.W.Frag} {H : Hp} {a : Addr} {xs : List V} (h : PlT K H a xs) : SqT K H a xs := by
  rcases h with ⟨o, _, _, h⟩ | h
  · exact .inl (.inr ⟨o, h⟩)
  · exact h.sqt
variable {X : Cx}
theorem pl_obj {pins : List (Addr × Obj)} {σ : L2.St} {H : Hp} {s : Shared} {p : Addr} {xs : List V} (I : Inv X pins σ H s) (h : PlT X.K H p xs) : ∃ o, s.heap.get? p = some o ∧ o.cls = .type "tuple" ∧ o.dict = none := by
  rcases h with ⟨o, c, d, e⟩ | ⟨o, its, n, e, c, d, _⟩
  · exact ⟨o, (I.hok p _ e).1, c, d⟩
  · exact ⟨o, I.kIn p o e, c, d⟩
def rSlF (K : PySem.W.Frag) : V → Option Int → Option Int → Hp → VK → Prop := fun x lo hi H Q => ∃ a xs, x = .ref a ∧ WrT K a xs ∧ ((HT.sIx xs.length 0 lo = 0 ∧ HT.sIx xs.length xs.length hi = xs.length) → Q (.ref a) H) ∧
  (¬ (HT.sIx xs.length 0 lo = 0 ∧ HT.sIx xs.length xs.length hi = xs.length) → ∀ p o, H p = none → o.cls = .type "tuple" → o.dict = none → Q (.ref p) (upd H p (.frz o (.tup (cutV xs lo hi)))))
theorem sl_tupF : SlR X (rSlF X.K) := by
  intro pins s σ H x v vl vu lo hi sl Q I rx hs pl pu h
  obtain ⟨a, xs, rfl, hx, q1, q2⟩ := h
  cases rx
  obtain ⟨its, r, ht, hz⟩ := I.tuple (hx.sqt (H := H))
  have hlen : its.toArray.size = xs.length := by rw [List.size_toArray]; exact r.length.symm
  refine ⟨"tuple", _, PyProof.Rows.slot_tuple_getitem.lookup, ht.typeIs, ?_⟩
  by_cases hw : HT.sIx xs.length 0 lo = 0 ∧ HT.sIx xs.length xs.length hi = xs.length
  · exact getItem_tuple_whole ht hs pl pu (by rw [hlen]; exact hw) ⟨.ref a, H, I, rfl, q1 hw⟩
  · refine HT.getItem_tuple_cut ht hs pl pu (by rw [hlen]; exact hw) ?_ (by rw [hlen]; exact hz)
    rw [hlen]
    exact ⟨.ref s.heap.objs.size, _, I.laid (t' := s.toks) (o := .frz _ (.tup (cutV xs lo hi))) (fun b ob q => Heap.get?_push_of_some _ q) (Nat.le_refl _) ⟨Heap.get?_push_size _ rfl, Nat.le_trans (cutV_length xs lo hi) hz, _, (r.drop (HT.sIx xs.length 0 lo)).take (HT.sIx xs.length xs.length hi - HT.sIx xs.length 0 lo), IsTup.new _ _⟩, rfl, q2 hw _ _ (I.hok.fresh (Nat.le_refl _)) rfl rfl⟩
/-- t.index(e), t such a tuple -/
def tTix (K : PySem.W.Frag) (r : V → List V → Hp → VK → Prop) (to te : TE) : TE := fun σ H Q => to σ H fun x H1 => (∃ p ys, x = .ref p ∧ PlT K H1 p ys) ∧ te σ H1 fun y H2 => r x [y] H2 Q
theorem pe_tupIx {o e : Expr} {to te : TE} {apos cpos : Pos} {r : V → List V → Hp → VK → Prop} (hm : MtR X "tuple.index" r) (ho : PE X o to) (he : PE X e te)
    (hbase : attributeBase o "index" X.env (eval o X.env) = eval o X.env := by rfl)
    (hfew : ((backTo cpos (starEach [e] X.env)).all (fun x => !x.1) && (backToKw cpos (keywordEach [] X.env)).all (fun x => x.1.isSome)
      && decide ([e].length + ([] : List Keyword).length + (if ([] : List Keyword).isEmpty then 0 else 1) < 30)) = true := by rfl)
    (hline : (apos.endLine == cpos.line) = true := by rfl) (hs : starEach [e] X.env = (false, eval e X.env) :: starEach [] X.env := by rfl) (hplain : (backTo cpos (starEach [] X.env)).any (·.1) = false := by rfl) :
    PE X (.Call (.Attribute o "index" apos) [e] [] cpos) (tTix X.K r to te) := by
  refine ⟨fun pins s σ H Q I h => wpAny_Call_method_late hbase hfew hline rfl (thn (ho.run pins s σ H _ I h) fun v s1 ⟨x, H1, I1, r1, ⟨p, ys, ex, ty⟩, q1⟩ => ?_)⟩
  subst ex
  cases r1
  obtain ⟨ob, g1, g2, g3⟩ := pl_obj I1 ty
  have hA := (pa_cons he pa_nil hs : PA X [e] (tCons te tNil)).run cpos pins s1 σ H1 (fun vs H2 => r (.ref p) vs H2 Q) I1 q1
  rw [hs] at hA
  refine ⟨"tuple", "tuple.index", PySem.F.plainAttrs_tuple, PySem.F.slot_tuple_index, PySem.F.type_tuple_index, ⟨ob, g1, g2⟩, fun a ea => ?_, ?_⟩
  · cases ea
    exact ⟨ob, g1, g3⟩
  · rw [hs]
    exact Calls.callWith_builtin (by show (false || (backTo cpos (starEach [] X.env)).any (·.1)) = false; rw [hplain]; rfl) (Calls.evalArgs_plain (thn hA fun us s2 ⟨vs, H2, I2, r2, q2⟩ => hm pins s2 σ H2 (.ref p) vs _ us Q I2 rfl r2 q2))
end

/-! ### reading, step by step -/
theorem iteV {a b : Int} {A B : Prop} (h1 : a = b → A) (h2 : a ≠ b → B) : if decide (V.int a = V.int b) = true then A else B := by
  by_cases h : a = b
  · rw [if_pos (decide_eq_true (congrArg V.int h))]; exact h1 h
  · rw [if_neg (by rw [decide_eq_false (fun z => h (V.int.inj z))]; exact Bool.false_ne_true)]; exact h2 h
theorem iteVn {a b : Int} {A B : Prop} (h1 : a ≠ b → A) (h2 : a = b → B) : if (!decide (V.int a = V.int b)) = true then A else B := by
  by_cases h : a = b
  · rw [if_neg (by rw [decide_eq_true (congrArg V.int h)]; exact Bool.false_ne_true)]; exact h2 h
  · rw [if_pos (by rw [decide_eq_false (fun z => h (V.int.inj z))]; rfl)]; exact h1 h
theorem iteD {c A B : Prop} [Decidable c] (h1 : c → A) (h2 : ¬ c → B) : if decide c = true then A else B := by
  by_cases h : c
  · rw [if_pos (decide_eq_true h)]; exact h1 h
  · rw [if_neg (by rw [decide_eq_false h]; exact Bool.false_ne_true)]; exact h2 h
theorem iteDn {c A B : Prop} [Decidable c] (h1 : ¬ c → A) (h2 : c → B) : if (!decide c) = true then A else B := by
  by_cases h : c
  · rw [if_neg (by rw [decide_eq_true h]; exact Bool.false_ne_true)]; exact h2 h
  · rw [if_pos (by rw [decide_eq_false h]; rfl)]; exact h1 h
theorem iteB {b : Bool} {A B : Prop} (h1 : b = true → A) (h2 : b = false → B) : if b = true then A else B := by
  cases b with
  | true => exact iteT (h1 rfl)
  | false => exact iteF (h2 rfl)
theorem iteN0 {i : Int} {A B : Prop} (h1 : i ≠ 0 → A) (h2 : i = 0 → B) : if (i != 0) = true then A else B := by
  by_cases h : i = 0
  · rw [if_neg (by simp [h])]; exact h2 h
  · rw [if_pos (by simpa using h)]; exact h1 h
theorem vdec {a b : Int} : decide (V.int a = V.int b) = decide (a = b) := by
  by_cases h : a = b
  · subst h; simp
  · rw [decide_eq_false h, decide_eq_false (fun z => h (V.int.inj z))]
theorem sql_ne {K : PySem.W.Frag} {H : Hp} {r a : Addr} {o : HO} {xs : List V} (h : SqL K H a xs) (n : a ≠ r) : SqL K (upd H r o) a xs := by
  rcases h with (h | ⟨u, h⟩) | h
  · exact .inl (.inl (by rw [upd_ne n]; exact h))
  · exact .inl (.inr ⟨u, by rw [upd_ne n]; exact h⟩)
  · exact .inr h
theorem mulW64 {i j : Int} (hi : i.natAbs < 2 ^ 64) (hj : j.natAbs < 2 ^ 64) : CMulW i j := wide_mul hi hj (by decide) (by decide) (by decide)
section
variable {K : PySem.W.Frag}
theorem kit_int_int : PySem.W.kitOne K (.type "int") (.type "int") = some true := kit_ty (by decide +kernel)
theorem kit_int_bool : PySem.W.kitOne K (.type "int") (.type "bool") = some false := kit_ty (by decide +kernel)
theorem kit_int_str : PySem.W.kitOne K (.type "int") (.type "str") = some false := kit_ty (by decide +kernel)
theorem kit_int_tuple : PySem.W.kitOne K (.type "int") (.type "tuple") = some false := kit_ty (by decide +kernel)
theorem kit_int_list : PySem.W.kitOne K (.type "int") (.type "list") = some false := kit_ty (by decide +kernel)
theorem kit_tuple_tuple : PySem.W.kitOne K (.type "tuple") (.type "tuple") = some true := kit_ty (by decide +kernel)
theorem kit_tuple_list : PySem.W.kitOne K (.type "tuple") (.type "list") = some false := kit_ty (by decide +kernel)
theorem kit_tuple_str : PySem.W.kitOne K (.type "tuple") (.type "str") = some false := kit_ty (by decide +kernel)
theorem kit_tuple_int : PySem.W.kitOne K (.type "tuple") (.type "int") = some false := kit_ty (by decide +kernel)
theorem kit_tuple_bool : PySem.W.kitOne K (.type "tuple") (.type "bool") = some false := kit_ty (by decide +kernel)
theorem kitA_int : PySem.W.kitAny K (.type "int") [.type "tuple", .type "list"] = some false :=
  kitAny_cons kit_int_tuple (fun _ => kitAny_cons kit_int_list (fun _ => kitAny_nil) (fun z => nomatch z)) (fun z => nomatch z)
theorem kitA_tuple : PySem.W.kitAny K (.type "tuple") [.type "tuple", .type "list"] = some true :=
  kitAny_cons kit_tuple_tuple (fun z => nomatch z) (fun _ => rfl)
end
local macro_rules | `(tactic| walk_at "rd1") => `(tactic| first
  | refine ⟨_, rfl, ?_⟩
  | refine ⟨_, _, rfl, rfl, ?_⟩
  | refine ⟨_, _, rfl, ?_⟩
  | refine ⟨rfl, ?_⟩
  | refine ⟨(show (0 : Int) < _ by omega), ?_⟩
  | refine .inl ⟨_, rfl, ?_⟩
  | refine ⟨mulW64 (by omega) (by omega), ?_⟩
  | refine ⟨cdivZ (b := 64) (by omega) (by omega) (by decide) (by decide), ?_⟩
  | refine ⟨(show CPowW _ _ from ⟨by decide, by decide +kernel⟩), ?_⟩
  | refine ⟨_, _, rfl, .inr (.inl (.inl (by assumption))), ?_⟩
  | refine ⟨_, _, rfl, .inl (.inl (.inl (by assumption))), ?_⟩
  | refine ⟨_, _, rfl, .inl (.inl upd_same), rfl, ?_⟩
  | refine iteT ?_
  | refine iteF ?_
  | refine ⟨_, _, _, _, rfl, rfl, .inl (.inl (by assumption)), rfl, ?_⟩
  | refine ⟨_, _, _, _, rfl, rfl, .inl (.inl upd_same), rfl, ?_⟩
  | refine ⟨_, _, _, _, rfl, rfl, (by assumption), rfl, ?_⟩
  | refine ⟨_, _, _, _, rfl, rfl, upd_same, rfl, ?_⟩
  | refine ⟨_, _, _, _, _, rfl, .ty _, .base (.int _), kit_int_int, ?_⟩
  | refine ⟨_, _, _, _, _, rfl, .ty _, .base (.int _), kit_int_bool, ?_⟩
  | refine ⟨_, _, _, _, _, rfl, .ty _, .base (.int _), kit_int_str, ?_⟩
  | refine ⟨_, _, _, _, _, rfl, .ty _, .base (.tup (by assumption)), kit_tuple_tuple, ?_⟩
  | refine ⟨_, _, _, _, _, rfl, .ty _, .base (.tup (by assumption)), kit_tuple_list, ?_⟩
  | refine ⟨_, _, _, _, _, rfl, .ty _, .base (.tup (by assumption)), kit_tuple_str, ?_⟩)
local macro_rules | `(tactic| walk_at "rd") => `(tactic| repeat walk_at "rd1")

/-! ### orders, rows, units, as numbers -/
inductive Ord where
  | lex | deglex | drl | block (k : Nat) | wts (ws : List Int)
def OrdOk (n : Nat) : Ord → Prop
  | .block k => 1 ≤ k ∧ k < n
  | .wts ws => ws.length = n ∧ ∀ w ∈ ws, 1 ≤ w ∧ w ≤ 20
  | _ => True
def sLex : Str := "lex"
def sDeg : Str := "deglex"
def sDrl : Str := "degrevlex"
def sBlk : Str := "block"
def sWts : Str := "weights"
def oD : Ord → PyData
  | .lex => .str sLex
  | .deglex => .str sDeg
  | .drl => .str sDrl
  | .block k => .tuple [.str sBlk, .int k]
  | .wts ws => .tuple [.str sWts, .tuple (ws.map .int)]
def singles (n : Nat) : List (List Int) := (List.range n).map fun p => (List.range n).map fun k => if k = p then 1 else 0
def falling (n a b : Nat) : List (List Int) := (List.range (b - a)).map fun j => (List.range n).map fun k => if a ≤ k ∧ k + j + 1 ≤ b then 1 else 0
def rowsL (n : Nat) : Ord → List (List Int)
  | .lex => singles n
  | .deglex => List.replicate n 1 :: singles n
  | .drl => falling n 0 n
  | .block k => falling n 0 k ++ falling n k n
  | .wts ws => ws :: falling n 0 n
def unitN (n : Nat) (rows : List (List Int)) (p : Nat) : Int := (rows.foldl (fun t row => t * PLi + row.getD p 0) 0) * 2 ^ (48 * n) + 2 ^ (48 * (n - 1 - p))
def unitsL (n : Nat) (rows : List (List Int)) : List Int := (List.range n).map (unitN n rows)
/-- a tuple of ints; a tuple of these -/
abbrev rD (r : List Int) : PyData := .tuple (r.map .int)
abbrev rsD (rs : List (List Int)) : PyData := .tuple (rs.map rD)
section
variable {K : PySem.W.Frag} {H H' : Hp}
theorem dpAll_of {α : Type} {f : α → V} {g : α → PyData} : ∀ {l : List α}, (∀ x ∈ l, Dp K H (f x) (g x)) → DpAll K H (l.map f) (l.map g)
  | [], _ => .nil
  | _ :: _, h => .cons (h _ List.mem_cons_self) (dpAll_of fun x hx => h x (List.mem_cons_of_mem _ hx))
theorem dpAll_ints (r : List Int) : DpAll K H (r.map V.int) (r.map .int) := dpAll_of fun x _ => .int x
theorem dp_ints {a : Addr} {r : List Int} (h : SqT K H a (r.map V.int)) : Dp K H (.ref a) (rD r) := .tup h (dpAll_ints r)
mutual
theorem Dp.same (s : Same H H') : ∀ (d : PyData) (v : V), Dp K H v d → Dp K H' v d
  | _, _, .non => .non
  | _, _, .bl b => .bl b
  | _, _, .int i => .int i
  | _, _, .str x => .str x
  | _, _, .lst h a => .lst (L2.Same.seq s h) (DpAll.same s _ _ a)
  | _, _, .tup h a => .tup (Toy.Same.tup s h) (DpAll.same s _ _ a)
theorem DpAll.same (s : Same H H') : ∀ (ds : List PyData) (vs : List V), DpAll K H vs ds → DpAll K H' vs ds
  | _, _, .nil => .nil
  | _, _, .cons h t => .cons (Dp.same s _ _ h) (DpAll.same s _ _ t)
end
end

/-! ### what stays: tuples; all but tables -/
/-- the tuples stay -/
def Tp (H H' : Hp) : Prop := ∀ b xs, Rd H b (.tup xs) → Rd H' b (.tup xs)
theorem Tp.refl (H : Hp) : Tp H H := fun _ _ h => h
theorem Tp.trans {H H1 H2 : Hp} (a : Tp H H1) (b : Tp H1 H2) : Tp H H2 := fun c xs h => b c xs (a c xs h)
theorem tp_ext {H H' : Hp} (e : LamX.ExtN H H') : Tp H H' := fun b xs h => by
  rcases h with h | ⟨o, h⟩
  · exact .inl (e _ _ h fun ps z => by cases z)
  · exact .inr ⟨o, e _ _ h fun ps z => by cases z⟩
theorem tp_same {H H' : Hp} (s : Same H H') : Tp H H' := tp_ext (LamX.ExtN.of s)
theorem tp_lst {H : Hp} {D : Addr} {xs ys : List V} (h : H D = some (.lst xs)) : Tp H (upd H D (.lst ys)) := fun b zs q => by
  have n : b ≠ D := fun e => by
    subst e
    rcases q with q | ⟨o, q⟩
    · rw [h] at q; cases q
    · rw [h] at q; cases q
  rcases q with q | ⟨o, q⟩
  · exact .inl ((upd_ne n).trans q)
  · exact .inr ⟨o, (upd_ne n).trans q⟩
theorem tp_new {H : Hp} {D : Addr} {o : HO} (h : H D = Option.none) : Tp H (upd H D o) := tp_same (same_upd h)
section
variable {K : PySem.W.Frag} {H H' : Hp}
theorem Tp.sqt {a : Addr} {xs : List V} (s : Tp H H') (h : SqT K H a xs) : SqT K H' a xs := by
  rcases h with h | h
  · exact .inl (s _ _ h)
  · exact .inr h
mutual
/-- ints, texts, tuples of such -/
def tOnly : PyData → Bool
  | .int _ => true
  | .str _ => true
  | .tuple xs => tOnlyAll xs
  | _ => false
def tOnlyAll : List PyData → Bool
  | [] => true
  | x :: xs => tOnly x && tOnlyAll xs
end
mutual
theorem Dp.tp (s : Tp H H') : ∀ (d : PyData) (v : V), tOnly d = true → Dp K H v d → Dp K H' v d
  | .int i, _, _, h => by cases h; exact .int i
  | .str x, _, _, h => by cases h; exact .str x
  | .tuple xs, _, t, h => by
    cases h with
    | tup h1 h2 => exact .tup (s.sqt h1) (DpAll.tp s xs _ (by simpa [tOnly] using t) h2)
  | .none, _, t, _ => by simp [tOnly] at t
  | .bool _, _, t, _ => by simp [tOnly] at t
  | .list _, _, t, _ => by simp [tOnly] at t
  | .dict _, _, t, _ => by simp [tOnly] at t
theorem DpAll.tp (s : Tp H H') : ∀ (ds : List PyData) (vs : List V), tOnlyAll ds = true → DpAll K H vs ds → DpAll K H' vs ds
  | [], _, _, h => by cases h; exact .nil
  | d :: ds, _, t, h => by
    cases h with
    | cons h1 h2 =>
      have t' : tOnly d = true ∧ tOnlyAll ds = true := by simpa [tOnlyAll] using t
      exact .cons (Dp.tp s d _ t'.1 h1) (DpAll.tp s ds _ t'.2 h2)
end
theorem tOnly_ints (r : List Int) : tOnlyAll (r.map .int) = true := by
  induction r with
  | nil => rfl
  | cons x xs ih => simp [tOnlyAll, tOnly, ih]
theorem tOnly_rD (r : List Int) : tOnly (rD r) = true := tOnly_ints r
theorem tOnly_rows (rs : List (List Int)) : tOnlyAll (rs.map rD) = true := by
  induction rs with
  | nil => rfl
  | cons x xs ih => simp [tOnlyAll, tOnly, ih, tOnly_ints]
theorem tOnly_ord (o : Ord) : tOnly (oD o) = true := by
  cases o <;> simp [oD, tOnly, tOnlyAll, tOnly_ints]
/-! ### comprehensions that map -/
/-- i items are made at D, each as R says; all that was before stands -/
def MapAt (H1 : Hp) (D : Addr) (R : Nat → V → Hp → Prop) (i : Nat) (H : Hp) : Prop := ∃ ys, Same H1 H ∧ H D = some (.lst ys) ∧ ys.length = i ∧ ∀ (j : Nat) (y : V), ys[j]? = some y → R j y H
theorem mapAt_0 {H1 : Hp} {D : Addr} {R : Nat → V → Hp → Prop} (hD : H1 D = Option.none) : MapAt H1 D R 0 (upd H1 D (.lst [])) := ⟨[], same_upd hD, upd_same, rfl, fun j y h => by simp at h⟩
theorem mapAt_step {H1 H H4 : Hp} {D : Addr} {R : Nat → V → Hp → Prop} {i : Nat} {y : V} (h : MapAt H1 D R i H) (hD : H1 D = Option.none) (hz : i < sizeLine) (s : Same H H4) (hR : ∀ i v H H', R i v H → Tp H H' → R i v H') (r : R i y H4) :
    ∃ acc, H4 D = some (.lst acc) ∧ acc.length < sizeLine ∧ MapAt H1 D R (i + 1) (upd H4 D (.lst (acc ++ [y]))) := by
  obtain ⟨ys, h1, h2, h3, h4⟩ := h
  have e4 := s _ _ h2
  have t : Tp H4 (upd H4 D (.lst (ys ++ [y]))) := tp_lst e4
  refine ⟨ys, e4, by rw [h3]; exact hz, ys ++ [y], fun b o e => ?_, upd_same, by simp [h3], fun j z hz => ?_⟩
  · rw [upd_ne (ne_of_none e hD)]
    exact s _ _ (h1 _ _ e)
  · by_cases hj : j < ys.length
    · rw [List.getElem?_append_left hj] at hz
      exact hR _ _ _ _ (hR _ _ _ _ (h4 j z hz) (tp_same s)) t
    · rw [List.getElem?_append_right (by omega)] at hz
      have ej : j - ys.length = 0 := by
        by_cases q : j - ys.length = 0
        · exact q
        · rw [List.getElem?_eq_none (by simp; omega)] at hz; cases hz
      rw [ej] at hz
      simp at hz
      subst hz
      have : j = i := by omega
      subst this
      exact hR _ _ _ _ r t
/-- the items as a list, when each is told by its place -/
theorem items_eq {n : Nat} {ys : List V} {f : Nat → V} (h : ys.length = n) (e : ∀ (j : Nat) (y : V), ys[j]? = some y → y = f j) : ys = (List.range n).map f := by
  refine List.ext_getElem? fun i => ?_
  by_cases hi : i < n
  · have hi' : i < ys.length := by omega
    rw [List.getElem?_map, List.getElem?_range hi, List.getElem?_eq_getElem hi', e i _ (List.getElem?_eq_getElem hi')]
    rfl
  · rw [List.getElem?_eq_none (by omega), List.getElem?_eq_none (by simp; omega)]
/-- rows made one by one read as the rows -/
theorem dpAll_get {ys : List V} {ds : List PyData} (hl : ys.length = ds.length) (e : ∀ (j : Nat) (y : V) (d : PyData), ys[j]? = some y → ds[j]? = some d → Dp K H y d) : DpAll K H ys ds := by
  induction ys generalizing ds with
  | nil =>
    cases ds with
    | nil => exact .nil
    | cons d ds => simp at hl
  | cons y ys ih =>
    cases ds with
    | nil => simp at hl
    | cons d ds => exact .cons (e 0 y d rfl rfl) (ih (by simpa using hl) fun j y d h1 h2 => e (j + 1) y d (by simpa using h1) (by simpa using h2))
end
/-! ### a comprehension's scope, by its place -/
def rvOf : Stmt → Expr
  | .Return (some e) _ => e
  | .Assign _ e _ => e
  | _ => .Constant .none 0 ⟨0, 0, 0, 0⟩
def scOf : Expr → Scope
  | .ListComp _ _ s _ => s
  | _ => { kind := .function, names := [], isGenerator := false, isCoroutine := false }
theorem relabel_look {env : Env} {y : Str} : ∀ {names : List (Str × NameKind)}, names.lookup y = some .cell ∨ names.lookup y = some .free →
    (names.map fun (n, k) => if (k == NameKind.free && env.scope.kind == .function && env.kindOf n == some .cell) then (n, NameKind.cell) else (n, k)).lookup y = some .cell ∨
    (names.map fun (n, k) => if (k == NameKind.free && env.scope.kind == .function && env.kindOf n == some .cell) then (n, NameKind.cell) else (n, k)).lookup y = some .free
  | [], h => by simp at h
  | (n, k) :: r, h => by
    have ih := @relabel_look env y r
    by_cases e : y = n
    · subst e
      simp only [List.lookup_cons, beq_self_eq_true] at h
      simp only [List.map_cons]
      rcases h with h | h <;> (cases h; split <;> simp)
    · have e' : (y == n) = false := by simpa using e
      simp only [List.lookup_cons, e'] at h
      have q := ih h
      simp only [List.map_cons]
      split <;> simpa [List.lookup_cons, e'] using q
/-- a comprehension within a comprehension -/
theorem blkOk_in {N : List Str} {sc scope : Scope} {own : List (Str × Nat)} {env : Env} (h : blkC N sc scope own = true) : BlkOk N (relabel sc env) scope own := by
  have b := blkOk_by h
  exact ⟨b.kind, b.uniq, b.ix, fun y hy e => relabel_look (b.free y hy e), b.own⟩
/-- tuple(xs) -/
def rTupOf (K : PySem.W.Frag) : List V → Hp → VK → Prop := fun xs H Q => ∃ p ys, xs = [.ref p] ∧ ((SqL K H p ys ∧ ∀ l, H l = Option.none → Q (.ref l) (upd H l (.tup ys))) ∨ (SqT K H p ys ∧ Q (.ref p) H))
section
variable {P : Program} {w : World} {K : PySem.W.Frag} {mg : Str → Option Value} {base : Heap}
def sp_single_rows (K : PySem.W.Frag) : Sp := fun vs H Q _ => ∃ n : Nat, vs = [.int n] ∧ n ≤ 4 ∧ ∀ p H' xs, Same H H' → H' p = some (.lst xs) → H p = Option.none → DpAll K H' xs ((singles n).map rD) → Q (.ref p) H'
theorem ok_single_rows (T : Txt K mg) : FnOk P w K mg base CX0 1 T.single_rows.f T.single_rows.fd P_single_rows (sp_single_rows K) := by
  refine T.single_rows.F.ok sc_single_rows (fun vs H Q E h => ?_) (fun cdv A outer s H vs Q E hr h => ?_)
  · obtain ⟨n, rfl, _⟩ := h; rfl
  · obtain ⟨n, rfl, hn, k⟩ := h
    refine ⟨_, (pss_one (ps_ret (pe_lc (own := [("place", 2)]) rfl sc_single_rows.nd (pi_range1 rfl T.n_range (pa_cons (pv 0) pa_nil)) (blkOk_by (own := [("place", 2)]) (N := N_single_rows) (sc := defScope s_single_rows) (by decide +kernel)) (fun _ _ _ _ _ => (pg_name (i := 2) sc_single_rows.nd rfl (Or.inr rfl))) (fun _ _ _ _ _ => pts_nil) (fun _ _ _ _ _ => (pe_callTy (r := rTupOf K) call_tuple_of rfl T.n_tuple bo_tuple (pa_cons (pe_lc (own := [("k", 1)]) rfl sc_single_rows.nd (pi_range1 rfl T.n_range (pa_cons (pv 0) pa_nil)) (blkOk_in (own := [("k", 1)]) (N := N_single_rows) (sc := scOf (rvOf ((defBody s_single_rows).getD 0 (.Pass ⟨0, 0, 0, 0⟩)))) (by decide +kernel)) (fun _ _ _ _ _ => (pg_name (i := 1) sc_single_rows.nd rfl (Or.inl rfl))) (fun _ _ _ _ _ => pts_nil) (fun _ _ _ _ _ => (pe_ifExp (pt_cmpR op_eq (pv 1) (pv 2) (nomark _)) pe_int pe_int))) pa_nil)))))), ?_⟩
    walk_at "rd"
    refine ⟨(show (-2 ^ 62 : Int) ≤ (n : Int) by omega), (show (n : Int) < 2 ^ 62 by omega), fun D hD => ?_⟩
    rw [Int.toNat_natCast]
    refine lc_range (lo := 0) (n := n) (MapAt H D fun p y H' => Dp K H' y (rD ((List.range n).map fun k => if k = p then 1 else 0))) (mapAt_0 hD) (fun p H1 hp hP => ?_) (fun H1 hP => ?_)
    · walk_at "rd"
      refine ⟨(show (-2 ^ 62 : Int) ≤ (n : Int) by omega), (show (n : Int) < 2 ^ 62 by omega), fun E1 hE => ?_⟩
      rw [Int.toNat_natCast]
      refine lc_range (lo := 0) (n := n) (MapAt H1 E1 fun k y _ => y = .int (if k = p then 1 else 0)) (mapAt_0 hE) (fun q H2 hq hQ => ?_) (fun H2 hQ => ?_)
      · walk_at "rd"
        rw [vdec, Int.zero_add, Int.zero_add]
        refine iteD (fun e => ?_) (fun e => ?_)
        · exact mapAt_step hQ hE (by rw [sizeLine_eq]; omega) (Same.refl _) (fun _ _ _ _ h _ => h) (by rw [if_pos (by omega)])
        · exact mapAt_step hQ hE (by rw [sizeLine_eq]; omega) (Same.refl _) (fun _ _ _ _ h _ => h) (by rw [if_neg (by omega)])
      · obtain ⟨ys, s1, e1, l1, r1⟩ := hQ
        have ey := items_eq (f := fun k => V.int (if k = p then 1 else 0)) l1 r1
        walk_at "rd"
        refine ⟨_, _, rfl, .inl ⟨.inl (.inl e1), fun l hl => ?_⟩⟩
        refine mapAt_step hP hD (by rw [sizeLine_eq]; omega) (Same.trans s1 (same_upd hl)) (fun _ _ _ _ h t => Dp.tp t _ _ (tOnly_rD _) h) ?_
        refine dp_ints (.inl (.inl ?_))
        rw [upd_same, ey, List.map_map]
        rfl
    · obtain ⟨ys, s1, e1, l1, r1⟩ := hP
      refine k D H1 ys s1 e1 hD (dpAll_get (by rw [l1]; simp [singles]) fun j y d h1 h2 => ?_)
      have hj : j < n := by rw [← l1]; exact (List.getElem?_eq_some_iff.mp h1).1
      have e2 : d = rD ((List.range n).map fun k => if k = j then 1 else 0) := by
        rw [singles, List.map_map, List.getElem?_map, List.getElem?_range hj] at h2
        exact (Option.some.inj h2).symm
      rw [e2]
      exact r1 j y h1
end

theorem dpAll_app {K : PySem.W.Frag} {H : Hp} : ∀ {xs ys : List V} {ds es : List PyData}, DpAll K H xs ds → DpAll K H ys es → DpAll K H (xs ++ ys) (ds ++ es)
  | _, _, _, _, .nil, h => h
  | _, _, _, _, .cons h t, h2 => .cons h (dpAll_app t h2)
theorem DpAll.len {K : PySem.W.Frag} {H : Hp} : ∀ {xs : List V} {ds : List PyData}, DpAll K H xs ds → xs.length = ds.length
  | _, _, .nil => rfl
  | _, _, .cons _ t => congrArg (· + 1) (DpAll.len t)
/-- a, a + 1, .., below b -/
def plc (a b : Nat) : List V := (List.range (b - a)).map fun i => V.int ((a : Int) + (i : Nat))
theorem plc_flat (a b : Nat) : (plc a b).all flatV = true := by
  rw [List.all_eq_true]
  intro x hx
  obtain ⟨i, _, rfl⟩ := List.mem_map.mp hx
  rfl
theorem plc_in (a b k : Nat) : inV (V.int (k : Int)) (plc a b) = decide (a ≤ k ∧ k < b) := by
  unfold inV
  by_cases h : a ≤ k ∧ k < b
  · rw [decide_eq_true h, List.any_eq_true]
    refine ⟨V.int (k : Int), List.mem_map.mpr ⟨k - a, List.mem_range.mpr (by omega), by congr 1; omega⟩, ?_⟩
    simp [eqV]
  · rw [decide_eq_false h, List.any_eq_false]
    intro x hx
    obtain ⟨i, hi, rfl⟩ := List.mem_map.mp hx
    have := List.mem_range.mp hi
    simp [eqV]
    omega
theorem plc_len (a b : Nat) : (plc a b).length = b - a := by simp [plc]
theorem plc_take {a b k : Nat} (h : k ≤ b - a) : (plc a b).take k = plc a (a + k) := by
  unfold plc
  rw [← List.map_take, List.take_range, show min k (b - a) = a + k - a by omega]
theorem cut_to' (xs : List V) (k : Nat) (h : k ≤ xs.length) : cutV xs none (some (k : Int)) = xs.take k := by
  unfold cutV
  rw [HT.sIx_nat, HT.sIx_none, Nat.min_eq_left h]
  simp
section
variable {P : Program} {w : World} {K : PySem.W.Frag} {mg : Str → Option Value} {base : Heap}
def sp_falling_rows (K : PySem.W.Frag) : Sp := fun vs H Q _ => ∃ (n a b : Nat) (L : Addr), vs = [.int n, .ref L] ∧ n ≤ 4 ∧ a ≤ b ∧ b ≤ n ∧ H L = some (.lst (plc a b)) ∧ ∀ p H' xs, Same H H' → H' p = some (.lst xs) → H p = Option.none → DpAll K H' xs ((falling n a b).map rD) → Q (.ref p) H'
theorem ok_falling_rows (T : Txt K mg) : FnOk P w K mg base CX0 1 T.falling_rows.f T.falling_rows.fd P_falling_rows (sp_falling_rows K) := by
  refine T.falling_rows.F.ok sc_falling_rows (fun vs H Q E h => ?_) (fun cdv A outer s H vs Q E hr h => ?_)
  · obtain ⟨n, a, b, L, rfl, _⟩ := h; rfl
  · obtain ⟨n, a, b, L, rfl, hn, hab, hbn, hL, k⟩ := h
    refine ⟨_, (pss_cons (ps_set (i := 2) sc_falling_rows.nd rfl (Or.inl rfl) (pe_lst pa_nil))
  (pss_cons (ps_for PassesOwn.never rfl (pi_revR rfl T.n_reversed (prg_1 rfl T.n_range (pe_callB (r := rLenS K) call_len_seq rfl T.n_len bo_len (pa_cons (pv 1) pa_nil)))) (pg_name (i := 3) sc_falling_rows.nd rfl (Or.inl rfl)) (pss_cons (ps_set (i := 4) sc_falling_rows.nd rfl (Or.inr rfl) (pe_slice (r := rSlL K) sl_list (pv 1) po_none (po_some (pe_op op_add (pv 3) pe_int))))
  (pss_one (ps_expr (pe_bm PySem.F.plainAttrs_list PySem.F.slot_list_append PySem.F.type_list_append mt_append (pv 2) (pa_cons (pe_callTy (r := rTupOf K) call_tuple_of rfl T.n_tuple bo_tuple (pa_cons (pe_lc (own := [("k", 5)]) rfl sc_falling_rows.nd (pi_range1 rfl T.n_range (pa_cons (pv 0) pa_nil)) (blkOk_by (own := [("k", 5)]) (N := N_falling_rows) (sc := defScope s_falling_rows) (by decide +kernel)) (fun _ _ _ _ _ => (pg_name (i := 5) sc_falling_rows.nd rfl (Or.inl rfl))) (fun _ _ _ _ _ => pts_nil) (fun _ _ _ _ _ => (pe_ifExp (pt_cmpR (r := rIn K false) op_in_seq (pv 5) (pv 4) (by rfl)) pe_int pe_int))) pa_nil)) pa_nil))))))
  (pss_one (ps_ret (pv 2))))), ?_⟩
    walk_at "rd"
    refine ⟨by decide, fun F hF => ?_⟩
    have sF := same_upd (o := .lst []) hF
    have hL1 := sF _ _ hL
    walk_at "rd"
    rw [plc_len]
    refine ⟨by omega, by omega, by omega, by omega, ?_⟩
    rw [show (((b - a : Nat) : Int) - 0).toNat = b - a by omega]
    refine for_it walk_rangeC (fun j σ H1 => ∃ v3 v4 v5, σ = [some (.int n), some (.ref L), some (.ref F), v3, v4, v5] ∧ Same H H1 ∧ ∃ ys, H1 F = some (.lst ys) ∧ ys.length = j ∧ DpAll K H1 ys (((falling n a b).take j).map rD))
      ⟨_, _, _, rfl, sF, [], upd_same, rfl, .nil⟩ (fun _ _ _ _ _ => trivial) (fun j x σ H1 H1' hj hP hY => ?_) (fun σ H1 hP => ?_)
    · obtain ⟨rfl, rfl⟩ := hY
      obtain ⟨v3, v4, v5, rfl, s1, ys, eF, nF, dF⟩ := hP
      have hL2 := s1 _ _ hL
      walk_at "rd"
      refine ⟨L, _, rfl, .inl (.inl hL2), fun c hc => ?_⟩
      have ce : cutV (plc a b) Option.none (some (0 + ((b - a : Nat) : Int) - 1 + ((j : Nat) : Int) * -1 + 1)) = plc a (b - j) := by
        rw [show 0 + ((b - a : Nat) : Int) - 1 + ((j : Nat) : Int) * -1 + 1 = ((b - a - j : Nat) : Int) by omega, cut_to' _ _ (by rw [plc_len]; omega), plc_take (by omega), show a + (b - a - j) = b - j by omega]
      dsimp only
      rw [ce]
      have sc := same_upd (o := .lst (plc a (b - j))) hc
      obtain ⟨H2, eH2⟩ : ∃ H2, H2 = upd H1' c (.lst (plc a (b - j))) := ⟨_, rfl⟩
      have ec : H2 c = some (.lst (plc a (b - j))) := by rw [eH2]; exact upd_same
      rw [← eH2] at sc ⊢
      clear eH2
      have eF2 := sc _ _ eF
      walk_at "rd"
      refine ⟨.inl ⟨rfl, _, .inl (.inl eF2)⟩, ?_⟩
      walk_at "rd"
      refine ⟨(show (-2 ^ 62 : Int) ≤ (n : Int) by omega), (show (n : Int) < 2 ^ 62 by omega), fun E1 hE => ?_⟩
      rw [Int.toNat_natCast]
      refine lc_range (lo := 0) (n := n) (MapAt H2 E1 fun k y _ => y = .int (if a ≤ k ∧ k + j + 1 ≤ b then 1 else 0)) (mapAt_0 hE) (fun q H3 hq hQ => ?_) (fun H3 hQ => ?_)
      · have s3 : Same H2 H3 := by obtain ⟨_, q, _⟩ := hQ; exact q
        walk_at "rd"
        refine ⟨c, _, rfl, .inl (.inl (.inl (s3 _ _ ec))), rfl, plc_flat _ _, ?_⟩
        have ei : (if false = true then !inV (V.int (0 + (q : Int))) (plc a (b - j)) else inV (V.int (0 + (q : Int))) (plc a (b - j))) = decide (a ≤ q ∧ q < b - j) := by rw [if_neg Bool.false_ne_true, Int.zero_add, plc_in]
        rw [ei]
        refine ⟨_, rfl, ?_⟩
        refine iteD (fun g => ?_) (fun g => ?_)
        · exact mapAt_step hQ hE (by rw [sizeLine_eq]; omega) (Same.refl _) (fun _ _ _ _ h _ => h) (by rw [if_pos (by omega)])
        · exact mapAt_step hQ hE (by rw [sizeLine_eq]; omega) (Same.refl _) (fun _ _ _ _ h _ => h) (by rw [if_neg (by omega)])
      · obtain ⟨zs, s3, e3, l3, r3⟩ := hQ
        have ez := items_eq (f := fun k => V.int (if a ≤ k ∧ k + j + 1 ≤ b then 1 else 0)) l3 r3
        walk_at "rd"
        refine ⟨_, _, rfl, .inl ⟨.inl (.inl e3), fun l hl => ?_⟩⟩
        have s4 := Same.trans s3 (same_upd (o := .tup zs) hl)
        have eF4 := s4 _ _ eF2
        refine ⟨_, _, _, rfl, rfl, eF4, by rw [nF, sizeLine_eq]; omega, ?_⟩
        walk_at "rd"
        refine ⟨_, _, _, rfl, fun x o e => ?_, _, upd_same, by simp [nF], ?_⟩
        · rw [upd_ne (ne_of_none e hF)]
          exact s4 _ _ (sc _ _ (s1 _ _ e))
        · have tl : Tp (upd H3 l (.tup zs)) (upd (upd H3 l (.tup zs)) F (.lst (ys ++ [V.ref l]))) := tp_lst eF4
          have e5 : (falling n a b).take (j + 1) = (falling n a b).take j ++ [(List.range n).map fun k => if a ≤ k ∧ k + j + 1 ≤ b then 1 else 0] := by
            rw [List.take_succ]
            congr 1
            rw [falling, List.getElem?_map, List.getElem?_range hj]
            rfl
          rw [e5, List.map_append]
          refine dpAll_app (DpAll.tp tl _ _ (tOnly_rows _) (DpAll.same (Same.trans sc s4) _ _ dF)) (.cons (dp_ints (tl.sqt (.inl (.inl ?_)))) .nil)
          rw [upd_same, ez, List.map_map]
          rfl
    · obtain ⟨v3, v4, v5, rfl, s1, ys, eF, nF, dF⟩ := hP
      walk_at "rd"
      refine k F H1 ys s1 eF hF ?_
      rw [List.take_of_length_le (by simp [falling])] at dF
      exact dF
end

section
variable {P : Program} {w : World} {K : PySem.W.Frag} {mg : Str → Option Value} {base : Heap}
theorem plc_snoc {a b : Nat} (h : a ≤ b) : plc a (b + 1) = plc a b ++ [V.int ((b : Nat) : Int)] := by
  unfold plc
  rw [show b + 1 - a = (b - a) + 1 by omega, List.range_succ, List.map_append]
  congr 1
  simp
  omega
theorem plc_none {a b : Nat} (h : b ≤ a) : plc a b = [] := by
  unfold plc
  rw [show b - a = 0 by omega]; rfl
theorem rg_plc (n : Nat) : rgV 0 (n : Int) = plc 0 n := by
  unfold rgV plc
  rw [show ((n : Int) - 0).toNat = n - 0 by omega]
  rfl
def sp_block_rows (K : PySem.W.Frag) : Sp := fun vs H Q _ => ∃ (n c : Nat) (L : Addr), vs = [.int n, .ref L] ∧ n ≤ 4 ∧ 1 ≤ c ∧ c < n ∧ H L = some (.lst (plc 0 c)) ∧ ∀ p H' xs, Same H H' → H' p = some (.tup xs) → DpAll K H' xs ((falling n 0 c ++ falling n c n).map rD) → Q (.ref p) H'
theorem ok_block_rows (T : Txt K mg) : FnOk P w K mg base CX0 2 T.block_rows.f T.block_rows.fd P_block_rows (sp_block_rows K) := by
  refine T.block_rows.F.ok sc_block_rows (fun vs H Q E h => ?_) (fun cdv A outer s H vs Q E hr h => ?_)
  · obtain ⟨n, c, L, rfl, _⟩ := h; rfl
  · obtain ⟨n, c, L, rfl, hn4, hc1, hc2, hL, k⟩ := h
    refine ⟨_, (pss_cons (ps_setLc (i := 2) (own := [("place", 3)]) rfl sc_block_rows.nd rfl rfl (sw_true rfl rfl rfl (by decide +kernel)) (pi_range1 rfl T.n_range (pa_cons (pv 0) pa_nil)) (blkOk_by (own := [("place", 3)]) (N := N_block_rows) (sc := defScope s_block_rows) (by decide +kernel)) (fun _ _ _ _ _ => (pg_name (i := 3) sc_block_rows.nd rfl (Or.inl rfl))) (fun _ _ _ _ _ => pts_one (pt_cmpR (r := rIn K true) op_notIn_seq (pv 3) (pv 1) (by rfl))) (fun _ _ _ _ _ => (pv 3)))
  (pss_one (ps_ret (pe_callTy (r := rTupOf K) call_tuple_of rfl T.n_tuple bo_tuple (pa_cons (pe_op op_cat (pe_call (ok_falling_rows T) (hr.mono (by decide)) rfl T.falling_rows.g T.falling_rows.F.kp (b_falling_rows T) .nil pass0 (pa_cons (pv 0) (pa_cons (pv 1) pa_nil))) (pe_call (ok_falling_rows T) (hr.mono (by decide)) rfl T.falling_rows.g T.falling_rows.F.kp (b_falling_rows T) .nil pass0 (pa_cons (pv 0) (pa_cons (pv 2) pa_nil)))) pa_nil))))), ?_⟩
    walk_at "rd"
    refine ⟨(by omega), (by omega), fun D hD => ?_⟩
    rw [Int.toNat_natCast]
    refine lc_range (lo := 0) (n := n) (fun i H1 => Same H H1 ∧ H1 D = some (.lst (plc c i))) ⟨same_upd hD, by rw [plc_none (by omega)]; exact upd_same⟩ (fun i H1 hi q => ?_) (fun H1 q => ?_)
    · obtain ⟨s1, e1⟩ := q
      walk_at "rd"
      refine ⟨L, _, rfl, .inl (.inl (.inl (s1 _ _ hL))), rfl, plc_flat _ _, ?_⟩
      have ei : (if true = true then !inV (V.int (0 + (i : Int))) (plc 0 c) else inV (V.int (0 + (i : Int))) (plc 0 c)) = !decide (0 ≤ i ∧ i < c) := by rw [if_pos rfl, Int.zero_add, plc_in]
      rw [ei]
      refine ⟨_, rfl, ?_⟩
      refine iteDn (fun g => ?_) (fun g => ?_)
      · walk_at "rd"
        refine ⟨_, e1, by rw [plc_len, sizeLine_eq]; omega, fun b o e => (upd_ne (ne_of_none e hD)).trans (s1 _ _ e), ?_⟩
        rw [upd_same, plc_snoc (by omega), Int.zero_add]
      · refine ⟨s1, ?_⟩
        rw [plc_none (by omega)] at e1 ⊢
        exact e1
    · obtain ⟨s1, e1⟩ := q
      walk_at "rd"
      refine ⟨n, 0, c, L, rfl, hn4, by omega, by omega, s1 _ _ hL, fun p H2 xs s2 e2 n2 d2 => ?_⟩
      walk_at "rd"
      refine ⟨n, c, n, D, rfl, hn4, by omega, by omega, s2 _ _ e1, fun q H3 ys s3 e3 n3 d3 => ?_⟩
      refine ⟨_, _, _, _, rfl, rfl, s3 _ _ e2, e3, ?_, fun r hr' => ?_⟩
      · have h1 := Toy.DpAll.len d2
        have h2 := Toy.DpAll.len d3
        simp [falling] at h1 h2
        rw [sizeLine_eq]
        omega
      refine ⟨_, _, rfl, .inl ⟨.inl (.inl upd_same), fun l hl => ?_⟩⟩
      have s4 : Same H3 (upd (upd H3 r (.lst (xs ++ ys))) l (.tup (xs ++ ys))) := Same.trans (same_upd hr') (same_upd hl)
      refine k l _ _ (Same.trans s1 (Same.trans s2 (Same.trans s3 s4))) upd_same ?_
      rw [List.map_append]
      exact dpAll_app (DpAll.same (Same.trans s3 s4) _ _ d2) (DpAll.same s4 _ _ d3)
theorem rep_flat (n : Nat) (x : V) : (List.replicate n [x]).flatten = List.replicate n x := by
  induction n with
  | zero => rfl
  | succ m ih => rw [List.replicate_succ, List.flatten_cons, ih]; rfl
theorem shaped_ints {r : List Int} (h : r.length ≤ 4) : SeqAt.shaped (rD r) = true := by
  match r, h with
  | [], _ => rfl
  | [_], _ => rfl
  | [_, _], _ => rfl
  | [_, _, _], _ => rfl
  | [_, _, _, _], _ => rfl
theorem shLex : SeqAt.shaped (.str sLex) = true := by kernel_rfl
theorem shDeg : SeqAt.shaped (.str sDeg) = true := by kernel_rfl
theorem shDrl : SeqAt.shaped (.str sDrl) = true := by kernel_rfl
theorem shBlk : SeqAt.shaped (.str sBlk) = true := by kernel_rfl
theorem shWts : SeqAt.shaped (.str sWts) = true := by kernel_rfl
theorem shaped_ord {n : Nat} {o : Ord} (hn : n ≤ 4) (ho : OrdOk n o) : SeqAt.shaped (oD o) = true := by
  cases o with
  | lex => kernel_rfl
  | deglex => kernel_rfl
  | drl => kernel_rfl
  | block k => kernel_rfl
  | wts ws =>
    have h : ws.length ≤ 4 := by have := ho.1; omega
    match ws, h with
    | [], _ => kernel_rfl
    | [_], _ => kernel_rfl
    | [_, _], _ => kernel_rfl
    | [_, _, _], _ => kernel_rfl
    | [_, _, _, _], _ => kernel_rfl
/-- order's value, the rows -/
def sp_rows_of (K : PySem.W.Frag) : Sp := fun vs H Q _ => ∃ (n : Nat) (o : Ord) (v : V), vs = [.int n, v] ∧ 1 ≤ n ∧ n ≤ 4 ∧ OrdOk n o ∧ Dp K H v (oD o) ∧ ∀ p H' xs, Same H H' → H' p = some (.tup xs) → DpAll K H' xs ((rowsL n o).map rD) → Q (.ref p) H'
theorem ok_rows_of (T : Txt K mg) : FnOk P w K mg base CX0 3 T.rows_of.f T.rows_of.fd P_rows_of (sp_rows_of K) := by
  refine T.rows_of.F.ok sc_rows_of (fun vs H Q E h => ?_) (fun cdv A outer s H vs Q E hr h => ?_)
  · obtain ⟨n, o, v, rfl, _⟩ := h; rfl
  · obtain ⟨n, o, v, rfl, hn, hn4, ho, hv, k⟩ := h
    refine ⟨_, (pss_cons (ps_if (pt_cmpR (op_eqD hr.units) (pv 1) pe_str (nomark _)) (pss_one (ps_ret (pe_callTy (r := rTupOf K) call_tuple_of rfl T.n_tuple bo_tuple (pa_cons (pe_call (ok_single_rows T) (hr.mono (by decide)) rfl T.single_rows.g T.single_rows.F.kp (b_single_rows T) .nil pass0 (pa_cons (pv 0) pa_nil)) pa_nil)))) pss_nil)
  (pss_cons (ps_if (pt_cmpR (op_eqD hr.units) (pv 1) pe_str (nomark _)) (pss_one (ps_ret (pe_callTy (r := rTupOf K) call_tuple_of rfl T.n_tuple bo_tuple (pa_cons (pe_op op_cat (pe_lst (pa_cons (pe_op (r := rRepA K) op_repA (pe_tup (pa_cons pe_int pa_nil)) (pv 0)) pa_nil)) (pe_call (ok_single_rows T) (hr.mono (by decide)) rfl T.single_rows.g T.single_rows.F.kp (b_single_rows T) .nil pass0 (pa_cons (pv 0) pa_nil))) pa_nil)))) pss_nil)
  (pss_cons (ps_set (i := 2) sc_rows_of.nd rfl (Or.inl rfl) (pe_listRg rfl rfl T.n_list (prg_1 rfl T.n_range (pv 0))))
  (pss_cons (ps_if (pt_cmpR (op_eqD hr.units) (pv 1) pe_str (nomark _)) (pss_one (ps_ret (pe_callTy (r := rTupOf K) call_tuple_of rfl T.n_tuple bo_tuple (pa_cons (pe_call (ok_falling_rows T) (hr.mono (by decide)) rfl T.falling_rows.g T.falling_rows.F.kp (b_falling_rows T) .nil pass0 (pa_cons (pv 0) (pa_cons (pv 2) pa_nil))) pa_nil)))) pss_nil)
  (pss_cons (ps_if (pt_cmpR (op_eqD hr.units) (pe_ix (r := rIxT K) ix_tup (pv 1) pe_int (fun _ _ => rfl)) pe_str (nomark _)) (pss_one (ps_ret (pe_call (ok_block_rows T) (hr.mono (by decide)) rfl T.block_rows.g T.block_rows.F.kp (b_block_rows T) .nil pass0 (pa_cons (pv 0) (pa_cons (pe_slice (r := rSlL K) sl_list (pv 2) po_none (po_some (pe_ix (r := rIxT K) ix_tup (pv 1) pe_int (fun _ _ => rfl)))) pa_nil))))) pss_nil)
  (pss_one (ps_ret (pe_callTy (r := rTupOf K) call_tuple_of rfl T.n_tuple bo_tuple (pa_cons (pe_op op_cat (pe_lst (pa_cons (pe_ix (r := rIxT K) ix_tup (pv 1) pe_int (fun _ _ => rfl)) pa_nil)) (pe_call (ok_falling_rows T) (hr.mono (by decide)) rfl T.falling_rows.g T.falling_rows.F.kp (b_falling_rows T) .nil pass0 (pa_cons (pv 0) (pa_cons (pv 2) pa_nil)))) pa_nil))))))))), ?_⟩
    have sh : SeqAt.shaped (oD o) = true := shaped_ord hn4 ho
    cases o with
    | lex =>
      walk_at "rd"
      refine ⟨_, _, hv, .str _, sh, shLex, ?_⟩
      walk_at "rd"
      refine ⟨hn4, fun p H1 xs s1 e1 n1 d1 => ?_⟩
      walk_at "rd"
      refine ⟨_, _, rfl, .inl ⟨.inl (.inl e1), fun l hl => ?_⟩⟩
      exact k l _ xs (Same.trans s1 (same_upd hl)) upd_same (DpAll.same (same_upd hl) _ _ d1)
    | deglex =>
      walk_at "rd"
      refine ⟨_, _, hv, .str _, sh, shLex, ?_⟩
      walk_at "rd"
      refine ⟨_, _, hv, .str _, sh, shDeg, ?_⟩
      walk_at "rd"
      refine ⟨(show 1 ≤ sizeLine by decide), fun t ht => ?_⟩
      walk_at "rd"
      have one : ∀ {t' : Addr} {H1 : Hp}, Same H H1 → H1 t' = some (.tup (List.replicate n (V.int 1))) → ∀ l, H1 l = Option.none → tCall (sp_single_rows K) [] E0 (tCons (tVar 0) tNil) (L2.start N_rows_of [V.int n, v]) (upd H1 l (.lst [.ref t'])) (fun y H2 => rCat (.ref l) y H2 fun z H3 => rTupOf K [z] H3 Q) := by
        intro t' H1 s1 e1 l hl
        walk_at "rd"
        refine ⟨hn4, fun p H2 xs s2 e2 n2 d2 => ?_⟩
        have s12 : Same H1 H2 := Same.trans (same_upd hl) s2
        refine ⟨_, _, _, _, rfl, rfl, s2 _ _ upd_same, e2, ?_, fun q hq => ?_⟩
        · have hx : xs.length = n := by
            have := Toy.DpAll.len d2
            rw [this]
            simp [singles]
          rw [sizeLine_eq]
          simp
          omega
        refine ⟨_, _, rfl, .inl ⟨.inl (.inl upd_same), fun r hr' => ?_⟩⟩
        have s3 : Same H2 (upd (upd H2 q (.lst ([.ref t'] ++ xs))) r (.tup ([.ref t'] ++ xs))) := Same.trans (same_upd hq) (same_upd hr')
        refine k r _ _ (Same.trans s1 (Same.trans s12 s3)) upd_same (.cons ?_ (DpAll.same s3 _ _ d2))
        refine dp_ints (.inl (.inl ?_))
        rw [List.map_replicate]
        exact s3 _ _ (s12 _ _ e1)
      by_cases h1 : n = 1
      · subst h1
        refine .inr ⟨_, _, rfl, rfl, .inl (.inl upd_same), ?_⟩
        walk_at "rd"
        refine ⟨(show 1 ≤ sizeLine by decide), fun l hl => one (same_upd ht) upd_same l hl⟩
      · refine .inl ⟨_, _, _, rfl, rfl, .inl (.inl upd_same), (by simp), (show (2 : Int) ≤ (n : Int) by omega), (show (n : Int) ≤ 1000 by omega), (show 1 ≤ 1000 by decide), fun t2 ht2 => ?_⟩
        walk_at "rd"
        refine ⟨(show 1 ≤ sizeLine by decide), fun l hl => one (Same.trans (same_upd ht) (same_upd ht2)) ?_ l hl⟩
        rw [upd_same, Int.toNat_natCast]
        rw [rep_flat]
    | drl =>
      walk_at "rd"
      refine ⟨_, _, hv, .str _, sh, shLex, ?_⟩
      walk_at "rd"
      refine ⟨_, _, hv, .str _, sh, shDeg, ?_⟩
      walk_at "rd"
      refine ⟨RgOk.of_le (by omega) (by omega) (by omega) (by omega), fun L hL => ?_⟩
      rw [rg_plc]
      have s1 := same_upd (o := .lst (plc 0 n)) hL
      walk_at "rd"
      refine ⟨_, _, Dp.same s1 _ _ hv, .str _, sh, shDrl, ?_⟩
      walk_at "rd"
      refine ⟨n, 0, n, L, rfl, hn4, Nat.zero_le _, Nat.le_refl _, upd_same, fun p H1 xs s2 e1 n1 d1 => ?_⟩
      walk_at "rd"
      refine ⟨_, _, rfl, .inl ⟨.inl (.inl e1), fun l hl => ?_⟩⟩
      exact k l _ xs (Same.trans s1 (Same.trans s2 (same_upd hl))) upd_same (DpAll.same (same_upd hl) _ _ d1)
    | block c =>
      obtain ⟨hc1, hc2⟩ := ho
      cases hv with
      | @tup a xs0 _ hT hA =>
      cases hA with
      | cons hx0 hA =>
      cases hx0
      cases hA with
      | cons hx1 hA =>
      cases hx1
      cases hA
      have hv : Dp K H (.ref a) (oD (.block c)) := .tup hT (.cons (.str _) (.cons (.int _) .nil))
      walk_at "rd"
      refine ⟨_, _, hv, .str _, sh, shLex, ?_⟩
      walk_at "rd"
      refine ⟨_, _, hv, .str _, sh, shDeg, ?_⟩
      walk_at "rd"
      refine ⟨RgOk.of_le (by omega) (by omega) (by omega) (by omega), fun L hL => ?_⟩
      rw [rg_plc]
      have s1 := same_upd (o := .lst (plc 0 n)) hL
      have hT1 := Toy.Same.tup s1 hT
      walk_at "rd"
      refine ⟨_, _, Dp.same s1 _ _ hv, .str _, sh, shDrl, ?_⟩
      walk_at "rd"
      refine ⟨_, _, .str _, .str _, shBlk, shBlk, ?_⟩
      walk_at "rd"
      refine ⟨L, _, rfl, .inl (.inl upd_same), fun c' hc' => ?_⟩
      rw [cut_to' _ _ (by rw [plc_len]; omega), plc_take (by omega), Nat.zero_add]
      have s2 := same_upd (o := .lst (plc 0 c)) hc'
      walk_at "rd"
      exact ⟨n, c, c', rfl, hn4, hc1, hc2, upd_same, fun p H1 xs s3 e1 d1 => k p H1 xs (Same.trans s1 (Same.trans s2 s3)) e1 d1⟩
    | wts ws =>
      obtain ⟨hw1, hw2⟩ := ho
      cases hv with
      | @tup a xs0 _ hT hA =>
      cases hA with
      | cons hx0 hA =>
      cases hx0
      cases hA with
      | @cons wv _ _ _ hx1 hA =>
      cases hA
      have hv : Dp K H (.ref a) (oD (.wts ws)) := .tup hT (.cons (.str _) (.cons hx1 .nil))
      walk_at "rd"
      refine ⟨_, _, hv, .str _, sh, shLex, ?_⟩
      walk_at "rd"
      refine ⟨_, _, hv, .str _, sh, shDeg, ?_⟩
      walk_at "rd"
      refine ⟨RgOk.of_le (by omega) (by omega) (by omega) (by omega), fun L hL => ?_⟩
      rw [rg_plc]
      have s1 := same_upd (o := .lst (plc 0 n)) hL
      have hT1 := Toy.Same.tup s1 hT
      walk_at "rd"
      refine ⟨_, _, Dp.same s1 _ _ hv, .str _, sh, shDrl, ?_⟩
      walk_at "rd"
      refine ⟨_, _, .str _, .str _, shWts, shBlk, ?_⟩
      walk_at "rd"
      refine ⟨(show 1 ≤ sizeLine by decide), fun t ht => ?_⟩
      have s2 := same_upd (o := .lst [wv]) ht
      walk_at "rd"
      refine ⟨n, 0, n, L, rfl, hn4, Nat.zero_le _, Nat.le_refl _, s2 _ _ upd_same, fun p H1 xs s3 e1 n1 d1 => ?_⟩
      refine ⟨_, _, _, _, rfl, rfl, s3 _ _ upd_same, e1, ?_, fun r hr' => ?_⟩
      · have h1 := Toy.DpAll.len d1
        simp [falling] at h1
        rw [sizeLine_eq]
        simp
        omega
      refine ⟨_, _, rfl, .inl ⟨.inl (.inl upd_same), fun l hl => ?_⟩⟩
      have s4 : Same H1 (upd (upd H1 r (.lst ([wv] ++ xs))) l (.tup ([wv] ++ xs))) := Same.trans (same_upd hr') (same_upd hl)
      have s0 := Same.trans s1 (Same.trans s2 (Same.trans s3 s4))
      exact k l _ _ s0 upd_same (.cons (Dp.same s0 _ _ hx1) (DpAll.same s4 _ _ d1))
end

theorem em_c {p G : Prop} (a : p → G) (b : ¬ p → G) : G := by
  by_cases h : p
  · exact a h
  · exact b h
theorem pe_fldK {X : Cx} {K : PySem.W.Frag} {e : Expr} {f : Str} {pos : Pos} {ta : TE} (hK : X.K = K) (he : PE X e ta) (hb : attributeBase e f X.env (eval e X.env) = eval e X.env) : PE X (.Attribute e f pos) (tFld K ta f) := by
  subst hK
  exact pe_fld he hb
/-- the rows of an order, as far as the numbers need it -/
def RowsOk (n : Nat) (rs : List (List Int)) : Prop := rs.length ≤ 5 ∧ ∀ r ∈ rs, r.length = n ∧ ∀ e ∈ r, 0 ≤ e ∧ e ≤ 20
def foldU (rs : List (List Int)) (p : Nat) : Int := rs.foldl (fun t row => t * PLi + row.getD p 0) 0
theorem pli_eq : PLi = 281474976710656 := by decide +kernel
theorem foldU_snoc (rs : List (List Int)) (r : List Int) (p : Nat) : foldU (rs ++ [r]) p = foldU rs p * PLi + r.getD p 0 := by
  unfold foldU
  rw [List.foldl_append]
  rfl
theorem foldU_bd {n : Nat} : ∀ (m : Nat) (rs : List (List Int)) (p : Nat), rs.length = m → (∀ r ∈ rs, r.length = n ∧ ∀ e ∈ r, 0 ≤ e ∧ e ≤ 20) → 0 ≤ foldU rs p ∧ foldU rs p < 2 ^ (50 * m + 1) := by
  intro m
  induction m with
  | zero =>
    intro rs p h _
    have : rs = [] := List.eq_nil_of_length_eq_zero h
    subst this
    exact ⟨Int.le_refl _, by show (0 : Int) < 2; decide⟩
  | succ m ih =>
    intro rs p h hr
    obtain ⟨qs, r, rfl⟩ : ∃ qs r, rs = qs ++ [r] := by
      have hne : rs ≠ [] := by intro z; subst z; simp at h
      exact ⟨rs.dropLast, rs.getLast hne, (List.dropLast_concat_getLast hne).symm⟩
    have h1 := ih qs p (by simpa using h) fun r hr' => hr r (by simp [hr'])
    have h2 : 0 ≤ r.getD p 0 ∧ r.getD p 0 ≤ 20 := by
      by_cases q : p < r.length
      · rw [List.getD_eq_getElem?_getD, List.getElem?_eq_getElem q]
        exact (hr r (by simp)).2 _ (List.getElem_mem q)
      · rw [List.getD_eq_getElem?_getD, List.getElem?_eq_none (by omega)]
        exact ⟨by decide, by decide⟩
    rw [foldU_snoc, pli_eq]
    have e : (2 : Int) ^ (50 * (m + 1) + 1) = 2 ^ (50 * m + 1) * 1125899906842624 := by
      rw [show 50 * (m + 1) + 1 = (50 * m + 1) + 50 by omega, Int.pow_add]
      rfl
    rw [e]
    obtain ⟨a1, a2⟩ := h1
    have a3 : (1 : Int) ≤ 2 ^ (50 * m + 1) := by omega
    omega
theorem foldU_abs {n m : Nat} {rs : List (List Int)} {p : Nat} (h : rs.length ≤ 5) (hr : ∀ r ∈ rs, r.length = n ∧ ∀ e ∈ r, 0 ≤ e ∧ e ≤ 20) : (foldU rs p).natAbs < 2 ^ 251 := by
  have h1 := foldU_bd (n := n) rs.length rs p rfl hr
  have h2 : (2 : Int) ^ (50 * rs.length + 1) ≤ 2 ^ 251 := by
    have : (2 : Nat) ^ (50 * rs.length + 1) ≤ 2 ^ 251 := Nat.pow_le_pow_right (by decide) (by omega)
    exact_mod_cast this
  have e : ((2 ^ 251 : Nat) : Int) = (2 : Int) ^ 251 := by decide +kernel
  omega
theorem dpAll_at {K : PySem.W.Frag} {H : Hp} : ∀ {xs : List V} {ds : List PyData} {i : Nat} {x : V} {d : PyData}, DpAll K H xs ds → xs[i]? = some x → ds[i]? = some d → Dp K H x d
  | _, _, _, _, _, .nil, h, _ => by simp at h
  | _, _, 0, _, _, .cons a _, h1, h2 => by
    simp at h1 h2
    subst h1 h2
    exact a
  | _, _, i + 1, _, _, .cons _ t, h1, h2 => dpAll_at (i := i) t (by simpa using h1) (by simpa using h2)
theorem dpAll_ints_eq {K : PySem.W.Frag} {H : Hp} : ∀ {xs : List V} {r : List Int}, DpAll K H xs (r.map .int) → xs = r.map V.int
  | _, [], h => by cases h; rfl
  | _, n :: r, h => by
    cases h with
    | cons a t =>
      cases a
      rw [dpAll_ints_eq t]
      rfl
theorem shl_nn {i : Int} {j n : Nat} {J : Int} (e : J = (j : Int)) (h : i.natAbs < 2 ^ n) (hn : n + j ≤ 134217728) : CShl i J := by
  rw [e]
  exact shl_ok h hn
section
variable {P : Program} {w : World} {K : PySem.W.Frag} {mg : Str → Option Value} {base : Heap}
def sp_Coding_unit (C : Addr) (K : PySem.W.Frag) : Sp := fun vs H Q _ => ∃ (a dx R S : Addr) (fs : List (Str × V)) (n p : Nat) (rs : List (List Int)) (xs : List V), vs = [.ref a, .int p] ∧ 1 ≤ n ∧ n ≤ 4 ∧ p < n ∧ RowsOk n rs ∧
  H a = some (.ins C dx fs) ∧ fs.lookup ("rows" : Str) = some (.ref R) ∧ SqT K H R xs ∧ DpAll K H xs (rs.map rD) ∧ fs.lookup ("many" : Str) = some (.int n) ∧ fs.lookup ("shifts" : Str) = some (.ref S) ∧ H S = some (.lst ((List.range n).map fun k => V.int (48 * (n - 1 - k : Nat)))) ∧
  Q (.int (unitN n rs p)) H
theorem ok_Coding_unit (T : Txt K mg) : FnOk P w K mg base CX0 1 T.Coding.fu T.Coding.fdu P_Coding_unit (sp_Coding_unit T.Coding.C K) := by
  refine T.Coding.Fu.ok sc_Coding_unit (fun vs H Q E h => ?_) (fun cdv A outer s H vs Q E hr h => ?_)
  · obtain ⟨a, dx, R, S, fs, n, p, rs, xs, rfl, _⟩ := h; rfl
  · obtain ⟨a, dx, R, S, fs, n, p, rs, xs, rfl, hn1, hn4, hp, ⟨hr5, hrs⟩, ha, fR, hR, dR, fM, fS, hS, k⟩ := h
    refine ⟨_, (pss_cons (ps_set (i := 2) sc_Coding_unit.nd rfl (Or.inl rfl) pe_int)
  (pss_cons (ps_for PassesOwn.never rfl (pi_tup (pe_fld (pv 0) rfl)) (pg_name (i := 3) sc_Coding_unit.nd rfl (Or.inl rfl)) (pss_one (ps_set (i := 2) sc_Coding_unit.nd rfl (Or.inl rfl) (pe_op op_add (pe_op op_mulW (pv 2) (pe_glob rfl T.g_PLACE (v := .int PLi) ⟨_, rfl⟩)) (pe_ix (r := rIxT K) ix_tup (pv 3) (pv 1) (fun _ _ => rfl))))))
  (pss_one (ps_ret (pe_op op_add (pe_op op_shlW (pv 2) (pe_op op_mulW (pe_glob rfl T.g_WIDTH (v := .int 48) ⟨_, rfl⟩) (pe_fld (pv 0) rfl))) (pe_op op_shlW pe_int (pe_ix (r := rIxL K) ix_list (pe_fld (pv 0) rfl) (pv 1) (fun _ _ => rfl)))))))), ?_⟩
    walk_at "rd"
    refine ⟨_, _, _, _, _, rfl, ha, T.Coding.cls, T.Coding.n_rows, fR, ?_⟩
    refine ⟨R, rfl, ⟨xs, hR⟩, ?_⟩
    have hlen : xs.length = rs.length := by have := Toy.DpAll.len dR; simpa using this
    refine for_tup (xs := xs) (fun i σ H' => H' = H ∧ ∃ y, σ = [some (.ref a), some (.int p), some (.int (foldU (rs.take i) p)), y]) ⟨rfl, _, rfl⟩ (fun i σ H' _ q => by rw [q.1]; exact hR) (fun i x σ H' hx q => ?_) (fun σ H' q => ?_)
    · obtain ⟨rfl, y, rfl⟩ := q
      have hi : i < rs.length := by rw [← hlen]; exact (List.getElem?_eq_some_iff.mp hx).1
      have dx1 : Dp K H' x (rD rs[i]) := dpAll_at dR hx (by rw [List.getElem?_map, List.getElem?_eq_getElem hi]; rfl)
      cases dx1 with
      | @tup b ys _ hb hbs =>
      have ey := dpAll_ints_eq hbs
      subst ey
      have hri := hrs _ (List.getElem_mem hi)
      have hpi : p < rs[i].length := by rw [hri.1]; exact hp
      have hat : atI (rs[i].map V.int) (p : Int) = some (V.int (rs[i].getD p 0)) := by
        refine atI_nat ?_
        rw [List.getElem?_map, List.getElem?_eq_getElem hpi, List.getD_eq_getElem?_getD, List.getElem?_eq_getElem hpi]
        rfl
      have bd := foldU_abs (n := n) (m := 0) (rs := rs.take i) (p := p) (by simp; omega) fun r hr' => hrs r (List.mem_of_mem_take hr')
      walk_at "rd"
      refine ⟨wide_mul (a := 251) (b := 49) bd (by rw [pli_eq]; decide) (by decide) (by decide) (by decide), ?_⟩
      walk_at "rd"
      refine ⟨_, _, _, _, rfl, rfl, hb, hat, ?_⟩
      walk_at "rd"
      have e : foldU (rs.take (i + 1)) p = foldU (rs.take i) p * PLi + rs[i].getD p 0 := by
        rw [List.take_succ, List.getElem?_eq_getElem hi]
        exact foldU_snoc _ _ _
      exact ⟨_, by rw [e]; rfl⟩
    · obtain ⟨rfl, y, rfl⟩ := q
      have bd := foldU_abs (n := n) (m := 0) (rs := rs) (p := p) hr5 hrs
      rw [hlen, List.take_length]
      walk_at "rd"
      refine ⟨_, _, _, _, _, rfl, ha, T.Coding.cls, T.Coding.n_many, fM, ?_⟩
      walk_at "rd"
      refine ⟨shl_nn (j := 48 * n) (n := 251) (by omega) bd (by omega), ?_⟩
      walk_at "rd"
      refine ⟨_, _, _, _, _, rfl, ha, T.Coding.cls, T.Coding.n_shifts, fS, ?_⟩
      have hat : atI ((List.range n).map fun k => V.int (48 * (n - 1 - k : Nat))) (p : Int) = some (V.int (48 * (n - 1 - p : Nat))) := by
        refine atI_nat ?_
        rw [List.getElem?_map, List.getElem?_range hp]
        rfl
      walk_at "rd"
      refine ⟨_, _, _, _, rfl, rfl, .inl (.inl hS), hat, ?_⟩
      walk_at "rd"
      refine ⟨shl_nn (j := 48 * (n - 1 - p)) (n := 1) (by omega) (by decide) (by omega), ?_⟩
      walk_at "rd"
      have e1 : (48 * (n : Int)).toNat = 48 * n := by omega
      have e2 : (48 * ((n - 1 - p : Nat) : Int)).toNat = 48 * (n - 1 - p) := by omega
      show Q (V.int (foldU rs p * 2 ^ (48 * (n : Int)).toNat + 1 * 2 ^ (48 * ((n - 1 - p : Nat) : Int)).toNat)) _
      rw [e1, e2, Int.one_mul]
      exact k
/-- a Coding of these rows stands at a -/
def CodO (C : Addr) (K : PySem.W.Frag) (H : Hp) (a : Addr) (n : Nat) (rs : List (List Int)) : Prop := ∃ (dx L : Addr) (fs : List (Str × V)) (rv : V), H a = some (.ins C dx fs) ∧ fs.lookup ("many" : Str) = some (.int n) ∧ fs.lookup ("rows" : Str) = some rv ∧
  Dp K H rv (rsD rs) ∧ fs.lookup ("units" : Str) = some (.ref L) ∧ H L = some (.lst ((unitsL n rs).map V.int)) ∧ fs.lookup ("code" : Str) = Option.none
/-- its field -/
def shiftsL (n : Nat) : List Int := (List.range n).map fun k => 48 * (n - 1 - k : Nat)
/-- its shifts -/
def CodS (H : Hp) (fs : List (Str × V)) : Prop := ∃ (S : Addr) (n : Nat), fs.lookup ("many" : Str) = some (.int n) ∧ fs.lookup ("shifts" : Str) = some (.ref S) ∧ H S = some (.lst ((shiftsL n).map V.int)) ∧ fs.lookup ("exponents" : Str) = Option.none
def CodF (C : Addr) (H : Hp) (a : Addr) (f : Int) : Prop := ∃ (dx : Addr) (fs : List (Str × V)), H a = some (.ins C dx fs) ∧ fs.lookup ("field" : Str) = some (.int f) ∧ CodS H fs
theorem okD {P : Program} {w : World} {K : PySem.W.Frag} {mg : Str → Option Value} {base : Heap} {x qual : Str} {params : Arguments} {body : List Stmt} {scope : Scope} {dvs : List V} {kws : List (Str × V)} {f : Addr} {fd : FuncData} {N ps : List Str} {k : Nat} {sp : Sp} (F : FunD K x qual params body scope dvs kws f fd) (S : FnScope N ps scope) (len : ∀ vs H Q E, sp vs H Q E → vs.length = ps.length)
    (hbody : ∀ (cdv : Value) (A : Around) (outer : List Env) (s : Shared) (H : Hp) (vs : List V) (Q : VK) (E : XK), Room k (A.deeper (PyProof.Rows.envOfC qual scope s.heap.objs.size f cdv)) → sp vs H Q E →
      ∃ t, PSs (cxOf CX0 P w K mg base N qual scope f cdv A outer s H E).nox body t ∧ t { nx := fun _ H' => Q .non H', rt := Q } (L2.start N vs) H) : FnOk P w K mg base CX0 (k + 1) f fd ps sp := by
  refine F.ok S len fun cdv A outer s H vs Q E hr hsp => ?_
  obtain ⟨t, h, q⟩ := hbody cdv A outer s H vs Q E hr hsp
  exact ⟨t, h.nox, q⟩
def sp_Coding_init (C aE : Addr) (K : PySem.W.Frag) : Sp := fun vs H Q _ => ∃ (a dx : Addr) (f : Int) (n : Nat) (rs : List (List Int)) (rv : V), vs = [.ref a, .int f, .int n, rv, .non, .ref aE] ∧ 1 ≤ n ∧ n ≤ 4 ∧ RowsOk n rs ∧ Dp K H rv (rsD rs) ∧ H a = some (.ins C dx []) ∧
  ∀ H', CodO C K H' a n rs → CodF C H' a f → (∀ b o, b ≠ a → H b = some o → H' b = some o) → Q .non H'
theorem ok_Coding___init__ (T : Txt K mg) : FnOk P w K mg base CX0 2 T.Coding.fi T.Coding.fdi P_Coding___init__ (sp_Coding_init T.Coding.C T.Coding.aE K) := by
  refine okD T.Coding.Fi sc_Coding___init__ (fun vs H Q E h => ?_) (fun cdv A outer s H vs Q E hr h => ?_)
  · obtain ⟨a, dx, f, n, rs, rv, rfl, _⟩ := h; rfl
  · obtain ⟨a, dx, f, n, rs, rv, rfl, hn1, hn4, hrs, hrv, ha, k⟩ := h
    refine ⟨_, (pss_cons (ps_fld (pv 0) (pv 1) rfl)
  (pss_cons (ps_fld (pv 0) (pv 2) rfl)
  (pss_cons (ps_fld (pv 0) (pv 3) rfl)
  (pss_cons (ps_fld (pv 0) (pe_ifExp (pt_cmpR op_isN (pv 4) pe_non (nomark _)) (pe_op (r := rRepA K) op_repA (pe_tup (pa_cons pe_int pa_nil)) (pv 2)) (pv 4)) rfl)
  (pss_cons (ps_fld (pv 0) (pv 5) rfl)
  (pss_cons (ps_fld (pv 0) (pe_lc (own := [("k", 6)]) rfl sc_Coding___init__.nd (pi_range1 rfl T.n_range (pa_cons (pv 2) pa_nil)) (blkOk_by (own := [("k", 6)]) (N := N_Coding___init__) (sc := defScope s_Coding___init__) (by decide +kernel)) (fun _ _ _ _ _ => (pg_name (i := 6) sc_Coding___init__.nd rfl (Or.inl rfl))) (fun _ _ _ _ _ => pts_nil) (fun _ _ _ _ _ => (pe_op op_mulW (pe_glob rfl T.g_WIDTH (v := .int 48) ⟨_, rfl⟩) (pe_op op_sub (pe_op op_sub (pv 2) pe_int) (pv 6))))) rfl)
  (pss_cons (ps_fld (pv 0) (pe_lc (own := [("place", 7)]) rfl sc_Coding___init__.nd (pi_range1 rfl T.n_range (pa_cons (pv 2) pa_nil)) (blkOk_by (own := [("place", 7)]) (N := N_Coding___init__) (sc := defScope s_Coding___init__) (by decide +kernel)) (fun _ _ _ _ _ => (pg_name (i := 7) sc_Coding___init__.nd rfl (Or.inl rfl))) (fun _ _ _ _ _ => pts_nil) (fun _ _ _ _ _ => (pe_meth (pv 0) T.Coding.cls T.Coding.m_unit (ok_Coding_unit T) (hr.mono (by decide)) (b_Coding_unit T) .nil pass0 (pa_cons (pv 7) pa_nil)))) rfl)
  (pss_cons (ps_fld (pv 0) (pe_callB (r := rSumS K) (cr_sumS rfl) rfl T.n_sum bo_sum (pa_cons (pe_lc (own := [("k", 6)]) rfl sc_Coding___init__.nd (pi_tup (pv 5)) (blkOk_by (own := [("k", 6)]) (N := N_Coding___init__) (sc := defScope s_Coding___init__) (by decide +kernel)) (fun _ _ _ _ _ => (pg_name (i := 6) sc_Coding___init__.nd rfl (Or.inl rfl))) (fun _ _ _ _ _ => pts_nil) (fun _ _ _ _ _ => (pe_op op_shlW (pe_glob rfl T.g_MASK (v := .int MKi) ⟨_, rfl⟩) (pe_ix (r := rIxL K) ix_list (pe_fldK (K := K) rfl (pv 0) rfl) (pv 6) (fun _ _ => rfl))))) pa_nil)) rfl)
  (pss_one (ps_fld (pv 0) (pe_callB (r := rSumS K) (cr_sumS rfl) rfl T.n_sum bo_sum (pa_cons (pe_lc (own := [("shift", 8)]) rfl sc_Coding___init__.nd (pi_list (pe_fld (pv 0) rfl)) (blkOk_by (own := [("shift", 8)]) (N := N_Coding___init__) (sc := defScope s_Coding___init__) (by decide +kernel)) (fun _ _ _ _ _ => (pg_name (i := 8) sc_Coding___init__.nd rfl (Or.inl rfl))) (fun _ _ _ _ _ => pts_nil) (fun _ _ _ _ _ => (pe_op op_shlW (pe_op op_fdivZ (pe_glob rfl T.g_PLACE (v := .int PLi) ⟨_, rfl⟩) pe_int) (pv 8)))) pa_nil)) rfl)))))))))), ?_⟩
    walk_at "rd"
    refine ⟨_, _, _, _, rfl, ha, T.Coding.cls, T.Coding.n_field, (by decide), ?_⟩
    walk_at "rd"
    have l1 := length_putF ("field" : Str) (V.int f) []
    have l2 := length_putF ("many" : Str) (V.int n) (putF ("field" : Str) (V.int f) [])
    have l3 := length_putF ("rows" : Str) rv (putF ("many" : Str) (V.int n) (putF ("field" : Str) (V.int f) []))
    simp only [List.length_nil] at l1
    refine ⟨_, _, _, _, rfl, upd_same, T.Coding.cls, T.Coding.n_many, (by omega), ?_⟩
    walk_at "rd"
    refine ⟨_, _, _, _, rfl, upd_same, T.Coding.cls, T.Coding.n_rows, (by omega), ?_⟩
    rw [upd_upd, upd_upd]
    obtain ⟨fs0, e0⟩ : ∃ fs0, fs0 = putF ("rows" : Str) rv (putF ("many" : Str) (V.int n) (putF ("field" : Str) (V.int f) [])) := ⟨_, rfl⟩
    have f0f : fs0.lookup ("field" : Str) = some (.int f) := by rw [e0, lookup_putF, if_neg (by decide), lookup_putF, if_neg (by decide), lookup_putF, if_pos rfl]
    have f0m : fs0.lookup ("many" : Str) = some (.int n) := by rw [e0, lookup_putF, if_neg (by decide), lookup_putF, if_pos rfl]
    have f0r : fs0.lookup ("rows" : Str) = some rv := by rw [e0, lookup_putF, if_pos rfl]
    have f0o : ∀ x : Str, x ≠ "rows" → x ≠ "many" → x ≠ "field" → fs0.lookup x = Option.none := fun x h1 h2 h3 => by rw [e0, lookup_putF, if_neg h1, lookup_putF, if_neg h2, lookup_putF, if_neg h3]; rfl
    rw [← e0] at l3 ⊢
    obtain ⟨G0, eG0⟩ : ∃ G0, G0 = upd H a (.ins T.Coding.C dx fs0) := ⟨_, rfl⟩
    have G0a : G0 a = some (.ins T.Coding.C dx fs0) := by rw [eG0]; exact upd_same
    have G0k : ∀ b o, b ≠ a → H b = some o → G0 b = some o := fun b o h1 h2 => by rw [eG0]; exact (upd_ne h1).trans h2
    rw [← eG0]
    walk_at "rd"
    refine ⟨(show 1 ≤ sizeLine by decide), fun t ht => ?_⟩
    have st := same_upd (o := .tup [V.int 1]) ht
    walk_at "rd"
    refine em_c (p := n = 1) (fun h1 => ?_) (fun h1 => ?_)
    focus
      refine .inr ⟨_, _, rfl, (congrArg (fun m : Nat => V.int (m : Int)) h1), .inl (.inl upd_same), ?_⟩
      obtain ⟨G1, eG1⟩ : ∃ G1, G1 = upd G0 t (.tup [V.int 1]) := ⟨_, rfl⟩
      have sG : Same G0 G1 := by rw [eG1]; exact st
      obtain ⟨gv, egv⟩ : ∃ gv, gv = t := ⟨_, rfl⟩
      rw [← eG1, ← egv]
      clear eG1 egv
    rotate_left
    focus
      refine .inl ⟨_, _, _, rfl, rfl, .inl (.inl upd_same), (by simp), (show (2 : Int) ≤ (n : Int) by omega), (show (n : Int) ≤ 1000 by omega), (show 1 ≤ 1000 by decide), fun t2 ht2 => ?_⟩
      have st2 := Same.trans st (same_upd (o := .tup (List.flatten (List.replicate (n : Int).toNat [V.int 1]))) ht2)
      obtain ⟨G1, eG1⟩ : ∃ G1, G1 = upd (upd G0 t (.tup [V.int 1])) t2 (.tup (List.flatten (List.replicate (n : Int).toNat [V.int 1]))) := ⟨_, rfl⟩
      have sG : Same G0 G1 := by rw [eG1]; exact st2
      obtain ⟨gv, egv⟩ : ∃ gv, gv = t2 := ⟨_, rfl⟩
      rw [← eG1, ← egv]
      clear eG1 egv st2
    all_goals
      walk_at "rd"
      refine ⟨_, _, _, _, rfl, sG _ _ G0a, T.Coding.cls, T.Coding.n_grades, (by omega), ?_⟩
      have lg := length_putF ("grades" : Str) (V.ref gv) fs0
      have lm := length_putF ("marks" : Str) (V.ref T.Coding.aE) (putF ("grades" : Str) (V.ref gv) fs0)
      walk_at "rd"
      refine ⟨_, _, _, _, rfl, upd_same, T.Coding.cls, T.Coding.n_marks, (by omega), ?_⟩
      rw [upd_upd]
      obtain ⟨fs3, e3⟩ : ∃ fs3, fs3 = putF ("marks" : Str) (V.ref T.Coding.aE) (putF ("grades" : Str) (V.ref gv) fs0) := ⟨_, rfl⟩
      have f3x : ∀ x : Str, x ≠ "marks" → x ≠ "grades" → fs3.lookup x = fs0.lookup x := fun x h1 h2 => by rw [e3, lookup_putF, if_neg h1, lookup_putF, if_neg h2]
      have f3f : fs3.lookup ("field" : Str) = some (.int f) := by rw [f3x _ (by decide) (by decide)]; exact f0f
      have f3m : fs3.lookup ("many" : Str) = some (.int n) := by rw [f3x _ (by decide) (by decide)]; exact f0m
      have f3r : fs3.lookup ("rows" : Str) = some rv := by rw [f3x _ (by decide) (by decide)]; exact f0r
      have f3o : ∀ x : Str, x ≠ "rows" → x ≠ "many" → x ≠ "field" → x ≠ "marks" → x ≠ "grades" → fs3.lookup x = Option.none := fun x h1 h2 h3 h4 h5 => by rw [f3x _ h4 h5]; exact f0o x h1 h2 h3
      rw [← e3] at lm ⊢
      obtain ⟨G, eG⟩ : ∃ G, G = upd G1 a (.ins T.Coding.C dx fs3) := ⟨_, rfl⟩
      have Ga : G a = some (.ins T.Coding.C dx fs3) := by rw [eG]; exact upd_same
      have Gk : ∀ b o, b ≠ a → H b = some o → G b = some o := fun b o h1 h2 => by rw [eG]; exact (upd_ne h1).trans (sG _ _ (G0k b o h1 h2))
      rw [← eG]
      walk_at "rd"
      refine ⟨(by omega), (by omega), fun D hD => ?_⟩
      rw [Int.toNat_natCast]
      refine lc_range (lo := 0) (n := n) (MapAt G D fun k y _ => y = .int (48 * (n - 1 - k : Nat))) (mapAt_0 hD) (fun q H2 hq hQ => ?_) (fun H2 hQ => ?_)
      · walk_at "rd"
        refine mapAt_step hQ hD (by rw [sizeLine_eq]; omega) (Same.refl _) (fun _ _ _ _ h _ => h) ?_
        show V.int _ = V.int _
        congr 1
        omega
      obtain ⟨ys, s1, e1, n1, r1⟩ := hQ
      have ey := items_eq (f := fun k => V.int (48 * (n - 1 - k : Nat))) n1 r1
      subst ey
      have a2 := s1 _ _ Ga
      have nD : D ≠ a := fun z => by rw [z, Ga] at hD; cases hD
      walk_at "rd"
      refine ⟨_, _, _, _, rfl, a2, T.Coding.cls, T.Coding.n_shifts, (by omega), ?_⟩
      obtain ⟨fs4, e4⟩ : ∃ fs4, fs4 = putF ("shifts" : Str) (V.ref D) fs3 := ⟨_, rfl⟩
      have l4 := length_putF ("shifts" : Str) (V.ref D) fs3
      rw [← e4] at l4 ⊢
      have f4 : ∀ x : Str, x ≠ "shifts" → fs4.lookup x = fs3.lookup x := fun x h => by rw [e4, lookup_putF, if_neg h]
      have f4s : fs4.lookup ("shifts" : Str) = some (.ref D) := by rw [e4, lookup_putF, if_pos rfl]
      obtain ⟨G4, eG4⟩ : ∃ G4, G4 = upd H2 a (.ins T.Coding.C dx fs4) := ⟨_, rfl⟩
      have G4a : G4 a = some (.ins T.Coding.C dx fs4) := by rw [eG4]; exact upd_same
      have G4k : ∀ b o, b ≠ a → H b = some o → G4 b = some o := fun b o h1 h2 => by rw [eG4]; exact (upd_ne h1).trans (s1 _ _ (Gk b o h1 h2))
      have G4D : G4 D = some (.lst ((List.range n).map fun k => V.int (48 * (n - 1 - k : Nat)))) := by rw [eG4]; exact (upd_ne nD).trans e1
      rw [← eG4]
      have tpH : ∀ {H' : Hp}, (∀ b o, b ≠ a → H b = some o → H' b = some o) → Tp H H' := fun {H'} hk b xs q => by
        have nb : b ≠ a := fun z => by
          subst z
          rcases q with q | ⟨o, q⟩
          · rw [ha] at q; cases q
          · rw [ha] at q; cases q
        rcases q with q | ⟨o, q⟩
        · exact .inl (hk _ _ nb q)
        · exact .inr ⟨o, hk _ _ nb q⟩
      have rvt : ∀ {H' : Hp}, (∀ b o, b ≠ a → H b = some o → H' b = some o) → Dp K H' rv (rsD rs) := fun {H'} hk => Dp.tp (tpH hk) _ _ (tOnly_rows rs) hrv
      walk_at "rd"
      refine ⟨(by omega), (by omega), fun D5 hD5 => ?_⟩
      rw [Int.toNat_natCast]
      refine lc_range (lo := 0) (n := n) (MapAt G4 D5 fun p y _ => y = .int (unitN n rs p)) (mapAt_0 hD5) (fun q H5 hq hQ => ?_) (fun H5 hQ => ?_)
      · have s5 : Same G4 H5 := by obtain ⟨_, s5, _⟩ := hQ; exact s5
        walk_at "rd"
        refine ⟨_, _, _, rfl, s5 _ _ G4a, (by rw [f4 _ (by decide)]; exact f3o _ (by decide) (by decide) (by decide) (by decide) (by decide)), ?_⟩
        walk_at "rd"
        have rv5 := rvt (fun b o h1 h2 => s5 _ _ (G4k b o h1 h2))
        cases rv5 with
        | @tup R xs _ hR dR =>
        refine ⟨a, dx, R, D, fs4, n, q, rs, xs, by rw [Int.zero_add]; rfl, hn1, hn4, hq, hrs, s5 _ _ G4a, by rw [f4 _ (by decide)]; exact f3r, hR, dR, by rw [f4 _ (by decide)]; exact f3m, f4s, s5 _ _ G4D, ?_⟩
        exact mapAt_step hQ hD5 (by rw [sizeLine_eq]; omega) (Same.refl _) (fun _ _ _ _ h _ => h) rfl
      obtain ⟨ys, s5, e5, n5, r5⟩ := hQ
      have ey := items_eq (f := fun p => V.int (unitN n rs p)) n5 r5
      subst ey
      have nD5 : D5 ≠ a := fun z => by rw [z, G4a] at hD5; cases hD5
      walk_at "rd"
      refine ⟨_, _, _, _, rfl, s5 _ _ G4a, T.Coding.cls, T.Coding.n_units, (by omega), ?_⟩
      obtain ⟨fs6, e6⟩ : ∃ fs6, fs6 = putF ("units" : Str) (V.ref D5) fs4 := ⟨_, rfl⟩
      have l6 := length_putF ("units" : Str) (V.ref D5) fs4
      rw [← e6] at l6 ⊢
      have f6 : ∀ x : Str, x ≠ "units" → fs6.lookup x = fs4.lookup x := fun x h => by rw [e6, lookup_putF, if_neg h]
      have f6u : fs6.lookup ("units" : Str) = some (.ref D5) := by rw [e6, lookup_putF, if_pos rfl]
      obtain ⟨G6, eG6⟩ : ∃ G6, G6 = upd H5 a (.ins T.Coding.C dx fs6) := ⟨_, rfl⟩
      have G6a : G6 a = some (.ins T.Coding.C dx fs6) := by rw [eG6]; exact upd_same
      have G6k : ∀ b o, b ≠ a → H b = some o → G6 b = some o := fun b o h1 h2 => by rw [eG6]; exact (upd_ne h1).trans (s5 _ _ (G4k b o h1 h2))
      have G6D : G6 D = some (.lst ((List.range n).map fun k => V.int (48 * (n - 1 - k : Nat)))) := by rw [eG6]; exact (upd_ne nD).trans (s5 _ _ G4D)
      have G6U : G6 D5 = some (.lst ((List.range n).map fun p => V.int (unitN n rs p))) := by rw [eG6]; exact (upd_ne nD5).trans e5
      rw [← eG6]
      walk_at "rd"
      refine ⟨⟨[], T.Coding.t_E _⟩, fun D8 hD8 => ?_⟩
      refine lc_tup (K := K) (a := T.Coding.aE) (xs := []) (fun i H8 => Same G6 H8 ∧ H8 D8 = some (.lst [])) ⟨same_upd hD8, upd_same⟩ (fun i H8 _ _ => T.Coding.t_E _) (fun i x H8 hx _ => by simp at hx) (fun H8 q8 => ?_)
      obtain ⟨s8, e8⟩ := q8
      walk_at "rd"
      refine ⟨D8, [], rfl, .inl (.inl (.inl e8)), ?_⟩
      walk_at "rd"
      refine ⟨_, _, _, _, rfl, s8 _ _ G6a, T.Coding.cls, T.Coding.n_marked, (by omega), ?_⟩
      obtain ⟨fs9, e9'⟩ : ∃ fs9, fs9 = putF ("marked" : Str) (V.int ([] : List Int).sum) fs6 := ⟨_, rfl⟩
      have l9 := length_putF ("marked" : Str) (V.int ([] : List Int).sum) fs6
      rw [← e9'] at l9 ⊢
      have f9 : ∀ x : Str, x ≠ "marked" → fs9.lookup x = fs6.lookup x := fun x h => by rw [e9', lookup_putF, if_neg h]
      obtain ⟨G9, eG9⟩ : ∃ G9, G9 = upd H8 a (.ins T.Coding.C dx fs9) := ⟨_, rfl⟩
      have G9a : G9 a = some (.ins T.Coding.C dx fs9) := by rw [eG9]; exact upd_same
      have G9k : ∀ b o, b ≠ a → H b = some o → G9 b = some o := fun b o h1 h2 => by rw [eG9]; exact (upd_ne h1).trans (s8 _ _ (G6k b o h1 h2))
      have G9D : G9 D = some (.lst ((List.range n).map fun k => V.int (48 * (n - 1 - k : Nat)))) := by rw [eG9]; exact (upd_ne nD).trans (s8 _ _ G6D)
      have G9U : G9 D5 = some (.lst ((List.range n).map fun p => V.int (unitN n rs p))) := by rw [eG9]; exact (upd_ne nD5).trans (s8 _ _ G6U)
      rw [← eG9]
      walk_at "rd"
      refine ⟨_, _, _, _, _, rfl, G9a, T.Coding.cls, T.Coding.n_shifts, (by rw [f9 _ (by decide), f6 _ (by decide)]; exact f4s), ?_⟩
      refine ⟨D, rfl, ⟨_, .inl (.inl G9D)⟩, fun D7 hD7 => ?_⟩
      refine lc_list (K := K) (a := D) (xs := (List.range n).map fun k => V.int (48 * (n - 1 - k : Nat))) (MapAt G9 D7 fun k y _ => y = .int (140737488355328 * 2 ^ (48 * (n - 1 - k)))) (mapAt_0 hD7) (fun i H7 _ q => .inl (.inl (by obtain ⟨_, q, _⟩ := q; exact q _ _ G9D))) (fun i x H7 hx hQ => ?_) (fun H7 hQ => ?_)
      · have hi : i < n := by
          have := (List.getElem?_eq_some_iff.mp hx).1
          simpa using this
        rw [List.getElem?_map, List.getElem?_range hi] at hx
        obtain rfl := Option.some.inj hx
        walk_at "rd"
        have e9 : PLi.fdiv 2 = 140737488355328 := by decide +kernel
        refine ⟨shl_nn (j := 48 * (n - 1 - i)) (n := 48) (by omega) (by rw [e9]; decide) (by omega), ?_⟩
        walk_at "rd"
        have e2 : (48 * ((n - 1 - i : Nat) : Int)).toNat = 48 * (n - 1 - i) := by omega
        refine mapAt_step hQ hD7 (by rw [sizeLine_eq]; omega) (Same.refl _) (fun _ _ _ _ h _ => h) ?_
        show V.int _ = V.int _
        rw [e2, e9]
      obtain ⟨ys, s7, e7, n7, r7⟩ := hQ
      simp only [List.length_map, List.length_range] at n7
      have ey := items_eq (f := fun k => V.int (140737488355328 * 2 ^ (48 * (n - 1 - k)))) n7 r7
      subst ey
      walk_at "rd"
      refine ⟨D7, (List.range n).map fun k => 140737488355328 * 2 ^ (48 * (n - 1 - k)), rfl, .inl (.inl (.inl ?_)), ?_⟩
      · rw [e7, List.map_map]
        rfl
      walk_at "rd"
      refine ⟨_, _, _, _, rfl, s7 _ _ G9a, T.Coding.cls, T.Coding.n_guard, (by omega), ?_⟩
      have fin : ∀ (fs8 : List (Str × V)), (∀ x : Str, x ≠ "guard" → fs8.lookup x = fs9.lookup x) → Q .non (upd H7 a (.ins T.Coding.C dx fs8)) := fun fs8 f8 => by
        have hk : ∀ b o, b ≠ a → H b = some o → (upd H7 a (.ins T.Coding.C dx fs8)) b = some o := fun b o h1 h2 => (upd_ne h1).trans (s7 _ _ (G9k b o h1 h2))
        refine k _ ⟨dx, D5, fs8, rv, upd_same, ?_, ?_, rvt hk, ?_, ?_, ?_⟩ ⟨dx, fs8, upd_same, by rw [f8 _ (by decide), f9 _ (by decide), f6 _ (by decide), f4 _ (by decide)]; exact f3f, D, n, by rw [f8 _ (by decide), f9 _ (by decide), f6 _ (by decide), f4 _ (by decide)]; exact f3m, by rw [f8 _ (by decide), f9 _ (by decide), f6 _ (by decide)]; exact f4s, by rw [upd_ne nD, s7 _ _ G9D, shiftsL, List.map_map]; rfl, by rw [f8 _ (by decide), f9 _ (by decide), f6 _ (by decide), f4 _ (by decide)]; exact f3o _ (by decide) (by decide) (by decide) (by decide) (by decide)⟩ hk
        · rw [f8 _ (by decide), f9 _ (by decide), f6 _ (by decide), f4 _ (by decide)]; exact f3m
        · rw [f8 _ (by decide), f9 _ (by decide), f6 _ (by decide), f4 _ (by decide)]; exact f3r
        · rw [f8 _ (by decide), f9 _ (by decide)]; exact f6u
        · rw [upd_ne nD5, s7 _ _ G9U, unitsL, List.map_map]; rfl
        · rw [f8 _ (by decide), f9 _ (by decide), f6 _ (by decide), f4 _ (by decide)]; exact f3o _ (by decide) (by decide) (by decide) (by decide) (by decide)
      exact fin _ fun x h => by rw [lookup_putF, if_neg h]
end

theorem tup_of {P : Program} {w : World} {K : PySem.W.Frag} {H : Hp} {h : Heap} (hok : HOk P w H h) (kin : K.In h) {a : Addr} {xs : List V} (q : SqT K H a xs) : ∃ its : List Value, Vals xs its ∧ h.IsTuple a its.toArray := by
  rcases q with (q | ⟨o, q⟩) | ⟨o, its, n, e1, e2, e3, _, rv⟩
  · obtain ⟨_, its, rv, t⟩ := hok a _ q
    exact ⟨its, rv, t⟩
  · obtain ⟨_, _, its, rv, t⟩ := hok a _ q
    exact ⟨its, rv, t⟩
  · refine ⟨its.toList, rv, o, kin _ _ e1, e2, n, ?_⟩
    rw [e3, Array.toArray_toList]
theorem vals_ints {r : List Int} {its : List Value} (h : Vals (r.map V.int) its) : PyProof.Rows.IntsAre its r := intsAre_of h
section
variable {P : Program} {w : World} {K : PySem.W.Frag} {mg : Str → Option Value} {base : Heap}
/-- code, read plainly: in any heap that grew out of h0 -/
theorem code_pu (T : Txt K mg) {H : Hp} {h0 : Heap} {Φ : Heap → Prop} {D U : Nat} {a M : Addr} {n : Nat} {rs : List (List Int)} {ms : List Int} (Sx : Stay K mg Φ) (hΦ : ∀ h, Φ h → Kp h0 h) (hok : HOk P w H h0) (kin : K.In h0)
    (hc : CodO T.Coding.C K H a n rs) (hM : SqT K H M (ms.map V.int)) (hw : ∀ (i : Nat) (x y : Int), ms[i]? = some x → (unitsL n rs)[i]? = some y → CMulW x y) (hD : D + 8 < recursionLimit) (hU : U + 64 < cLine) :
    PuG P w Φ D U T.Coding.fc T.Coding.fdc P_Coding_code [.ref a, .ref M] (fun y => ∃ t, y = .int (dotZ ms (unitsL n rs)) t) := by
  obtain ⟨dx, L, fs, rv, ha, _, _, _, fu, hL, _⟩ := hc
  obtain ⟨itm, rvm, tm⟩ := tup_of hok kin hM
  obtain ⟨mA, O, hr, _⟩ := ins_get hok ha
  obtain ⟨u, hu, ru⟩ := RelO.some_of (v := .ref L) (o := mA ("units" : Str)) (by rw [← fu]; exact hr _)
  obtain rfl : u = Value.ref L := ru
  obtain ⟨_, itl, nl, rvl, hl⟩ := hok L _ hL
  have up : ∀ h, Φ h → Kp h0 h := hΦ
  refine pf_dot (C := T.Coding.C) (dx := dx) (L := L) T.Coding.Fc sc_Coding_code Sx rfl rfl (by decide) (by decide) rfl T.n_zip (by decide) hD hU T.Coding.cls T.Coding.n_units (fun h q => ?_) (fun h q => ?_) (fun h q => ?_) hw
  · refine ⟨mA, L, ?_, hu, rfl⟩
    obtain ⟨o1, o2, o3⟩ := O
    exact ⟨up h q _ _ o1, o2.keeps fun b o e => up h q b o e, o3⟩
  · obtain ⟨o, e1, e2, e3⟩ := tm
    exact ⟨itm, ⟨o, up h q _ _ e1, e2, e3⟩, vals_ints rvm⟩
  · exact ⟨itl, ⟨_, up h q _ _ hl, rfl, nl, rfl⟩, vals_ints rvl⟩
/-- what bounds the products -/
def MonoOk (n : Nat) (ms : List Int) : Prop := ms.length = n ∧ ∀ e ∈ ms, 0 ≤ e ∧ e ≤ 60
theorem unit_mul {n : Nat} {rs : List (List Int)} {ms : List Int} (hn : n ≤ 4) (hrs : RowsOk n rs) (hm : MonoOk n ms) : ∀ (i : Nat) (x y : Int), ms[i]? = some x → (unitsL n rs)[i]? = some y → CMulW x y := by
  intro i x y hx hy
  have h1 := hm.2 x (List.mem_of_getElem? hx)
  have hi : i < n := by
    have := (List.getElem?_eq_some_iff.mp hy).1
    simpa [unitsL] using this
  rw [unitsL, List.getElem?_map, List.getElem?_range hi] at hy
  obtain rfl := Option.some.inj hy
  refine wide_mul (a := 10) (b := 500) (by omega) ?_ (by decide) (by decide) (by decide)
  have b1 := foldU_abs (n := n) (m := 0) (rs := rs) (p := i) hrs.1 hrs.2
  have e : unitN n rs i = foldU rs i * 2 ^ (48 * n) + 2 ^ (48 * (n - 1 - i)) := rfl
  rw [e]
  have p1 : (2 : Nat) ^ (48 * n) ≤ 2 ^ 192 := Nat.pow_le_pow_right (by decide) (by omega)
  have p2 : (2 : Nat) ^ (48 * (n - 1 - i)) ≤ 2 ^ 192 := Nat.pow_le_pow_right (by decide) (by omega)
  have q1 : (foldU rs i * 2 ^ (48 * n)).natAbs ≤ 2 ^ 251 * 2 ^ 192 := by
    rw [Int.natAbs_mul]
    refine Nat.mul_le_mul (Nat.le_of_lt b1) ?_
    have : ((2 : Int) ^ (48 * n)).natAbs = 2 ^ (48 * n) := by rw [Int.natAbs_pow]; rfl
    rw [this]
    exact p1
  have q2 : ((2 : Int) ^ (48 * (n - 1 - i))).natAbs ≤ 2 ^ 192 := by
    have : ((2 : Int) ^ (48 * (n - 1 - i))).natAbs = 2 ^ (48 * (n - 1 - i)) := by rw [Int.natAbs_pow]; rfl
    rw [this]
    exact p2
  have q3 := Int.natAbs_add_le (foldU rs i * 2 ^ (48 * n)) (2 ^ (48 * (n - 1 - i)))
  have q4 : (2 : Nat) ^ 251 * 2 ^ 192 + 2 ^ 192 < 2 ^ 500 := by decide +kernel
  omega
def sp_Coding_code (C : Addr) (K : PySem.W.Frag) : Sp := fun vs H Q _ => ∃ (a M : Addr) (n : Nat) (rs : List (List Int)) (ms : List Int), vs = [.ref a, .ref M] ∧ n ≤ 4 ∧ RowsOk n rs ∧ MonoOk n ms ∧ CodO C K H a n rs ∧ SqT K H M (ms.map V.int) ∧ Q (.int (dotZ ms (unitsL n rs))) H
theorem ok_Coding_code (T : Txt K mg) : FnOk P w K mg base CX0 8 T.Coding.fc T.Coding.fdc P_Coding_code (sp_Coding_code T.Coding.C K) := by
  refine fnOk_pu (fun vs H Q E h => ?_) (fun A outer s H us vs Q E hr he hv h => ?_)
  · obtain ⟨a, M, n, rs, ms, rfl, _⟩ := h; rfl
  · obtain ⟨a, M, n, rs, ms, rfl, hn, hrs, hm, hc, hM, q⟩ := h
    obtain ⟨u1, u2, rfl, r1, r2⟩ := vals2 hv
    obtain rfl : u1 = Value.ref a := r1
    obtain rfl : u2 = Value.ref M := r2
    have bk : ∀ b o, base.get? b = some o → s.heap.get? b = some o := fun b o e => (he.bs b o e).1
    refine ⟨fun h => Kp s.heap h, _, fun _ _ e => e, code_pu T (stay_all he.mod bk) (fun _ q => q) he.hok (he.mod.kin.keeps bk) hc hM (unit_mul hn hrs hm) (by have := hr.dp; omega) (by have := hr.un; omega), ?_⟩
    rintro y ⟨t, rfl⟩
    exact ⟨.int _, ⟨t, rfl⟩, q⟩
end

theorem val3 {x y z : V} {us : List Value} (r : Vals [x, y, z] us) : ∃ a b c, us = [a, b, c] ∧ RelV x a ∧ RelV y b ∧ RelV z c := by
  cases r with
  | cons h1 t =>
    cases t with
    | cons h2 t =>
      cases t with
      | cons h3 t =>
        cases t
        exact ⟨_, _, _, rfl, h1, h2, h3⟩
section
variable {P : Program} {w : World} {K : PySem.W.Frag} {mg : Str → Option Value} {base : Heap} {Φ : Heap → Prop} {D U : Nat}
theorem isi_int {i : Int} {t : Tok} {T : String} {b : Bool} (h : PySem.W.kitOne K (.type "int") (.type T) = some b) : Isi K Φ (.int i t) T b :=
  ⟨.type "int", fun _ => True, PySem.W.kitx_int, fun _ _ => trivial, h, fun z => nomatch z⟩
theorem glo {cenv : Env} {sc : Scope} {x : Str} {k : NameKind} (e : cenv.scope = sc) (h : sc.names.lookup x = some k) : cenv.kindOf x = some k := by
  show cenv.scope.names.lookup x = _
  rw [e]
  exact h
theorem is_integer_pu (T : Txt K mg) (Sx : Stay K mg Φ) (hD : D < recursionLimit) (i : Int) (t : Tok) : PuG P w Φ D U T.is_integer.f T.is_integer.fd P_is_integer [.int i t] (· = .bool true) := by
  refine pf_of T.is_integer.F sc_is_integer Sx rfl rfl hD fun cenv ev hsc => ?_
  have hv : ∀ {pos : Pos}, PuE P w Φ cenv (bindL cenv.kindOf (P_is_integer.zip [Value.int i t]) fun _ => Option.none) (D + 1) (U + 3) (.Name "value" pos) (· = .int i t) := fun {pos} =>
    pu_name ev (by rw [hsc]; rfl) (bindL_get (i := 0) (by decide) rfl rfl (glo hsc rfl))
  exact pu_and Sx (x := true) (y := true) (pu_isi Sx ev (glo hsc rfl) T.n_isinstance (glo hsc rfl) T.n_int bo_int hv (isi_int kit_int_int))
    (fun _ => pu_not (x := false) (pu_isi Sx ev (glo hsc rfl) T.n_isinstance (glo hsc rfl) T.n_bool bo_bool hv (isi_int kit_int_bool)))
theorem is_integer_in_pu (T : Txt K mg) (Sx : Stay K mg Φ) (hD : D + 1 < recursionLimit) (i lo hi : Int) (t t2 t3 : Tok) :
    PuG P w Φ D U T.is_integer_in.f T.is_integer_in.fd P_is_integer_in [.int i t, .int lo t2, .int hi t3] (· = .bool (decide (lo ≤ i) && decide (i ≤ hi))) := by
  refine pf_of T.is_integer_in.F sc_is_integer_in Sx rfl rfl (by omega) fun cenv ev hsc => ?_
  have hv : ∀ {pos : Pos}, PuE P w Φ cenv (bindL cenv.kindOf (P_is_integer_in.zip [Value.int i t, .int lo t2, .int hi t3]) fun _ => Option.none) (D + 1) (U + 3) (.Name "value" pos) (· = .int i t) := fun {pos} =>
    pu_name ev (by rw [hsc]; rfl) (bindL_get (i := 0) (by decide) rfl rfl (glo hsc rfl))
  have hl : ∀ {pos : Pos}, PuE P w Φ cenv (bindL cenv.kindOf (P_is_integer_in.zip [Value.int i t, .int lo t2, .int hi t3]) fun _ => Option.none) (D + 1) (U + 3) (.Name "low" pos) (· = .int lo t2) := fun {pos} =>
    pu_name ev (by rw [hsc]; rfl) (bindL_get (i := 1) (by decide) rfl rfl (glo hsc rfl))
  have hh : ∀ {pos : Pos}, PuE P w Φ cenv (bindL cenv.kindOf (P_is_integer_in.zip [Value.int i t, .int lo t2, .int hi t3]) fun _ => Option.none) (D + 1) (U + 3) (.Name "high" pos) (· = .int hi t3) := fun {pos} =>
    pu_name ev (by rw [hsc]; rfl) (bindL_get (i := 2) (by decide) rfl rfl (glo hsc rfl))
  refine PuE.imp (pu_and Sx (x := true) (y := decide (lo ≤ i) && decide (i ≤ hi)) (pu_call (f := T.is_integer.f) (R := (· = .bool true)) Sx ev (glo hsc rfl) T.is_integer.g T.is_integer.F.kp (pua_cons Sx hv pua_nil) ?_)
    (fun _ => pu_chain Sx (PuE.imp hl fun y e => ⟨t2, e⟩) (PuE.imp hv fun y e => ⟨t, e⟩) (PuE.imp hh fun y e => ⟨t3, e⟩))) fun y e => ?_
  · rintro us ⟨u, vs, rfl, rfl, rfl⟩
    exact PuG.pos (is_integer_pu T Sx hD i t) Sx (b_is_integer T) rfl
  · rw [e, Bool.true_and]
/-- the two as promises -/
def sp_is_integer : Sp := fun vs H Q _ => ∃ i : Int, vs = [.int i] ∧ Q (.bl true) H
theorem ok_is_integer (T : Txt K mg) : FnOk P w K mg base CX0 1 T.is_integer.f T.is_integer.fd P_is_integer sp_is_integer := by
  refine fnOk_pu (fun vs H Q E h => ?_) (fun A outer s H us vs Q E hr he hv h => ?_)
  · obtain ⟨i, rfl, _⟩ := h; rfl
  · obtain ⟨i, rfl, q⟩ := h
    obtain ⟨u, rfl, ⟨t, rfl⟩⟩ := vals1 hv
    refine ⟨fun h => Kp s.heap h, _, fun _ _ e => e, is_integer_pu T (stay_all he.mod fun b o e => (he.bs b o e).1) (by have := hr.dp; omega) i t, ?_⟩
    rintro y rfl
    exact ⟨.bl true, rfl, q⟩
def sp_is_integer_in : Sp := fun vs H Q _ => ∃ i lo hi : Int, vs = [.int i, .int lo, .int hi] ∧ Q (.bl (decide (lo ≤ i) && decide (i ≤ hi))) H
theorem ok_is_integer_in (T : Txt K mg) : FnOk P w K mg base CX0 2 T.is_integer_in.f T.is_integer_in.fd P_is_integer_in sp_is_integer_in := by
  refine fnOk_pu (fun vs H Q E h => ?_) (fun A outer s H us vs Q E hr he hv h => ?_)
  · obtain ⟨i, lo, hi, rfl, _⟩ := h; rfl
  · obtain ⟨i, lo, hi, rfl, q⟩ := h
    obtain ⟨u, u2, u3, rfl, ⟨t, rfl⟩, ⟨t2, rfl⟩, ⟨t3, rfl⟩⟩ := val3 hv
    refine ⟨fun h => Kp s.heap h, _, fun _ _ e => e, is_integer_in_pu T (stay_all he.mod fun b o e => (he.bs b o e).1) (by have := hr.dp; omega) i lo hi t t2 t3, ?_⟩
    rintro y rfl
    exact ⟨.bl _, rfl, q⟩
/-- the element of is_order's and is_monomial's all(..) -/
theorem elt_in {X : Cx} {Tb : Addr} {sc : Scope} {x : Str} {xs : List Int} {H1 : Hp} {lo hi : Int} {g : Str} {p1 p2 p3 p4 p5 : Pos} {j : Nat} {th : Tok} (T : Txt X.K X.mg) (hr : Room 12 X.A) (hx : sc.names.lookup x = some .local) (hf : sc.names.lookup ("is_integer_in" : Str) = some .globalImplicit) (hg : sc.names.lookup g = some .globalImplicit)
    (mgh : X.mg g = some (.int hi th)) (hd : (x == ("__debug__" : Str)) = false) (hd2 : (g == ("__debug__" : Str)) = false) :
    EltT X Tb sc x (.Call (.Name "is_integer_in" p1) [.Name x p2, .Constant (.int lo) j p3, .Name g p4] [] p5) (xs.map V.int) (fun i => decide (lo ≤ xs.getD i 0) && decide (xs.getD i 0 ≤ hi)) H1 := by
  intro Φ pins σ t1 cenv m i v u Sx I hΦ ev hsc _ hi' rv hm
  have hlt : i < xs.length := by have := (List.getElem?_eq_some_iff.mp hi').1; simpa using this
  rw [List.getElem?_map, List.getElem?_eq_getElem hlt] at hi'
  obtain rfl := Option.some.inj hi'
  obtain ⟨t, rfl⟩ := rv
  have eg : xs.getD i 0 = xs[i] := by rw [List.getD_eq_getElem?_getD, List.getElem?_eq_getElem hlt]; rfl
  refine PuE.imp (R := (· = .bool (decide (lo ≤ xs[i]) && decide (xs[i] ≤ hi)))) ?_ (fun y e => by rw [e]; simp only [eg])
  refine pu_call (f := T.is_integer_in.f) Sx ev (glo hsc hf) T.is_integer_in.g T.is_integer_in.F.kp (pua_cons Sx (pu_name ev (by rw [hsc]; exact hx) hm hd) (pua_cons Sx pu_int (pua_cons Sx (pu_glob Sx ev (glo hsc hg) mgh hd2) pua_nil))) ?_
  rintro us ⟨u, vs, rfl, rfl, u2, vs2, rfl, ⟨t2, rfl⟩, u3, vs3, rfl, rfl, rfl⟩
  exact PuG.pos (is_integer_in_pu T Sx (by have := hr.dp; omega) _ _ _ t t2 th) Sx (b_is_integer_in T) rfl
end

section
variable {P : Program} {w : World} {K : PySem.W.Frag} {mg : Str → Option Value} {base : Heap}
theorem okC {x qual : Str} {st : Stmt} {f : Addr} {fd : FuncData} {N ps : List Str} {k : Nat} {sp : Sp} {c : Addr} (F : Fun K x qual st f fd) (hc : fd.code = .ref c) (S : FnScope N ps (defScope st)) (len : ∀ vs H Q E, sp vs H Q E → vs.length = ps.length)
    (hbody : ∀ (A : Around) (outer : List Env) (s : Shared) (H : Hp) (vs : List V) (Q : VK) (E : XK), Room k (A.deeper (PyProof.Rows.envOfC qual (defScope st) s.heap.objs.size f (.ref c))) → sp vs H Q E →
      ∃ t, PSs (cxOf CX0 P w K mg base N qual (defScope st) f (.ref c) A outer s H E).nox (defBody st) t ∧ t { nx := fun _ H' => Q .non H', rt := Q } (L2.start N vs) H) : FnOk P w K mg base CX0 (k + 1) f fd ps sp := by
  obtain ⟨oc, od, kV, doc, pm, an, cdv, ct, osl, rfl, lk, hcd⟩ := F.ex
  have e : cdv = .ref c := hc
  subst e
  refine fn_of lk hcd S len fun A outer s H vs Q E hr hsp => ?_
  obtain ⟨t, h, q⟩ := hbody A outer s H vs Q E hr hsp
  exact ⟨t, h.nox, q⟩
end

/-! ### tables of the defs that make generator expressions and lambdas -/
def gensL : List Str := ["is_row_of_integers", "is_polynomial"]
def lamsL : List Str := ["sum_of_terms"]
structure TabsAt where
  a : Str → Addr
  ne : ∀ x ∈ gensL ++ lamsL, ∀ y ∈ gensL ++ lamsL, x ≠ y → a x ≠ a y
def qLam (x : Str) : Str := x ++ ".<locals>." ++ "<lambda>"
def lamT (x : Str) (Pt : Addr) : List (Addr × Str) := [(Pt, qLam x)]
structure TS (t : TabsAt) (H : Hp) : Prop where
  g : ∀ x ∈ gensL, GxR.TabG H (t.a x)
  l : ∀ x ∈ lamsL, LamX.Tabs (lamT x (t.a x)) H
theorem tabG_eq {H H' : Hp} {p : Addr} (h : GxR.TabG H p) (e : H' p = H p) : GxR.TabG H' p := by
  obtain ⟨ps, h1, h2⟩ := h
  exact ⟨ps, e.trans h1, h2⟩
theorem TS.same {t : TabsAt} {H H' : Hp} (h : TS t H) (s : Same H H') : TS t H' := by
  have g : ∀ {p : Addr}, GxR.TabG H p → GxR.TabG H' p := fun {p} ⟨ps, h1, h2⟩ => ⟨ps, s _ _ h1, h2⟩
  exact ⟨fun x hx => g (h.g x hx), fun x hx => (h.l x hx).ext s⟩
theorem tabs_off {H H' : Hp} {x : Str} {l p : Addr} (h : LamX.Tabs (lamT x l) H) (hp : GxR.TabG H p) (n : p ≠ l) (e : ∀ b, b ≠ p → H' b = H b) : LamX.Tabs (lamT x l) H' := fun z hz => by
  unfold lamT at hz
  rw [List.mem_singleton] at hz
  subst hz
  obtain ⟨ps, a1, a2, a3⟩ := h (l, qLam x) List.mem_cons_self
  obtain ⟨ps', p1, _⟩ := hp
  refine ⟨ps, (e _ n.symm).trans a1, a2, fun pos cv hcv => ?_⟩
  obtain ⟨cz, q1, q2⟩ := a3 pos cv hcv
  refine ⟨cz, q1, (e _ fun z => ?_).trans q2⟩
  rw [z, p1] at q2
  unfold LamX.CodeO at q2
  cases q2
theorem ext_tab {H H' : Hp} {p : Addr} (hp : GxR.TabG H p) (e : GxR.Tabbed p H H') : LamX.ExtN H H' := fun b o h n => by
  obtain ⟨ps, p1, _⟩ := hp
  have nb : b ≠ p := fun z => by
    subst z
    rw [p1] at h
    exact n ps (Option.some.inj h).symm
  exact (e.2 b nb).trans h
/-- the tables when one of a generator expression has grown -/
theorem TS.tab {t : TabsAt} {H H' : Hp} (h : TS t H) {x : Str} (hx : x ∈ gensL) (hd : x ∉ lamsL) (e : GxR.Tabbed (t.a x) H H') : TS t H' := by
  refine ⟨fun y hy => ?_, fun y hy => ?_⟩
  · by_cases hxy : y = x
    · subst hxy; exact e.1
    · exact tabG_eq (h.g y hy) (e.2 _ (t.ne y (List.mem_append_left _ hy) x (List.mem_append_left _ hx) hxy))
  · have hxy : x ≠ y := fun z => hd (z ▸ hy)
    exact tabs_off (h.l y hy) (h.g x hx) (t.ne x (List.mem_append_left _ hx) y (List.mem_append_right _ hy) hxy) e.2
/-- the tables when a lambda's has grown -/
theorem TS.lam {t : TabsAt} {H H' : Hp} (h : TS t H) {x : Str} (hx : x ∈ lamsL) (hd : x ∉ gensL) (kb : ∀ b o, b ≠ t.a x → H b = some o → H' b = some o) (n : LamX.Tabs (lamT x (t.a x)) H') (hp : ∃ ps, H (t.a x) = some (.tbl ps)) : TS t H' := by
  refine ⟨fun y hy => ?_, fun y hy => ?_⟩
  · obtain ⟨ps, h1, h2⟩ := h.g y hy
    exact ⟨ps, kb _ _ (t.ne y (List.mem_append_left _ hy) x (List.mem_append_right _ hx) fun z => hd (z ▸ hy)) h1, h2⟩
  · by_cases hxy : y = x
    · subst hxy; exact n
    · intro z hz
      unfold lamT at hz
      rw [List.mem_singleton] at hz
      subst hz
      obtain ⟨ps, a1, a2, a3⟩ := h.l y hy (t.a y, qLam y) List.mem_cons_self
      obtain ⟨ps', p1⟩ := hp
      refine ⟨ps, kb _ _ (t.ne y (List.mem_append_right _ hy) x (List.mem_append_right _ hx) hxy) a1, a2, fun pos cv hcv => ?_⟩
      obtain ⟨cz, q1, q2⟩ := a3 pos cv hcv
      refine ⟨cz, q1, kb _ _ (fun z => ?_) q2⟩
      rw [z, p1] at q2
      unfold LamX.CodeO at q2
      cases q2
/-- all but tables stays, and the tables are in order -/
structure Ex (t : TabsAt) (H H' : Hp) : Prop where
  keep : LamX.ExtN H H'
  ts : TS t H'
theorem Ex.same {t : TabsAt} {H H1 H2 : Hp} (a : Ex t H H1) (s : Same H1 H2) : Ex t H H2 := ⟨fun b o e n => s _ _ (a.keep b o e n), a.ts.same s⟩
theorem Ex.trans {t : TabsAt} {H H1 H2 : Hp} (a : Ex t H H1) (b : Ex t H1 H2) : Ex t H H2 := ⟨a.keep.trans b.keep, b.ts⟩
theorem Ex.of {t : TabsAt} {H H1 : Hp} (h : TS t H) (s : Same H H1) : Ex t H H1 := ⟨LamX.ExtN.of s, h.same s⟩
theorem Ex.tab {t : TabsAt} {H H' : Hp} (h : TS t H) {x : Str} (hx : x ∈ gensL) (hd : x ∉ lamsL) (e : GxR.Tabbed (t.a x) H H') : Ex t H H' := ⟨ext_tab (h.g x hx) e, h.tab hx hd e⟩
/-! ### the generator expressions' scopes -/
def geSc : Expr → Scope
  | .GeneratorExp _ _ s _ => s
  | _ => { kind := .function, names := [], isGenerator := false, isCoroutine := false }
def ar0 : Expr → Expr
  | .Call _ (e :: _) _ _ => e
  | _ => .Constant .none 0 ⟨0, 0, 0, 0⟩
def bo0 : Expr → Expr
  | .BoolOp _ (e :: _) _ => e
  | _ => .Constant .none 0 ⟨0, 0, 0, 0⟩
def ifT : Stmt → Expr
  | .If e _ _ _ => e
  | _ => .Constant .none 0 ⟨0, 0, 0, 0⟩
def stN (s : Stmt) (i : Nat) : Stmt := (defBody s).getD i (.Pass ⟨0, 0, 0, 0⟩)
/-- the tables' owners -/
structure TBs {K : PySem.W.Frag} {mg : Str → Option Value} (T : Txt K mg) (base : Heap) (t : TabsAt) where
  c : Str → Addr
  h_is_row_of_integers : T.is_row_of_integers.fd.code = .ref (c "is_row_of_integers")
  b_is_row_of_integers : GxR.TabB base mg (c "is_row_of_integers") (t.a "is_row_of_integers")
  h_is_polynomial : T.is_polynomial.fd.code = .ref (c "is_polynomial")
  b_is_polynomial : GxR.TabB base mg (c "is_polynomial") (t.a "is_polynomial")
  h_sum_of_terms : T.sum_of_terms.fd.code = .ref (c "sum_of_terms")
  b_sum_of_terms : LamX.TabB base mg (c "sum_of_terms") (t.a "sum_of_terms")

/-- a tuple's kind -/
theorem ty_tup {K : PySem.W.Frag} {H : Hp} {a : Addr} {xs : List V} (h : SqT K H a xs) : TyX K H (.ref a) (.type "tuple") := by
  rcases h with (h | ⟨o, h⟩) | ⟨o, its, n, e1, e2, _⟩
  · exact .base (.tup h)
  · exact .fTuple h
  · exact .kTuple e1 e2
theorem gx_row : ("is_row_of_integers" : Str) ∈ gensL := by decide
theorem lx_row : ("is_row_of_integers" : Str) ∉ lamsL := by decide
section
variable {P : Program} {w : World} {K : PySem.W.Frag} {mg : Str → Option Value} {base : Heap}
/-- for a tuple: has it so many items -/
def sp_is_tuple_of (K : PySem.W.Frag) : Sp := fun vs H Q _ => ∃ (a : Addr) (m : Int) (xs : List V), vs = [.ref a, .int m] ∧ SqT K H a xs ∧ Q (.bl (decide ((xs.length : Int) = m))) H
theorem ok_is_tuple_of (T : Txt K mg) : FnOk P w K mg base CX0 1 T.is_tuple_of.f T.is_tuple_of.fd P_is_tuple_of (sp_is_tuple_of K) := by
  refine T.is_tuple_of.F.ok sc_is_tuple_of (fun vs H Q E h => ?_) (fun cdv A outer s H vs Q E hr h => ?_)
  · obtain ⟨a, m, xs, rfl, _⟩ := h; rfl
  · obtain ⟨a, m, xs, rfl, hT, k⟩ := h
    refine ⟨_, (pss_one (ps_ret (pe_and (pe_callB (r := rIsi K) call_isi rfl T.n_isinstance bo_isinstance (pa_cons (pv 0) (pa_cons (pe_bltn (v := .ty "tuple") rfl T.n_tuple bo_tuple rfl) pa_nil))) (pe_one (pe_cmpR op_eq (pe_callB (r := rLenS K) call_len_seq rfl T.n_len bo_len (pa_cons (pv 0) pa_nil)) (pv 1) (nomark _)))))), ?_⟩
    walk_at "rd"
    refine ⟨_, _, _, _, _, rfl, .ty _, ty_tup hT, kit_tuple_tuple, ?_⟩
    walk_at "rd"
    refine ⟨_, _, rfl, .inr hT, ?_⟩
    walk_at "rd"
    rw [vdec]
    exact k
def rowB (m lo hi : Int) (ns : List Int) : Bool := decide ((ns.length : Int) = m) && ns.all fun i => decide (lo ≤ i) && decide (i ≤ hi)
def sp_is_row_of_integers (t : TabsAt) (K : PySem.W.Frag) : Sp := fun vs H Q _ => ∃ (a : Addr) (m lo hi : Int) (ns : List Int), vs = [.ref a, .int m, .int lo, .int hi] ∧ SqT K H a (ns.map V.int) ∧ TS t H ∧ ∀ H', Ex t H H' → Q (.bl (rowB m lo hi ns)) H'
theorem ok_is_row_of_integers (T : Txt K mg) {t : TabsAt} (B : TBs T base t) : FnOk P w K mg base CX0 10 T.is_row_of_integers.f T.is_row_of_integers.fd P_is_row_of_integers (sp_is_row_of_integers t K) := by
  refine okC T.is_row_of_integers.F B.h_is_row_of_integers sc_is_row_of_integers (fun vs H Q E h => ?_) (fun A outer s H vs Q E hr h => ?_)
  · obtain ⟨a, m, lo, hi, ns, rfl, _⟩ := h; rfl
  · obtain ⟨a, m, lo, hi, ns, rfl, hT, ts, k⟩ := h
    refine ⟨_, (pss_one (ps_ret (pe_and (pe_call (ok_is_tuple_of T) (hr.mono (by decide)) rfl T.is_tuple_of.g T.is_tuple_of.F.kp (b_is_tuple_of T) .nil pass0 (pa_cons (pv 0) (pa_cons (pv 1) pa_nil))) (pe_one (pe_allR (ys := (["number"] : List Str)) (own := []) (vs := [4]) sc_is_row_of_integers.nd (by decide) hr rfl T.n_all bo_all B.b_is_row_of_integers rfl (gxOk_by (N := N_is_row_of_integers) (sc := defScope s_is_row_of_integers) (own := []) (by decide +kernel)) (pi_tup (pv 0)) (fun _ _ _ _ _ _ _ _ hr => (pg_name (i := 4) (show List.Nodup (N_is_row_of_integers ++ (["number"] : List Str)) by decide +kernel) rfl (Or.inl rfl))) (fun _ _ _ _ _ _ _ _ hr => (pe_call (ok_is_integer_in T) (hr.mono (by decide)) rfl T.is_integer_in.g T.is_integer_in.F.kp (b_is_integer_in T) .nil pass0 (pa_cons (pv 4) (pa_cons (pv 2) (pa_cons (pv 3) pa_nil))))) (fun _ => rfl)))))), ?_⟩
    walk_at "rd"
    refine ⟨_, _, _, rfl, hT, ?_⟩
    by_cases hl : (ns.length : Int) = m
    · rw [List.length_map, decide_eq_true hl]
      walk_at "rd"
      refine ⟨⟨_, hT⟩, ts.g _ gx_row, fun H2 e2 => ?_⟩
      have x2 : Ex t H H2 := Ex.tab ts gx_row lx_row e2
      refine gx_tup (Pv := fun i H' => Ex t H H' ∧ (ns.take i).all (fun i => decide (lo ≤ i) && decide (i ≤ hi)) = true) ⟨x2, rfl⟩ (fun i H' _ x => (tp_ext x.1.keep).sqt hT) (fun i v H' hv x => ?_) (fun H3 x3 => ?_)
      · rw [List.getElem?_map] at hv
        obtain ⟨n, hn, rfl⟩ := Option.map_eq_some_iff.mp hv
        walk_at "rd"
        refine ⟨_, _, _, rfl, ?_⟩
        refine ⟨_, rfl, fun z => ?_, fun z => ⟨x.1, ?_⟩⟩
        · have e : rowB m lo hi ns = false := by
            unfold rowB
            rw [decide_eq_true hl, Bool.true_and, List.all_eq_false]
            exact ⟨n, List.mem_of_getElem? hn, by rw [z]; exact Bool.false_ne_true⟩
          rw [← e]
          exact k _ x.1
        · rw [List.take_add_one, hn]
          simp only [Option.toList_some, List.all_append, x.2, List.all_cons, List.all_nil, Bool.and_true, Bool.true_and]
          exact z
      · have e : rowB m lo hi ns = true := by
          unfold rowB
          have := x3.2
          rw [List.length_map, List.take_length] at this
          rw [decide_eq_true hl, this]; rfl
        rw [← e]
        exact k _ x3.1
    · rw [List.length_map, decide_eq_false hl]
      have e : rowB m lo hi ns = false := by unfold rowB; rw [decide_eq_false hl]; rfl
      walk_at "rd"
      rw [← e]
      exact k _ (Ex.of ts (Same.refl _))
theorem row_true {m lo hi : Int} {ns : List Int} (h1 : (ns.length : Int) = m) (h2 : ∀ i ∈ ns, lo ≤ i ∧ i ≤ hi) : rowB m lo hi ns = true := by
  unfold rowB
  rw [decide_eq_true h1, Bool.true_and, List.all_eq_true]
  intro i hi'
  simp only [Bool.and_eq_true, decide_eq_true_eq]
  exact h2 i hi'
end

section
variable {P : Program} {w : World} {K : PySem.W.Frag} {mg : Str → Option Value} {base : Heap}
def FieldOk (f : Int) : Prop := f = 0 ∨ f = 2 ∨ f = 3 ∨ f = 5 ∨ f = 7 ∨ f = 31
def sp_is_field : Sp := fun vs H Q _ => ∃ f : Int, vs = [.int f] ∧ FieldOk f ∧ Q (.bl true) H
theorem ok_is_field (T : Txt K mg) : FnOk P w K mg base CX0 2 T.is_field.f T.is_field.fd P_is_field sp_is_field := by
  refine T.is_field.F.ok sc_is_field (fun vs H Q E h => ?_) (fun cdv A outer s H vs Q E hr h => ?_)
  · obtain ⟨f, rfl, _⟩ := h; rfl
  · obtain ⟨f, rfl, hf, k⟩ := h
    refine ⟨_, (pss_one (ps_ret (pe_and (pe_call (ok_is_integer T) (hr.mono (by decide)) rfl T.is_integer.g T.is_integer.F.kp (b_is_integer T) .nil pass0 (pa_cons (pv 0) pa_nil)) (pe_one (pe_or (pe_cmpR op_eq (pv 0) pe_int (nomark _)) (pe_one (pe_cmpR (r := rIn K false) op_in_seq (pv 0) (pe_glob rfl T.g_PRIMES (v := .ref T.aPRIMES) rfl) (by rfl)))))))), ?_⟩
    walk_at "rd"
    rw [vdec]
    refine iteD (fun h0 => ?_) (fun h0 => ?_)
    · exact k
    · walk_at "rd"
      refine ⟨_, _, rfl, .inr (T.t_PRIMES _), rfl, rfl, ?_⟩
      have e : inV (.int f) ([2, 3, 5, 7, 11, 13, 17, 19, 23, 29, 31].map V.int) = true := by
        unfold FieldOk at hf
        rcases hf with h | h | h | h | h | h
        · exact absurd h h0
        all_goals subst h; decide
      show Q (.bl (inV (.int f) ([2, 3, 5, 7, 11, 13, 17, 19, 23, 29, 31].map V.int))) H
      rw [e]
      exact k
theorem kit_str_str : PySem.W.kitOne K (.type "str") (.type "str") = some true := kit_ty (by decide +kernel)
def sp_is_order (t : TabsAt) (K : PySem.W.Frag) : Sp := fun vs H Q _ => ∃ (n : Nat) (o : Ord) (v : V), vs = [.int n, v] ∧ 1 ≤ n ∧ n ≤ 4 ∧ OrdOk n o ∧ Dp K H v (oD o) ∧ TS t H ∧ ∀ H', Ex t H H' → Q (.bl true) H'
theorem ok_is_order (T : Txt K mg) {t : TabsAt} (B : TBs T base t) : FnOk P w K mg base CX0 13 T.is_order.f T.is_order.fd P_is_order (sp_is_order t K) := by
  refine T.is_order.F.ok sc_is_order (fun vs H Q E h => ?_) (fun cdv A outer s H vs Q E hr h => ?_)
  · obtain ⟨n, o, v, rfl, _⟩ := h; rfl
  · obtain ⟨n, o, v, rfl, hn, hn4, ho, hv, ts, k⟩ := h
    refine ⟨_, (pss_cons (ps_if (pt_val (pe_callB (r := rIsi K) call_isi rfl T.n_isinstance bo_isinstance (pa_cons (pv 1) (pa_cons (pe_bltn (v := .ty "str") rfl T.n_str bo_str rfl) pa_nil)))) (pss_one (ps_ret (pe_cmpR (r := rIn K false) op_in_seq (pv 1) (pe_tup (pa_cons pe_str (pa_cons pe_str (pa_cons pe_str pa_nil)))) (by rfl)))) pss_nil)
  (pss_cons (ps_if (pt_not (pt_val (pe_call (ok_is_tuple_of T) (hr.mono (by decide)) rfl T.is_tuple_of.g T.is_tuple_of.F.kp (b_is_tuple_of T) .nil pass0 (pa_cons (pv 1) (pa_cons pe_int pa_nil))))) (pss_one (ps_ret pe_bl)) pss_nil)
  (pss_cons (ps_if (pt_cmpR (op_eqD hr.units) (pe_ix (r := rIxT K) ix_tup (pv 1) pe_int (fun _ _ => rfl)) pe_str (nomark _)) (pss_one (ps_ret (pe_call (ok_is_integer_in T) (hr.mono (by decide)) rfl T.is_integer_in.g T.is_integer_in.F.kp (b_is_integer_in T) .nil pass0 (pa_cons (pe_ix (r := rIxT K) ix_tup (pv 1) pe_int (fun _ _ => rfl)) (pa_cons pe_int (pa_cons (pe_op op_sub (pv 0) pe_int) pa_nil)))))) pss_nil)
  (pss_one (ps_ret (pe_and (pe_cmpR (op_eqD hr.units) (pe_ix (r := rIxT K) ix_tup (pv 1) pe_int (fun _ _ => rfl)) pe_str (nomark _)) (pe_one (pe_call (ok_is_row_of_integers T B) (hr.mono (by decide)) rfl T.is_row_of_integers.g T.is_row_of_integers.F.kp (b_is_row_of_integers T) .nil pass0 (pa_cons (pe_ix (r := rIxT K) ix_tup (pv 1) pe_int (fun _ _ => rfl)) (pa_cons (pv 0) (pa_cons pe_int (pa_cons (pe_glob rfl T.g_MOST_WEIGHT (v := .int 20) ⟨_, rfl⟩) pa_nil)))))))))))), ?_⟩
    have str : ∀ x : Str, inV (.str x) [.str "lex", .str "deglex", .str "degrevlex"] = true → ∀ p, H p = Option.none → Q (.bl (inV (.str x) [.str "lex", .str "deglex", .str "degrevlex"])) (upd H p (.tup [.str "lex", .str "deglex", .str "degrevlex"])) :=
      fun x e p hp => by rw [e]; exact k _ (Ex.of ts (same_upd hp))
    cases o with
    | lex =>
      cases hv
      walk_at "rd"
      refine ⟨_, _, _, _, _, rfl, .ty _, .base (.str _), kit_str_str, ?_⟩
      walk_at "rd"
      refine ⟨(show 3 ≤ sizeLine by decide), fun p hp => ?_⟩
      exact ⟨_, _, rfl, .inr (.inl (.inl upd_same)), rfl, rfl, str sLex (by decide +kernel) p hp⟩
    | deglex =>
      cases hv
      walk_at "rd"
      refine ⟨_, _, _, _, _, rfl, .ty _, .base (.str _), kit_str_str, ?_⟩
      walk_at "rd"
      refine ⟨(show 3 ≤ sizeLine by decide), fun p hp => ?_⟩
      exact ⟨_, _, rfl, .inr (.inl (.inl upd_same)), rfl, rfl, str sDeg (by decide +kernel) p hp⟩
    | drl =>
      cases hv
      walk_at "rd"
      refine ⟨_, _, _, _, _, rfl, .ty _, .base (.str _), kit_str_str, ?_⟩
      walk_at "rd"
      refine ⟨(show 3 ≤ sizeLine by decide), fun p hp => ?_⟩
      exact ⟨_, _, rfl, .inr (.inl (.inl upd_same)), rfl, rfl, str sDrl (by decide +kernel) p hp⟩
    | block c =>
      obtain ⟨hc1, hc2⟩ := ho
      cases hv with
      | @tup a xs0 _ hT hA =>
      cases hA with
      | cons hx0 hA =>
      cases hx0
      cases hA with
      | cons hx1 hA =>
      cases hx1
      cases hA
      walk_at "rd"
      refine ⟨_, _, _, _, _, rfl, .ty _, ty_tup hT, kit_tuple_str, ?_⟩
      walk_at "rd"
      refine ⟨_, _, _, rfl, hT, ?_⟩
      walk_at "rd"
      refine ⟨_, _, .str _, .str _, shBlk, shBlk, ?_⟩
      walk_at "rd"
      refine ⟨_, _, _, rfl, ?_⟩
      rw [decide_eq_true (show (1 : Int) ≤ (c : Int) by omega), decide_eq_true (show (c : Int) ≤ (n : Int) - 1 by omega)]
      exact k _ (Ex.of ts (Same.refl _))
    | wts ws =>
      obtain ⟨hw1, hw2⟩ := ho
      cases hv with
      | @tup a xs0 _ hT hA =>
      cases hA with
      | cons hx0 hA =>
      cases hx0
      cases hA with
      | @cons wv _ _ _ hx1 hA =>
      cases hA
      cases hx1 with
      | @tup b ys _ hb hbs =>
      have ey := dpAll_ints_eq hbs
      subst ey
      walk_at "rd"
      refine ⟨_, _, _, _, _, rfl, .ty _, ty_tup hT, kit_tuple_str, ?_⟩
      walk_at "rd"
      refine ⟨_, _, _, rfl, hT, ?_⟩
      walk_at "rd"
      refine ⟨_, _, .str _, .str _, shWts, shBlk, ?_⟩
      walk_at "rd"
      refine ⟨_, _, .str _, .str _, shWts, shWts, ?_⟩
      walk_at "rd"
      refine ⟨b, n, 1, 20, ws, rfl, hb, ts, fun H2 x2 => ?_⟩
      rw [row_true (by rw [hw1]) fun i hi => by have := hw2 i hi; omega]
      exact k _ x2
def rgD (f : Int) (n : Nat) (o : Ord) : PyData := .tuple [.int f, .int n, oD o]
def sp_is_ring (t : TabsAt) (K : PySem.W.Frag) : Sp := fun vs H Q _ => ∃ (f : Int) (n : Nat) (o : Ord) (v : V), vs = [v] ∧ FieldOk f ∧ 1 ≤ n ∧ n ≤ 4 ∧ OrdOk n o ∧ Dp K H v (rgD f n o) ∧ TS t H ∧ ∀ H', Ex t H H' → Q (.bl true) H'
/-- a ring's three parts -/
theorem ring_parts {H : Hp} {v : V} {f : Int} {n : Nat} {o : Ord} (h : Dp K H v (rgD f n o)) : ∃ a ov, v = .ref a ∧ SqT K H a [.int f, .int n, ov] ∧ Dp K H ov (oD o) := by
  cases h with
  | @tup a xs0 _ hT hA =>
  cases hA with
  | cons hx0 hA =>
  cases hx0
  cases hA with
  | cons hx1 hA =>
  cases hx1
  cases hA with
  | @cons ov _ _ _ hx2 hA =>
  cases hA
  exact ⟨a, ov, rfl, hT, hx2⟩
theorem ok_is_ring (T : Txt K mg) {t : TabsAt} (B : TBs T base t) : FnOk P w K mg base CX0 14 T.is_ring.f T.is_ring.fd P_is_ring (sp_is_ring t K) := by
  refine T.is_ring.F.ok sc_is_ring (fun vs H Q E h => ?_) (fun cdv A outer s H vs Q E hr h => ?_)
  · obtain ⟨f, n, o, v, rfl, _⟩ := h; rfl
  · obtain ⟨f, n, o, v, rfl, hf, hn, hn4, ho, hv, ts, k⟩ := h
    obtain ⟨a, ov, rfl, hT, hov⟩ := ring_parts hv
    refine ⟨_, (pss_cons (ps_if (pt_not (pt_val (pe_call (ok_is_tuple_of T) (hr.mono (by decide)) rfl T.is_tuple_of.g T.is_tuple_of.F.kp (b_is_tuple_of T) .nil pass0 (pa_cons (pv 0) (pa_cons pe_int pa_nil))))) (pss_one (ps_ret pe_bl)) pss_nil)
  (pss_cons (ps_asg (pv 0) (pg_tup rfl (pgs_cons (pg_name (i := 1) sc_is_ring.nd rfl (Or.inl rfl)) (pgs_cons (pg_name (i := 2) sc_is_ring.nd rfl (Or.inl rfl)) (pgs_cons (pg_name (i := 3) sc_is_ring.nd rfl (Or.inl rfl)) pgs_nil)))))
  (pss_one (ps_ret (pe_and (pe_call (ok_is_field T) (hr.mono (by decide)) rfl T.is_field.g T.is_field.F.kp (b_is_field T) .nil pass0 (pa_cons (pv 1) pa_nil)) (pe_and (pe_call (ok_is_integer_in T) (hr.mono (by decide)) rfl T.is_integer_in.g T.is_integer_in.F.kp (b_is_integer_in T) .nil pass0 (pa_cons (pv 2) (pa_cons pe_int (pa_cons (pe_glob rfl T.g_MOST_VARIABLES (v := .int 4) ⟨_, rfl⟩) pa_nil)))) (pe_one (pe_call (ok_is_order T B) (hr.mono (by decide)) rfl T.is_order.g T.is_order.F.kp (b_is_order T) .nil pass0 (pa_cons (pv 2) (pa_cons (pv 3) pa_nil)))))))))), ?_⟩
    walk_at "rd"
    refine ⟨_, _, _, rfl, hT, ?_⟩
    walk_at "rd"
    refine ⟨a, _, rfl, hT, rfl, ?_⟩
    walk_at "rd"
    refine ⟨hf, ?_⟩
    walk_at "rd"
    refine ⟨_, _, _, rfl, ?_⟩
    rw [decide_eq_true (show (1 : Int) ≤ (n : Int) by omega), decide_eq_true (show (n : Int) ≤ 4 by omega)]
    walk_at "rd"
    exact ⟨n, o, ov, rfl, hn, hn4, ho, hov, ts, fun H' e => k H' e⟩
/-- the coding of a ring -/
theorem rows_ok {n : Nat} {o : Ord} (hn : 1 ≤ n) (hn4 : n ≤ 4) (ho : OrdOk n o) : RowsOk n (rowsL n o) := by
  have hs : ∀ r ∈ singles n, r.length = n ∧ ∀ e ∈ r, 0 ≤ e ∧ e ≤ 20 := fun r hr => by
    obtain ⟨p, _, rfl⟩ := List.mem_map.mp hr
    refine ⟨by simp, fun e he => ?_⟩
    obtain ⟨k, _, rfl⟩ := List.mem_map.mp he
    split <;> omega
  have hf : ∀ a b, ∀ r ∈ falling n a b, r.length = n ∧ ∀ e ∈ r, 0 ≤ e ∧ e ≤ 20 := fun a b r hr => by
    obtain ⟨p, _, rfl⟩ := List.mem_map.mp hr
    refine ⟨by simp, fun e he => ?_⟩
    obtain ⟨k, _, rfl⟩ := List.mem_map.mp he
    split <;> omega
  have hl : ∀ a b, (falling n a b).length = b - a := fun a b => by simp [falling]
  have hl2 : (singles n).length = n := by simp [singles]
  cases o with
  | lex => exact ⟨by show (singles n).length ≤ 5; omega, hs⟩
  | deglex =>
    refine ⟨by show (List.replicate n (1 : Int) :: singles n).length ≤ 5; rw [List.length_cons]; omega, fun r hr => ?_⟩
    rcases List.mem_cons.mp hr with rfl | hr
    · exact ⟨by simp, fun e he => by rw [(List.mem_replicate.mp he).2]; omega⟩
    · exact hs r hr
  | drl => exact ⟨by show (falling n 0 n).length ≤ 5; rw [hl]; omega, hf 0 n⟩
  | block c =>
    obtain ⟨h1, h2⟩ := ho
    refine ⟨by show (falling n 0 c ++ falling n c n).length ≤ 5; rw [List.length_append, hl, hl]; omega, fun r hr => ?_⟩
    rcases List.mem_append.mp hr with hr | hr
    · exact hf 0 c r hr
    · exact hf c n r hr
  | wts ws =>
    obtain ⟨h1, h2⟩ := ho
    refine ⟨by show (ws :: falling n 0 n).length ≤ 5; rw [List.length_cons, hl]; omega, fun r hr => ?_⟩
    rcases List.mem_cons.mp hr with rfl | hr
    · exact ⟨h1, fun e he => by have := h2 e he; omega⟩
    · exact hf 0 n r hr
def sp_check_ring (C : Addr) (t : TabsAt) (K : PySem.W.Frag) : Sp := fun vs H Q _ => ∃ (f : Int) (n : Nat) (o : Ord) (v : V), vs = [v] ∧ FieldOk f ∧ 1 ≤ n ∧ n ≤ 4 ∧ OrdOk n o ∧ Dp K H v (rgD f n o) ∧ TS t H ∧ ∀ a H', Ex t H H' → CodO C K H' a n (rowsL n o) ∧ CodF C H' a f → Q (.ref a) H'
theorem ok_check_ring (T : Txt K mg) {t : TabsAt} (B : TBs T base t) : FnOk P w K mg base CX0 15 T.check_ring.f T.check_ring.fd P_check_ring (sp_check_ring T.Coding.C t K) := by
  refine T.check_ring.F.ok sc_check_ring (fun vs H Q E h => ?_) (fun cdv A outer s H vs Q E hr h => ?_)
  · obtain ⟨f, n, o, v, rfl, _⟩ := h; rfl
  · obtain ⟨f, n, o, v, rfl, hf, hn, hn4, ho, hv, ts, k⟩ := h
    obtain ⟨ds, hdC, hbC⟩ := b_Coding___init__ T
    refine ⟨_, (pss_cons (ps_if (pt_not (pt_val (pe_call (ok_is_ring T B) (hr.mono (by decide)) rfl T.is_ring.g T.is_ring.F.kp (b_is_ring T) .nil pass0 (pa_cons (pv 0) pa_nil)))) (pss_one ps_never) pss_nil)
  (pss_cons (ps_asg (pv 0) (pg_tup rfl (pgs_cons (pg_name (i := 1) sc_check_ring.nd rfl (Or.inl rfl)) (pgs_cons (pg_name (i := 2) sc_check_ring.nd rfl (Or.inl rfl)) (pgs_cons (pg_name (i := 3) sc_check_ring.nd rfl (Or.inl rfl)) pgs_nil)))))
  (pss_one (ps_ret (pe_make T.Coding.mkr (ok_Coding___init__ T) (hr.mono (by decide)) rfl T.Coding.g hbC hdC pass0 (pa_cons (pv 1) (pa_cons (pv 2) (pa_cons (pe_call (ok_rows_of T) (hr.mono (by decide)) rfl T.rows_of.g T.rows_of.F.kp (b_rows_of T) .nil pass0 (pa_cons (pv 2) (pa_cons (pv 3) pa_nil))) pa_nil)))))))), ?_⟩
    walk_at "rd"
    refine ⟨f, n, o, v, rfl, hf, hn, hn4, ho, hv, ts, fun H1 x1 => ?_⟩
    have hv1 : Dp K H1 v (rgD f n o) := Dp.tp (tp_ext x1.keep) _ _ (by simp [rgD, tOnly, tOnlyAll, tOnly_ord]) hv
    obtain ⟨a, ov, rfl, hT, hov⟩ := ring_parts hv1
    walk_at "rd"
    refine ⟨a, _, rfl, hT, rfl, ?_⟩
    walk_at "rd"
    refine ⟨n, o, ov, rfl, hn, hn4, ho, hov, fun p H2 xs s2 e2 d2 => ?_⟩
    walk_at "rd"
    intro y dy hy hdy hne
    have s3 : Same H2 (upd (upd H2 dy (.own y)) y (.ins T.Coding.C dy [])) := Same.trans (same_upd hdy) (same_upd (by rw [upd_ne hne.symm]; exact hy))
    refine ⟨y, dy, f, n, rowsL n o, .ref p, rfl, hn, hn4, rows_ok hn hn4 ho, .tup (.inl (.inl (s3 _ _ e2))) (DpAll.same s3 _ _ d2), upd_same, fun H4 c4 cf4 k4 => ⟨rfl, ?_⟩⟩
    have nn : ∀ b o, H2 b = some o → b ≠ y := fun b o e z => by rw [z, hy] at e; cases e
    have s4 : Same H2 H4 := fun b o e => k4 b o (nn b o e) (s3 _ _ e)
    exact k y H4 (x1.same (Same.trans s2 s4)) ⟨c4, cf4⟩
end

section
variable {P : Program} {w : World} {K : PySem.W.Frag} {mg : Str → Option Value} {base : Heap}
/-- a monomial of n places that the program takes -/
def Mon (n : Nat) (ms : List Int) : Prop := MonoOk n ms ∧ ms.sum ≤ 60
def sp_is_monomial (t : TabsAt) (K : PySem.W.Frag) : Sp := fun vs H Q _ => ∃ (n : Nat) (M : Addr) (ms : List Int), vs = [.int n, .ref M] ∧ Mon n ms ∧ SqT K H M (ms.map V.int) ∧ TS t H ∧ ∀ H', Ex t H H' → Q (.bl true) H'
theorem ok_is_monomial (T : Txt K mg) {t : TabsAt} (B : TBs T base t) : FnOk P w K mg base CX0 13 T.is_monomial.f T.is_monomial.fd P_is_monomial (sp_is_monomial t K) := by
  refine T.is_monomial.F.ok sc_is_monomial (fun vs H Q E h => ?_) (fun cdv A outer s H vs Q E hr h => ?_)
  · obtain ⟨n, M, ms, rfl, _⟩ := h; rfl
  · obtain ⟨n, M, ms, rfl, ⟨⟨hl, hb⟩, hs⟩, hM, ts, k⟩ := h
    refine ⟨_, (pss_one (ps_ret (pe_and (pe_call (ok_is_row_of_integers T B) (hr.mono (by decide)) rfl T.is_row_of_integers.g T.is_row_of_integers.F.kp (b_is_row_of_integers T) .nil pass0 (pa_cons (pv 1) (pa_cons (pv 0) (pa_cons pe_int (pa_cons (pe_glob rfl T.g_MOST_DEGREE (v := .int 60) ⟨_, rfl⟩) pa_nil))))) (pe_one (pe_cmpR op_le (pe_callB (r := rSumS K) (cr_sumS rfl) rfl T.n_sum bo_sum (pa_cons (pv 1) pa_nil)) (pe_glob rfl T.g_MOST_DEGREE (v := .int 60) ⟨_, rfl⟩) (nomark _)))))), ?_⟩
    walk_at "rd"
    refine ⟨M, n, 0, 60, ms, rfl, hM, ts, fun H2 x2 => ?_⟩
    rw [row_true (by rw [hl]) fun i hi => by have := hb i hi; omega]
    walk_at "rd"
    refine ⟨M, ms, rfl, .inr ((tp_ext x2.keep).sqt hM), ?_⟩
    walk_at "rd"
    show Q (V.bl (decide (ms.sum ≤ 60))) _
    rw [decide_eq_true hs]
    exact k _ x2
theorem CodO.ex {C : Addr} {t : TabsAt} {H H' : Hp} {a : Addr} {n : Nat} {rs : List (List Int)} (x : Ex t H H') (h : CodO C K H a n rs) : CodO C K H' a n rs := by
  obtain ⟨dx, L, fs, rv, c1, c2, c3, c4, c5, c6, c7⟩ := h
  exact ⟨dx, L, fs, rv, x.keep _ _ c1 (fun _ z => nomatch z), c2, c3, Dp.tp (tp_ext x.keep) _ _ (tOnly_rows rs) c4, c5, x.keep _ _ c6 (fun _ z => nomatch z), c7⟩
/-- the number of a monomial under an order -/
def codeN (n : Nat) (o : Ord) (ms : List Int) : Int := dotZ ms (unitsL n (rowsL n o))
def sgn (i : Int) : Int := if i = 0 then 0 else if 0 < i then 1 else -1
end

/-! ### numbers: what the program reckons -/
def FieldsP : List Int := [2, 3, 5, 7, 11, 13, 17, 19, 23, 29, 31]
def IsF (f : Int) : Prop := f = 0 ∨ f ∈ FieldsP
theorem IsF.lt {f : Int} (h : IsF f) : 0 ≤ f ∧ f ≤ 31 := by
  rcases h with h | h
  · omega
  · simp only [FieldsP, List.mem_cons, List.not_mem_nil, or_false] at h
    omega
theorem IsF.pos {f : Int} (h : IsF f) (h0 : f ≠ 0) : 2 ≤ f := by
  rcases h with h | h
  · exact absurd h h0
  · simp only [FieldsP, List.mem_cons, List.not_mem_nil, or_false] at h
    omega
/-- x times n modulo p, k times -/
def powM (n p : Int) : Nat → Int
  | 0 => 1
  | k + 1 => powM n p k * n % p
theorem powM_lt {n p : Int} (hp : 2 ≤ p) : ∀ k, 0 ≤ powM n p k ∧ powM n p k < p
  | 0 => by show (0 : Int) ≤ 1 ∧ (1 : Int) < p; omega
  | k + 1 => ⟨Int.emod_nonneg _ (by omega), Int.emod_lt_of_pos _ (by omega)⟩
def invP (n p : Int) : Int := powM n p (p - 2).toNat
def sgnG (n d : Int) : Int := if d < 0 then -((Nat.gcd n.natAbs d.natAbs : Nat) : Int) else ((Nat.gcd n.natAbs d.natAbs : Nat) : Int)
def lowQ (n d : Int) : Int × Int := (n.fdiv (sgnG n d), d.fdiv (sgnG n d))
def mkN (f n d : Int) : Int × Int := if f = 0 then lowQ n d else (n * invP (d % f) f % f, 1)
theorem sgnG_abs (n d : Int) : (sgnG n d).natAbs = Nat.gcd n.natAbs d.natAbs := by
  unfold sgnG; split <;> omega
theorem sgnG_ne {n d : Int} (h : d ≠ 0) : sgnG n d ≠ 0 := by
  intro z
  have e := sgnG_abs n d
  rw [z] at e
  have : 0 < Nat.gcd n.natAbs d.natAbs := Nat.gcd_pos_of_pos_right _ (by omega)
  simp at e; omega
theorem sgnG_le {n d : Int} (h : d ≠ 0) : (sgnG n d).natAbs ≤ d.natAbs := by
  rw [sgnG_abs]; exact Nat.le_of_dvd (by omega) (Nat.gcd_dvd_right _ _)
/-- v is the number a / b of the field f (b is 1 modulo a prime) -/
def NumV (H : Hp) (f : Int) (v : V) (x : Int × Int) : Prop :=
  (f = 0 ∧ ∃ p, v = .ref p ∧ H p = some (.tup [.int x.1, .int x.2])) ∨ (f ≠ 0 ∧ v = .int x.1 ∧ x.2 = 1)
theorem NumV.same {H H' : Hp} {f : Int} {v : V} {x : Int × Int} (n : NumV H f v x) (s : Same H H') : NumV H' f v x := by
  rcases n with ⟨h, p, e, q⟩ | h
  · exact .inl ⟨h, p, e, s _ _ q⟩
  · exact .inr h
def BB : Nat := 2 ^ 4000
theorem two_line : 2 ≤ sizeLine := by decide
section
variable {P : Program} {w : World} {K : PySem.W.Frag} {mg : Str → Option Value} {base : Heap}
def sp_zero_of : Sp := fun vs H Q _ => ∃ f, vs = [.int f] ∧ ∀ v H', NumV H' f v (0, 1) → Same H H' → Q v H'
theorem ok_zero_of (T : Txt K mg) : FnOk P w K mg base CX0 1 T.zero_of.f T.zero_of.fd P_zero_of sp_zero_of := by
  refine T.zero_of.F.ok sc_zero_of (fun vs H Q E h => ?_) (fun cdv A outer s H vs Q E hr h => ?_)
  · obtain ⟨f, rfl, _⟩ := h; rfl
  · obtain ⟨f, rfl, k⟩ := h
    refine ⟨_, (pss_one (ps_ret (pe_ifExp (pt_cmpR op_eq (pv 0) pe_int (nomark _)) (pe_tup (pa_cons pe_int (pa_cons pe_int pa_nil))) pe_int))), ?_⟩
    walk_at "rd"
    refine iteV (fun hf => ?_) (fun hf => ?_)
    · refine ⟨two_line, fun p hp => ?_⟩
      exact k _ _ (.inl ⟨hf, p, rfl, upd_same⟩) (same_upd hp)
    · exact k _ _ (.inr ⟨hf, rfl, rfl⟩) (Same.refl _)
def sp_inverse_modulo : Sp := fun vs H Q _ => ∃ n p, vs = [.int n, .int p] ∧ 2 ≤ p ∧ p ≤ 31 ∧ n.natAbs < 2 ^ 64 ∧ Q (.int (invP n p)) H
theorem ok_inverse_modulo (T : Txt K mg) : FnOk P w K mg base CX0 1 T.inverse_modulo.f T.inverse_modulo.fd P_inverse_modulo sp_inverse_modulo := by
  refine T.inverse_modulo.F.ok sc_inverse_modulo (fun vs H Q E h => ?_) (fun cdv A outer s H vs Q E hr h => ?_)
  · obtain ⟨n, p, rfl, _⟩ := h; rfl
  · obtain ⟨n, p, rfl, hp, hp2, hn, k⟩ := h
    refine ⟨_, (pss_cons (ps_set (i := 2) sc_inverse_modulo.nd rfl (Or.inl rfl) pe_int)
  (pss_cons (ps_for PassesOwn.never rfl (pi_range1 rfl T.n_range (pa_cons (pe_op op_sub (pv 1) pe_int) pa_nil)) (pg_name (i := 3) sc_inverse_modulo.nd rfl (Or.inl rfl)) (pss_one (ps_set (i := 2) sc_inverse_modulo.nd rfl (Or.inl rfl) (pe_op op_mod (pe_op op_mulW (pv 2) (pv 0)) (pv 1)))))
  (pss_one (ps_ret (pv 2))))), ?_⟩
    walk_at "rd"
    refine ⟨by omega, by omega, for_range (lo := 0) (n := (p - 2).toNat) (fun i σ H' => H' = H ∧ ∃ v, σ = [some (.int n), some (.int p), some (.int (powM n p i)), v]) ⟨rfl, none, rfl⟩ ?_ ?_⟩
    · rintro i σ H' hi ⟨rfl, v, rfl⟩
      have hb := powM_lt (n := n) hp i
      walk_at "rd"
      exact ⟨_, rfl⟩
    · rintro σ H' ⟨rfl, v, rfl⟩
      walk_at "rd"
      exact k
def sp_make_number : Sp := fun vs H Q _ => ∃ f n d, vs = [.int f, .int n, .int d] ∧ IsF f ∧ n.natAbs < BB ∧ d.natAbs < BB ∧ (f = 0 → d ≠ 0) ∧ ∀ v H', NumV H' f v (mkN f n d) → Same H H' → Q v H'
theorem ok_make_number (T : Txt K mg) : FnOk P w K mg base CX0 2 T.make_number.f T.make_number.fd P_make_number sp_make_number := by
  refine T.make_number.F.ok sc_make_number (fun vs H Q E h => ?_) (fun cdv A outer s H vs Q E hr h => ?_)
  · obtain ⟨f, n, d, rfl, _⟩ := h; rfl
  · obtain ⟨f, n, d, rfl, hF, hn, hd, h0, k⟩ := h
    refine ⟨_, (pss_cons (ps_if (pt_truth (pv 0) (by intro _; rfl)) (pss_one (ps_ret (pe_op op_mod (pe_op op_mulW (pv 1) (pe_call (ok_inverse_modulo T) (hr.mono (by decide)) rfl T.inverse_modulo.g T.inverse_modulo.F.kp (b_inverse_modulo T) .nil pass0 (pa_cons (pe_op op_mod (pv 2) (pv 0)) (pa_cons (pv 0) pa_nil)))) (pv 0)))) pss_nil)
  (pss_cons (ps_set (i := 3) sc_make_number.nd rfl (Or.inl rfl) (pe_callBfun cr_gcd rfl T.g_gcd (pa_cons (pv 1) (pa_cons (pv 2) pa_nil))))
  (pss_cons (ps_if (pt_cmpR op_lt (pv 2) pe_int (nomark _)) (pss_one (ps_set (i := 3) sc_make_number.nd rfl (Or.inl rfl) (pe_un un_neg (pv 3)))) pss_nil)
  (pss_one (ps_ret (pe_tup (pa_cons (pe_op op_fdivZ (pv 1) (pv 3)) (pa_cons (pe_op op_fdivZ (pv 2) (pv 3)) pa_nil)))))))), ?_⟩
    walk_at "rd"
    unfold mkN at k
    refine iteN0 (fun hf => ?_) (fun hf => ?_)
    · rw [if_neg hf] at k
      have h2 := hF.pos hf
      have h31 := hF.lt
      walk_at "rd"
      have e1 := Int.emod_nonneg d (show f ≠ 0 by omega)
      have e2 := Int.emod_lt_of_pos d (show 0 < f by omega)
      refine ⟨h2, h31.2, by omega, ?_⟩
      walk_at "rd"
      have e3 := powM_lt (n := d % f) h2 (f - 2).toNat
      have e4 : invP (d % f) f = powM (d % f) f (f - 2).toNat := rfl
      refine ⟨wide_mul (a := 4000) (b := 64) hn (by omega) (by decide) (by decide) (by decide), ?_⟩
      walk_at "rd"
      exact k _ _ (.inr ⟨hf, rfl, rfl⟩) (Same.refl _)
    · rw [if_pos hf] at k
      have d0 := h0 hf
      walk_at "rd"
      have hg := sgnG_ne (n := n) d0
      have hl := sgnG_le (n := n) d0
      have hgb : (sgnG n d).natAbs < BB := Nat.lt_of_le_of_lt hl hd
      refine iteD (fun hd0 => ?_) (fun hd0 => ?_)
      · have e : -((Nat.gcd n.natAbs d.natAbs : Nat) : Int) = sgnG n d := by unfold sgnG; rw [if_pos hd0]
        unfold lowQ at k
        rw [← e] at k hg hgb
        walk_at "rd"
        refine ⟨cdivZ (b := 4000) hg hgb (by decide) (by decide), ?_⟩
        walk_at "rd"
        refine ⟨cdivZ (b := 4000) hg hgb (by decide) (by decide), ?_⟩
        refine ⟨two_line, fun p hp => ?_⟩
        exact k _ _ (.inl ⟨hf, p, rfl, upd_same⟩) (same_upd hp)
      · have e : ((Nat.gcd n.natAbs d.natAbs : Nat) : Int) = sgnG n d := by unfold sgnG; rw [if_neg hd0]
        unfold lowQ at k
        rw [← e] at k hg hgb
        walk_at "rd"
        refine ⟨cdivZ (b := 4000) hg hgb (by decide) (by decide), ?_⟩
        walk_at "rd"
        refine ⟨cdivZ (b := 4000) hg hgb (by decide) (by decide), ?_⟩
        refine ⟨two_line, fun p hp => ?_⟩
        exact k _ _ (.inl ⟨hf, p, rfl, upd_same⟩) (same_upd hp)
end

/-! ### the program's other defs over numbers -/
def SS : Nat := 2 ^ 1500
def S3 : Nat := 2 ^ 3000
def addN (f : Int) (a b : Int × Int) : Int × Int := if f = 0 then lowQ (a.1 * b.2 + b.1 * a.2) (a.2 * b.2) else ((a.1 + b.1) % f, 1)
theorem ss_mul {i j : Int} (hi : i.natAbs < SS) (hj : j.natAbs < SS) : CMulW i j := wide_mul (a := 1500) (b := 1500) hi hj (by decide) (by decide) (by decide)
theorem ss_lt {i j : Int} (hi : i.natAbs < SS) (hj : j.natAbs < SS) : (i * j).natAbs < S3 := wide_lt (a := 1500) (b := 1500) hi hj
theorem s3_bb : S3 + S3 ≤ BB := by decide +kernel
theorem s3_add {i j : Int} (hi : i.natAbs < S3) (hj : j.natAbs < S3) : (i + j).natAbs < BB := by
  have := s3_bb; omega
theorem ss_s3 : SS ≤ S3 := by decide +kernel
/-- a number that may be passed -/
def NumOk (f : Int) (a : Int × Int) : Prop := if f = 0 then a.1.natAbs < NBn ∧ 0 < a.2 ∧ a.2.natAbs < NBn ∧ Nat.gcd a.1.natAbs a.2.natAbs = 1 else 0 ≤ a.1 ∧ a.1 < f ∧ a.2 = 1
theorem nb_ss : NBn ≤ SS := by decide +kernel
theorem NumOk.small {f : Int} {a : Int × Int} (hF : IsF f) (h : NumOk f a) : a.1.natAbs < SS ∧ a.2.natAbs < SS ∧ a.2 ≠ 0 := by
  have := nb_ss
  have h32 : 32 ≤ SS := by decide +kernel
  unfold NumOk at h
  split at h
  · omega
  · have := hF.lt
    omega
section
variable {P : Program} {w : World} {K : PySem.W.Frag} {mg : Str → Option Value} {base : Heap}
theorem NumV.q {H : Hp} {v : V} {x : Int × Int} (h : NumV H 0 v x) : ∃ p, v = .ref p ∧ H p = some (.tup [.int x.1, .int x.2]) := by
  rcases h with ⟨_, h⟩ | ⟨h, _⟩
  · exact h
  · exact absurd rfl h
theorem NumV.m {H : Hp} {f : Int} {v : V} {x : Int × Int} (h : NumV H f v x) (hf : f ≠ 0) : v = .int x.1 ∧ x.2 = 1 := by
  rcases h with ⟨h, _⟩ | ⟨_, h⟩
  · exact absurd h hf
  · exact h
def sp_add_numbers : Sp := fun vs H Q _ => ∃ f va vb a b, vs = [.int f, va, vb] ∧ IsF f ∧ NumV H f va a ∧ NumV H f vb b ∧ NumOk f a ∧ NumOk f b ∧ ∀ v H', NumV H' f v (addN f a b) → Same H H' → Q v H'
theorem ok_add_numbers (T : Txt K mg) : FnOk P w K mg base CX0 3 T.add_numbers.f T.add_numbers.fd P_add_numbers sp_add_numbers := by
  refine T.add_numbers.F.ok sc_add_numbers (fun vs H Q E h => ?_) (fun cdv A outer s H vs Q E hr h => ?_)
  · obtain ⟨f, va, vb, a, b, rfl, _⟩ := h; rfl
  · obtain ⟨f, va, vb, a, b, rfl, hF, na, nb, oa, ob, k⟩ := h
    refine ⟨_, (pss_cons (ps_if (pt_truth (pv 0) (by intro _; rfl)) (pss_one (ps_ret (pe_op op_mod (pe_op op_add (pv 1) (pv 2)) (pv 0)))) pss_nil)
  (pss_one (ps_ret (pe_call (ok_make_number T) (hr.mono (by decide)) rfl T.make_number.g T.make_number.F.kp (b_make_number T) .nil pass0 (pa_cons pe_int (pa_cons (pe_op op_add (pe_op op_mulW (pe_ix (r := rIxT K) ix_tup (pv 1) pe_int (fun _ _ => rfl)) (pe_ix (r := rIxT K) ix_tup (pv 2) pe_int (fun _ _ => rfl))) (pe_op op_mulW (pe_ix (r := rIxT K) ix_tup (pv 2) pe_int (fun _ _ => rfl)) (pe_ix (r := rIxT K) ix_tup (pv 1) pe_int (fun _ _ => rfl)))) (pa_cons (pe_op op_mulW (pe_ix (r := rIxT K) ix_tup (pv 1) pe_int (fun _ _ => rfl)) (pe_ix (r := rIxT K) ix_tup (pv 2) pe_int (fun _ _ => rfl))) pa_nil))))))), ?_⟩
    obtain ⟨a1, a2, a3⟩ := oa.small hF
    obtain ⟨b1, b2, b3⟩ := ob.small hF
    unfold addN at k
    walk_at "rd"
    refine iteN0 (fun hf => ?_) (fun hf => ?_)
    · rw [if_neg hf] at k
      obtain ⟨rfl, _⟩ := na.m hf
      obtain ⟨rfl, _⟩ := nb.m hf
      have h2 := hF.pos hf
      walk_at "rd"
      exact k _ _ (.inr ⟨hf, rfl, rfl⟩) (Same.refl _)
    · subst hf
      rw [if_pos rfl] at k
      obtain ⟨p, rfl, hp⟩ := na.q
      obtain ⟨q, rfl, hq⟩ := nb.q
      walk_at "rd"
      refine ⟨ss_mul a1 b2, ?_⟩
      walk_at "rd"
      refine ⟨ss_mul b1 a2, ?_⟩
      walk_at "rd"
      refine ⟨ss_mul a2 b2, ?_⟩
      walk_at "rd"
      exact ⟨0, _, _, rfl, .inl rfl, s3_add (ss_lt a1 b2) (ss_lt b1 a2), Nat.lt_of_lt_of_le (ss_lt a2 b2) (by have := s3_bb; omega), fun _ => Int.mul_ne_zero a3 b3, fun v H' n s => k v H' n s⟩
def sp_is_fraction : Sp := fun vs H Q _ => ∃ (p : Addr) (a : Int × Int), vs = [.ref p] ∧ H p = some (.tup [.int a.1, .int a.2]) ∧ NumOk 0 a ∧ Q (.bl true) H
theorem ok_is_fraction (T : Txt K mg) : FnOk P w K mg base CX0 2 T.is_fraction.f T.is_fraction.fd P_is_fraction sp_is_fraction := by
  refine T.is_fraction.F.ok sc_is_fraction (fun vs H Q E h => ?_) (fun cdv A outer s H vs Q E hr h => ?_)
  · obtain ⟨p, a, rfl, _⟩ := h; rfl
  · obtain ⟨p, a, rfl, hp, oa, k⟩ := h
    refine ⟨_, (pss_cons (ps_if (PW.pt (pw_or (pt_not (pt_val (pe_call (ok_is_tuple_of T) (hr.mono (by decide)) rfl T.is_tuple_of.g T.is_tuple_of.F.kp (b_is_tuple_of T) .nil pass0 (pa_cons (pv 0) (pa_cons pe_int pa_nil))))) (pw_or (pt_not (pt_val (pe_call (ok_is_integer T) (hr.mono (by decide)) rfl T.is_integer.g T.is_integer.F.kp (b_is_integer T) .nil pass0 (pa_cons (pe_ix (r := rIxT K) ix_tup (pv 0) pe_int (fun _ _ => rfl)) pa_nil)))) (pw_or1 (pt_not (pt_val (pe_call (ok_is_integer T) (hr.mono (by decide)) rfl T.is_integer.g T.is_integer.F.kp (b_is_integer T) .nil pass0 (pa_cons (pe_ix (r := rIxT K) ix_tup (pv 0) pe_int (fun _ _ => rfl)) pa_nil)))))))) (pss_one (ps_ret pe_bl)) pss_nil)
  (pss_one (ps_ret (pe_and (pe_cmpR op_lt (pe_callB call_abs rfl T.n_abs bo_abs (pa_cons (pe_ix (r := rIxT K) ix_tup (pv 0) pe_int (fun _ _ => rfl)) pa_nil)) (pe_glob rfl T.g_NUMBER_BOUND (v := .int NBi) ⟨_, rfl⟩) (nomark _)) (pe_and (pe_chain op_lt op_lt pe_int (pe_ix (r := rIxT K) ix_tup (pv 0) pe_int (fun _ _ => rfl)) (pe_glob rfl T.g_NUMBER_BOUND (v := .int NBi) ⟨_, rfl⟩)) (pe_one (pe_cmpR op_eq (pe_callBfun cr_gcd rfl T.g_gcd (pa_cons (pe_ix (r := rIxT K) ix_tup (pv 0) pe_int (fun _ _ => rfl)) (pa_cons (pe_ix (r := rIxT K) ix_tup (pv 0) pe_int (fun _ _ => rfl)) pa_nil))) pe_int (nomark _)))))))), ?_⟩
    unfold NumOk at oa
    rw [if_pos rfl] at oa
    walk_at "rd"
    refine ⟨_, _, _, rfl, .inl (.inl hp), ?_⟩
    walk_at "rd"
    have hN := nb_eq
    refine iteD (fun h1 => ?_) (fun h1 => ?_)
    · walk_at "rd"
      refine iteD (fun h2 => ?_) (fun h2 => ?_)
      · walk_at "rd"
        refine iteD (fun h3 => ?_) (fun h3 => ?_)
        · walk_at "rd"
          rw [oa.2.2.2]
          exact k
        · exact absurd (show a.2 < NBi by omega) h3
      · exact absurd oa.2.1 h2
    · refine absurd ?_ h1
      split <;> omega
def sp_is_number : Sp := fun vs H Q _ => ∃ f v a, vs = [.int f, v] ∧ NumV H f v a ∧ NumOk f a ∧ Q (.bl true) H
theorem ok_is_number (T : Txt K mg) : FnOk P w K mg base CX0 3 T.is_number.f T.is_number.fd P_is_number sp_is_number := by
  refine T.is_number.F.ok sc_is_number (fun vs H Q E h => ?_) (fun cdv A outer s H vs Q E hr h => ?_)
  · obtain ⟨f, v, a, rfl, _⟩ := h; rfl
  · obtain ⟨f, v, a, rfl, na, oa, k⟩ := h
    refine ⟨_, (pss_cons (ps_if (pt_cmpR op_eq (pv 0) pe_int (nomark _)) (pss_one (ps_ret (pe_call (ok_is_fraction T) (hr.mono (by decide)) rfl T.is_fraction.g T.is_fraction.F.kp (b_is_fraction T) .nil pass0 (pa_cons (pv 1) pa_nil)))) pss_nil)
  (pss_one (ps_ret (pe_call (ok_is_integer_in T) (hr.mono (by decide)) rfl T.is_integer_in.g T.is_integer_in.F.kp (b_is_integer_in T) .nil pass0 (pa_cons (pv 1) (pa_cons pe_int (pa_cons (pe_op op_sub (pv 0) pe_int) pa_nil))))))), ?_⟩
    walk_at "rd"
    refine iteV (fun hf => ?_) (fun hf => ?_)
    · subst hf
      obtain ⟨p, rfl, hp⟩ := na.q
      walk_at "rd"
      exact ⟨_, a, rfl, hp, oa, k⟩
    · obtain ⟨rfl, h1⟩ := na.m hf
      unfold NumOk at oa
      rw [if_neg hf] at oa
      walk_at "rd"
      refine ⟨_, _, _, rfl, ?_⟩
      rw [decide_eq_true (show 0 ≤ a.1 by omega), decide_eq_true (show a.1 ≤ f - 1 by omega)]
      exact k
/-- a number as data -/
def numD (f : Int) (a : Int × Int) : PyData := if f = 0 then .tuple [.int a.1, .int a.2] else .int a.1
theorem NumV.dp {H : Hp} {f : Int} {v : V} {a : Int × Int} (n : NumV H f v a) : Dp K H v (numD f a) := by
  unfold numD
  rcases n with ⟨h, p, rfl, hp⟩ | ⟨h, rfl, _⟩
  · rw [if_pos h]
    exact .tup (.inl (.inl hp)) (.cons (.int _) (.cons (.int _) .nil))
  · rw [if_neg h]
    exact .int _
theorem numD_shaped (f : Int) (a : Int × Int) : SeqAt.shaped (numD f a) = true := by
  unfold numD
  split <;> rfl
theorem numD_eqv (f : Int) (a b : Int × Int) : (numD f a).eqv (numD f b) = if f = 0 then (a.1 == b.1 && a.2 == b.2) else a.1 == b.1 := by
  unfold numD
  split
  · show (a.1 == b.1 && (a.2 == b.2 && true)) = _
    rw [Bool.and_true]
  · rfl
theorem numD_zero {f : Int} {a : Int × Int} (oa : NumOk f a) : (numD f a).eqv (numD f (0, 1)) = decide (a.1 = 0) := by
  rw [numD_eqv]
  unfold NumOk at oa
  split
  · rename_i h
    rw [if_pos h] at oa
    by_cases ha : a.1 = 0
    · have e := oa.2.2.2
      rw [ha] at e
      simp at e
      have e2 : a.2 = 1 := by omega
      simp [ha, e2]
    · simp [ha]
  · by_cases ha : a.1 = 0 <;> simp [ha]
end

/-! ### terms and polynomials -/
/-- v is a term: a number and a monomial -/
def TermV (K : PySem.W.Frag) (H : Hp) (f : Int) (v : V) (t : (Int × Int) × List Int) : Prop := ∃ (tp M : Addr) (nv : V), v = .ref tp ∧ SqT K H tp [nv, .ref M] ∧ NumV H f nv t.1 ∧ H M = some (.tup (t.2.map V.int))
def TermOk (f : Int) (n : Nat) (t : (Int × Int) × List Int) : Prop := NumOk f t.1 ∧ Mon n t.2
theorem NumV.ex {H H' : Hp} {f : Int} {v : V} {x : Int × Int} (h : NumV H f v x) (e : LamX.ExtN H H') : NumV H' f v x := by
  rcases h with ⟨h, p, e1, q⟩ | h
  · exact .inl ⟨h, p, e1, e _ _ q fun ps z => by cases z⟩
  · exact .inr h
theorem TermV.ex {K : PySem.W.Frag} {H H' : Hp} {f : Int} {v : V} {t : (Int × Int) × List Int} (h : TermV K H f v t) (e : LamX.ExtN H H') : TermV K H' f v t := by
  obtain ⟨tp, M, nv, rfl, h1, h2, h3⟩ := h
  exact ⟨tp, M, nv, rfl, (tp_ext e).sqt h1, h2.ex e, e _ _ h3 fun ps z => by cases z⟩
theorem CodF.ex {C : Addr} {H H' : Hp} {a : Addr} {f : Int} (h : CodF C H a f) (e : LamX.ExtN H H') : CodF C H' a f := by
  obtain ⟨dx, fs, h1, h2, S, n, h3, h4, h5, h6⟩ := h
  exact ⟨dx, fs, e _ _ h1 (fun ps z => by cases z), h2, S, n, h3, h4, e _ _ h5 (fun ps z => by cases z), h6⟩
/-- the tuple pv holds the terms ts -/
def PolyV (K : PySem.W.Frag) (H : Hp) (f : Int) (pv : V) (ts : List ((Int × Int) × List Int)) : Prop := ∃ (pa : Addr) (vs : List V), pv = .ref pa ∧ SqT K H pa vs ∧ vs.length = ts.length ∧ ∀ (i : Nat) (v : V) (t : (Int × Int) × List Int), vs[i]? = some v → ts[i]? = some t → TermV K H f v t
theorem PolyV.ex {K : PySem.W.Frag} {H H' : Hp} {f : Int} {v : V} {ts : List ((Int × Int) × List Int)} (h : PolyV K H f v ts) (e : LamX.ExtN H H') : PolyV K H' f v ts := by
  obtain ⟨pa, vs, rfl, h1, h2, h3⟩ := h
  exact ⟨pa, vs, rfl, (tp_ext e).sqt h1, h2, fun i v t a b => (h3 i v t a b).ex e⟩
def codeR (n : Nat) (rs : List (List Int)) (ms : List Int) : Int := dotZ ms (unitsL n rs)
/-- a polynomial: no zeros, greater monomials ahead -/
def PolyOk (f : Int) (n : Nat) (rs : List (List Int)) (ts : List ((Int × Int) × List Int)) : Prop :=
  ts.length ≤ 500 ∧ (∀ t ∈ ts, TermOk f n t ∧ t.1.1 ≠ 0) ∧ ∀ (i : Nat) (t u : (Int × Int) × List Int), ts[i]? = some t → ts[i + 1]? = some u → codeR n rs u.2 < codeR n rs t.2
theorem FieldOk.isF {f : Int} (h : FieldOk f) : IsF f := by
  unfold FieldOk at h
  unfold IsF FieldsP
  simp only [List.mem_cons, List.not_mem_nil, or_false]
  omega
section
variable {P : Program} {w : World} {K : PySem.W.Frag} {mg : Str → Option Value} {base : Heap}
def sp_is_tuple_up_to (K : PySem.W.Frag) : Sp := fun vs H Q _ => ∃ (a : Addr) (m : Int) (xs : List V), vs = [.ref a, .int m] ∧ SqT K H a xs ∧ Q (.bl (decide ((xs.length : Int) ≤ m))) H
theorem ok_is_tuple_up_to (T : Txt K mg) : FnOk P w K mg base CX0 1 T.is_tuple_up_to.f T.is_tuple_up_to.fd P_is_tuple_up_to (sp_is_tuple_up_to K) := by
  refine T.is_tuple_up_to.F.ok sc_is_tuple_up_to (fun vs H Q E h => ?_) (fun cdv A outer s H vs Q E hr h => ?_)
  · obtain ⟨a, m, xs, rfl, _⟩ := h; rfl
  · obtain ⟨a, m, xs, rfl, hT, k⟩ := h
    refine ⟨_, (pss_one (ps_ret (pe_and (pe_callB (r := rIsi K) call_isi rfl T.n_isinstance bo_isinstance (pa_cons (pv 0) (pa_cons (pe_bltn (v := .ty "tuple") rfl T.n_tuple bo_tuple rfl) pa_nil))) (pe_one (pe_cmpR op_le (pe_callB (r := rLenS K) call_len_seq rfl T.n_len bo_len (pa_cons (pv 0) pa_nil)) (pv 1) (nomark _)))))), ?_⟩
    walk_at "rd"
    refine ⟨_, _, _, _, _, rfl, .ty _, ty_tup hT, kit_tuple_tuple, ?_⟩
    walk_at "rd"
    refine ⟨_, _, rfl, .inr hT, ?_⟩
    walk_at "rd"
    exact k
def sp_is_loose_term (C : Addr) (t : TabsAt) (K : PySem.W.Frag) : Sp := fun vs H Q _ => ∃ (a : Addr) (f : Int) (n : Nat) (rs : List (List Int)) (v : V) (tm : (Int × Int) × List Int), vs = [.ref a, v] ∧ CodO C K H a n rs ∧ CodF C H a f ∧ TermV K H f v tm ∧ TermOk f n tm ∧ TS t H ∧ ∀ H', Ex t H H' → Q (.bl true) H'
theorem ok_is_loose_term (T : Txt K mg) {t : TabsAt} (B : TBs T base t) : FnOk P w K mg base CX0 14 T.is_loose_term.f T.is_loose_term.fd P_is_loose_term (sp_is_loose_term T.Coding.C t K) := by
  refine T.is_loose_term.F.ok sc_is_loose_term (fun vs H Q E h => ?_) (fun cdv A outer s H vs Q E hr h => ?_)
  · obtain ⟨a, f, n, rs, v, tm, rfl, _⟩ := h; rfl
  · obtain ⟨a, f, n, rs, v, tm, rfl, ⟨dx, L, fs, rv, c1, c2, _⟩, ⟨dx', fs', c1', cf, _⟩, ⟨tp, M, nv, rfl, h1, h2, h3⟩, ⟨o1, o2⟩, ts, k⟩ := h
    obtain ⟨rfl, rfl⟩ : dx' = dx ∧ fs' = fs := by rw [c1] at c1'; cases c1'; exact ⟨rfl, rfl⟩
    refine ⟨_, (pss_cons (ps_if (pt_not (pt_val (pe_call (ok_is_tuple_of T) (hr.mono (by decide)) rfl T.is_tuple_of.g T.is_tuple_of.F.kp (b_is_tuple_of T) .nil pass0 (pa_cons (pv 1) (pa_cons pe_int pa_nil))))) (pss_one (ps_ret pe_bl)) pss_nil)
  (pss_one (ps_ret (pe_and (pe_call (ok_is_number T) (hr.mono (by decide)) rfl T.is_number.g T.is_number.F.kp (b_is_number T) .nil pass0 (pa_cons (pe_fld (pv 0) rfl) (pa_cons (pe_ix (r := rIxT K) ix_tup (pv 1) pe_int (fun _ _ => rfl)) pa_nil))) (pe_one (pe_call (ok_is_monomial T B) (hr.mono (by decide)) rfl T.is_monomial.g T.is_monomial.F.kp (b_is_monomial T) .nil pass0 (pa_cons (pe_fld (pv 0) rfl) (pa_cons (pe_ix (r := rIxT K) ix_tup (pv 1) pe_int (fun _ _ => rfl)) pa_nil)))))))), ?_⟩
    walk_at "rd"
    refine ⟨_, _, _, rfl, h1, ?_⟩
    walk_at "rd"
    refine ⟨_, _, _, _, _, rfl, c1, T.Coding.cls, T.Coding.n_field, cf, ?_⟩
    walk_at "rd"
    refine ⟨f, nv, tm.1, rfl, h2, o1, ?_⟩
    walk_at "rd"
    refine ⟨_, _, _, _, _, rfl, c1, T.Coding.cls, T.Coding.n_many, c2, ?_⟩
    walk_at "rd"
    exact ⟨n, M, tm.2, rfl, o2, .inl (.inl h3), ts, k⟩
end

theorem gx_pol : ("is_polynomial" : Str) ∈ gensL := by decide
theorem lx_pol : ("is_polynomial" : Str) ∉ lamsL := by decide
section
variable {P : Program} {w : World} {K : PySem.W.Frag} {mg : Str → Option Value} {base : Heap}
def sp_is_polynomial (C : Addr) (t : TabsAt) (K : PySem.W.Frag) : Sp := fun vs H Q _ => ∃ (a : Addr) (f : Int) (n : Nat) (rs : List (List Int)) (v : V) (ts : List ((Int × Int) × List Int)), vs = [.ref a, v] ∧ n ≤ 4 ∧ RowsOk n rs ∧ CodO C K H a n rs ∧ CodF C H a f ∧ PolyV K H f v ts ∧ PolyOk f n rs ts ∧ TS t H ∧ ∀ H', Ex t H H' → Q (.bl true) H'
theorem ok_is_polynomial (T : Txt K mg) {t : TabsAt} (B : TBs T base t) : FnOk P w K mg base CX0 18 T.is_polynomial.f T.is_polynomial.fd P_is_polynomial (sp_is_polynomial T.Coding.C t K) := by
  refine okC T.is_polynomial.F B.h_is_polynomial sc_is_polynomial (fun vs H Q E h => ?_) (fun A outer s H vs Q E hr h => ?_)
  · obtain ⟨a, f, n, rs, v, ts, rfl, _⟩ := h; rfl
  · obtain ⟨a, f, n, rs, v, ts, rfl, hn4, hrs, hc, hcf, hp, ⟨hlen, hok, hdec⟩, tsH, k⟩ := h
    obtain ⟨pa, vs, rfl, hP, hvl, hT⟩ := id hp
    obtain ⟨dx, fs, c1, cf, _⟩ := id hcf
    refine ⟨_, (pss_cons (ps_if (pt_not (pt_val (pe_call (ok_is_tuple_up_to T) (hr.mono (by decide)) rfl T.is_tuple_up_to.g T.is_tuple_up_to.F.kp (b_is_tuple_up_to T) .nil pass0 (pa_cons (pv 1) (pa_cons (pe_glob rfl T.g_MOST_TERMS (v := .int 500) ⟨_, rfl⟩) pa_nil))))) (pss_one (ps_ret pe_bl)) pss_nil)
  (pss_cons (ps_set (i := 2) sc_is_polynomial.nd rfl (Or.inr rfl) (pe_call (ok_zero_of T) (hr.mono (by decide)) rfl T.zero_of.g T.zero_of.F.kp (b_zero_of T) .nil pass0 (pa_cons (pe_fld (pv 0) rfl) pa_nil)))
  (pss_cons (ps_if (pt_not (pt_val (pe_allR (ys := ([] : List Str)) (own := [("term", 4)]) (vs := [4]) sc_is_polynomial.nd (by decide) hr rfl T.n_all bo_all B.b_is_polynomial rfl (gxOk_by (N := N_is_polynomial) (sc := defScope s_is_polynomial) (own := [("term", 4)]) (by decide +kernel)) (pi_tup (pv 1)) (fun _ _ _ _ _ _ _ _ hr => (pg_name (i := 4) (show List.Nodup (N_is_polynomial ++ ([] : List Str)) by decide +kernel) rfl (Or.inl rfl))) (fun _ _ _ _ _ _ _ _ hr => (pe_and (pe_call (ok_is_loose_term T B) (hr.mono (by decide)) rfl T.is_loose_term.g T.is_loose_term.F.kp (b_is_loose_term T) .nil pass0 (pa_cons (pv 0) (pa_cons (pv 4) pa_nil))) (pe_one (pe_cmpR (r := rNeD K) (op_neD hr.units) (pe_ix (r := rIxT K) ix_tup (pv 4) pe_int (fun _ _ => rfl)) (pv 2) (nomark _))))) (fun _ => rfl)))) (pss_one (ps_ret pe_bl)) pss_nil)
  (pss_cons (ps_set (i := 3) sc_is_polynomial.nd rfl (Or.inr rfl) (pe_lc (own := [("term", 4)]) rfl sc_is_polynomial.nd (pi_tup (pv 1)) (blkOk_by (own := [("term", 4)]) (N := N_is_polynomial) (sc := defScope s_is_polynomial) (by decide +kernel)) (fun _ _ _ _ _ => (pg_name (i := 4) sc_is_polynomial.nd rfl (Or.inl rfl))) (fun _ _ _ _ _ => pts_nil) (fun _ _ _ _ _ => (pe_meth (pv 0) T.Coding.cls T.Coding.m_code (ok_Coding_code T) (hr.mono (by decide)) (b_Coding_code T) .nil pass0 (pa_cons (pe_ix (r := rIxT K) ix_tup (pv 4) pe_int (fun _ _ => rfl)) pa_nil)))))
  (pss_one (ps_ret (pe_allR (ys := (["k"] : List Str)) (own := []) (vs := [5]) sc_is_polynomial.nd (by decide) hr rfl T.n_all bo_all B.b_is_polynomial rfl (gxOk_by (N := N_is_polynomial) (sc := defScope s_is_polynomial) (own := []) (by decide +kernel)) (pi_range1 rfl T.n_range (pa_cons (pe_op op_sub (pe_callB (r := rLenS K) call_len_seq rfl T.n_len bo_len (pa_cons (pv 3) pa_nil)) pe_int) pa_nil)) (fun _ _ _ _ _ _ _ _ hr => (pg_name (i := 5) (show List.Nodup (N_is_polynomial ++ (["k"] : List Str)) by decide +kernel) rfl (Or.inl rfl))) (fun _ _ _ _ _ _ _ _ hr => (pe_cmpR op_gt (pe_ix (r := rIxL K) ix_list (pv 3) (pv 5) (fun _ _ => rfl)) (pe_ix (r := rIxL K) ix_list (pv 3) (pe_op op_add (pv 5) pe_int) (fun _ _ => rfl)) (nomark _))) (fun _ => rfl)))))))), ?_⟩
    walk_at "rd"
    refine ⟨_, _, _, rfl, hP, ?_⟩
    rw [decide_eq_true (show ((vs.length : Nat) : Int) ≤ 500 by omega)]
    walk_at "rd"
    refine ⟨_, _, _, _, _, rfl, c1, T.Coding.cls, T.Coding.n_field, cf, ?_⟩
    walk_at "rd"
    intro zv H1 nz s1
    have x1 : Ex t H H1 := Ex.of tsH s1
    walk_at "rd"
    refine ⟨⟨vs, (tp_ext x1.keep).sqt hP⟩, x1.ts.g _ gx_pol, fun H2 e2 => ?_⟩
    have x2 : Ex t H1 H2 := Ex.tab x1.ts gx_pol lx_pol e2
    refine gx_tup (Pv := fun _ H' => Ex t H1 H') x2 (fun i H' _ x => (tp_ext (x1.trans x).keep).sqt hP) (fun i v H' hv x => ?_) (fun H3 x3 => ?_)
    · have hi : i < ts.length := by rw [← hvl]; exact (List.getElem?_eq_some_iff.mp hv).1
      have xx : Ex t H H' := x1.trans x
      obtain ⟨o1, o2⟩ := hok _ (List.getElem_mem hi)
      walk_at "rd"
      have hv' : TermV K H f v ts[i] := hT i v ts[i] hv (List.getElem?_eq_getElem hi)
      refine ⟨a, f, n, rs, v, ts[i], rfl, CodO.ex xx hc, hcf.ex xx.keep, hv'.ex xx.keep, o1, xx.ts, fun H4 x4 => ?_⟩
      obtain ⟨tp, M, nv, rfl, h1, h2, h3⟩ := hv'.ex (xx.trans x4).keep
      walk_at "rd"
      refine ⟨_, _, h2.dp, (nz.ex (x.trans x4).keep).dp, numD_shaped _ _, numD_shaped _ _, ?_⟩
      rw [numD_zero o1.1, decide_eq_false o2]
      exact ⟨true, rfl, (fun z => by cases z), fun _ => x.trans x4⟩
    · walk_at "rd"
      have xx : Ex t H H3 := x1.trans x3
      refine ⟨⟨vs, (tp_ext xx.keep).sqt hP⟩, fun D hD => ?_⟩
      refine lc_tup (xs := vs) (MapAt H3 D fun j y _ => ∃ tm, ts[j]? = some tm ∧ y = .int (codeR n rs tm.2)) (mapAt_0 hD) (fun j H4 _ hM => ?_) (fun j v H4 hv hM => ?_) (fun H4 hM => ?_)
      · obtain ⟨ys, s4, _⟩ := hM
        exact Same.tup s4 ((tp_ext xx.keep).sqt hP)
      · have hi : j < ts.length := by rw [← hvl]; exact (List.getElem?_eq_some_iff.mp hv).1
        have s4 : Same H3 H4 := let ⟨_, s4, _⟩ := hM; s4
        have x4 : Ex t H H4 := xx.same s4
        obtain ⟨tp, M, nv, rfl, h1, h2, h3⟩ := (hT j v ts[j] hv (List.getElem?_eq_getElem hi)).ex x4.keep
        obtain ⟨o1, o2⟩ := hok _ (List.getElem_mem hi)
        walk_at "rd"
        obtain ⟨dx4, L4, fs4, rv4, k1, k2, k3, k4, k5, k6, k7⟩ := id (CodO.ex x4 hc)
        refine ⟨a, dx4, fs4, rfl, k1, k7, ?_⟩
        walk_at "rd"
        have hsz : 500 ≤ sizeLine := by decide
        exact ⟨a, M, n, rs, ts[j].2, rfl, hn4, hrs, o1.2.1, CodO.ex x4 hc, .inl (.inl h3), mapAt_step hM hD (by omega) (Same.refl _) (fun _ _ _ _ q _ => q) ⟨ts[j], List.getElem?_eq_getElem hi, rfl⟩⟩
      · walk_at "rd"
        obtain ⟨ys, s4, hDy, hly, hy⟩ := hM
        have x4 : Ex t H H4 := xx.same s4
        have hsz : ys.length ≤ 500 := by omega
        refine ⟨D, ys, rfl, .inl (.inl (.inl hDy)), ?_⟩
        walk_at "rd"
        refine ⟨by omega, by omega, x4.ts.g _ gx_pol, fun H5 e5 => ?_⟩
        have x5 : Ex t H4 H5 := Ex.tab x4.ts gx_pol lx_pol e5
        refine gx_range (Pv := fun _ H' => Ex t H4 H') x5 (fun i H6 hi x6 => ?_) (fun H6 x6 => k H6 (x4.trans x6))
        have hD6 : H6 D = some (.lst ys) := x6.keep _ _ hDy fun ps z => by cases z
        have h1 : i < ys.length := by omega
        have h2 : i + 1 < ys.length := by omega
        obtain ⟨t1, a1, b1⟩ := hy i ys[i] (List.getElem?_eq_getElem h1)
        obtain ⟨t2, a2, b2⟩ := hy (i + 1) ys[i + 1] (List.getElem?_eq_getElem h2)
        have e1 : atI ys ((0 : Int) + (i : Nat)) = some (V.int (codeR n rs t1.2)) := by
          rw [Int.zero_add, atI_nat (List.getElem?_eq_getElem h1), b1]
        have e2' : atI ys ((0 : Int) + (i : Nat) + 1) = some (V.int (codeR n rs t2.2)) := by
          have e : (0 : Int) + (i : Nat) + 1 = ((i + 1 : Nat) : Int) := by omega
          rw [e, atI_nat (List.getElem?_eq_getElem h2), b2]
        have hd := hdec i t1 t2 a1 a2
        walk_at "rd"
        refine ⟨_, _, _, _, rfl, rfl, .inl (.inl hD6), e1, ?_⟩
        walk_at "rd"
        refine ⟨_, _, _, _, rfl, rfl, .inl (.inl hD6), e2', ?_⟩
        walk_at "rd"
        exact ⟨fun z => absurd hd (of_decide_eq_false z), fun _ => x6⟩
end

section
variable {P : Program} {w : World} {K : PySem.W.Frag} {mg : Str → Option Value} {base : Heap}
def sp_check_polynomial (C : Addr) (t : TabsAt) (K : PySem.W.Frag) : Sp := fun vs H Q _ => ∃ (a : Addr) (f : Int) (n : Nat) (rs : List (List Int)) (v : V) (ts : List ((Int × Int) × List Int)), vs = [.ref a, v] ∧ n ≤ 4 ∧ RowsOk n rs ∧ CodO C K H a n rs ∧ CodF C H a f ∧ PolyV K H f v ts ∧ PolyOk f n rs ts ∧ TS t H ∧ ∀ H', Ex t H H' → Q .non H'
theorem ok_check_polynomial (T : Txt K mg) {t : TabsAt} (B : TBs T base t) : FnOk P w K mg base CX0 19 T.check_polynomial.f T.check_polynomial.fd P_check_polynomial (sp_check_polynomial T.Coding.C t K) := by
  refine T.check_polynomial.F.ok sc_check_polynomial (fun vs H Q E h => ?_) (fun cdv A outer s H vs Q E hr h => ?_)
  · obtain ⟨a, f, n, rs, v, ts, rfl, _⟩ := h; rfl
  · obtain ⟨a, f, n, rs, v, ts, rfl, hn4, hrs, hc, hcf, hp, hok, tsH, k⟩ := h
    refine ⟨_, (pss_one (ps_if (pt_not (pt_val (pe_call (ok_is_polynomial T B) (hr.mono (by decide)) rfl T.is_polynomial.g T.is_polynomial.F.kp (b_is_polynomial T) .nil pass0 (pa_cons (pv 0) (pa_cons (pv 1) pa_nil))))) (pss_one ps_never) pss_nil)), ?_⟩
    walk_at "rd"
    refine ⟨a, f, n, rs, v, ts, rfl, hn4, hrs, hc, hcf, hp, hok, tsH, fun H' x => ?_⟩
    walk_at "rd"
    exact k H' x
/-- v stands for the ring of f, n, o -/
structure RgV (K : PySem.W.Frag) (H : Hp) (v : V) (f : Int) (n : Nat) (o : Ord) : Prop where
  hf : FieldOk f
  h1 : 1 ≤ n
  h4 : n ≤ 4
  ho : OrdOk n o
  hd : Dp K H v (rgD f n o)
theorem RgV.ex {H H' : Hp} {v : V} {f : Int} {n : Nat} {o : Ord} (h : RgV K H v f n o) (e : LamX.ExtN H H') : RgV K H' v f n o :=
  ⟨h.hf, h.h1, h.h4, h.ho, Dp.tp (tp_ext e) _ _ (by simp [rgD, tOnly, tOnlyAll, tOnly_ord]) h.hd⟩
end

/-! ### the law's own draws -/
/-- the law's row at r: the script, how many cells are taken, a mixed number, a cell's rest -/
def SqN (K : PySem.W.Frag) (H : Hp) (r sa : Addr) (xs : List V) : Prop := (Rd H sa (.lst xs) ∧ sa ≠ r) ∨
  ∃ (o : Obj) (its : Array Value) (n : Nat), K.lookup sa = some o ∧ o.cls = .type "list" ∧ o.dict = none ∧ o.data = .seq its n ∧ its.size ≤ sizeLine ∧ Vals xs its.toList
theorem SqN.sq {K : PySem.W.Frag} {H : Hp} {r sa : Addr} {xs : List V} (h : SqN K H r sa xs) : SqL K H sa xs := by
  rcases h with ⟨h, _⟩ | h
  · exact .inl h
  · exact .inr h
theorem sqn_ne {K : PySem.W.Frag} {H : Hp} {r sa : Addr} {o : HO} {xs : List V} (h : SqN K H r sa xs) : SqN K (upd H r o) r sa xs := by
  rcases h with ⟨h | ⟨u, h⟩, n⟩ | h
  · exact .inl ⟨.inl ((upd_ne n).trans h), n⟩
  · exact .inl ⟨.inr ⟨u, (upd_ne n).trans h⟩, n⟩
  · exact .inr h
def RowAt (K : PySem.W.Frag) (H : Hp) (r sa : Addr) (ns : List Int) : Prop := ∃ (p s e : Int),
  H r = some (.lst [.ref sa, .int p, .int s, .int e]) ∧ SqN K H r sa (ns.map V.int) ∧ 0 ≤ p ∧ 0 ≤ s ∧ s < 2147483647 ∧ 0 ≤ e
/-- nothing but the row has changed -/
def ButRow (r : Addr) (H H' : Hp) : Prop := ∀ b, b ≠ r → H' b = H b
theorem RowAt.of {K : PySem.W.Frag} {H : Hp} {r sa : Addr} {ns : List Int} {p s e : Int} {xs : List V} (hx : xs = [.ref sa, .int p, .int s, .int e]) (hS : SqN K H r sa (ns.map V.int))
    (h1 : 0 ≤ p) (h2 : 0 ≤ s) (h3 : s < 2147483647) (h4 : 0 ≤ e) : RowAt K (upd H r (.lst xs)) r sa ns := by
  subst hx
  exact ⟨p, s, e, upd_same, sqn_ne hS, h1, h2, h3, h4⟩
theorem ButRow.of {H : Hp} {r : Addr} {o : HO} : ButRow r H (upd H r o) := fun b n => upd_ne n
section
variable {P : Program} {w : World} {K : PySem.W.Frag} {mg : Str → Option Value} {base : Heap}
def sp_law_taken (K : PySem.W.Frag) : Sp := fun vs H Q _ => ∃ (r sa : Addr) (ns : List Int) (m : Int), vs = [.ref r, .int m] ∧ RowAt K H r sa ns ∧ 1 ≤ m ∧ m ≤ 1000000000 ∧
  ∀ (v : Int) H', 0 ≤ v → v < m → RowAt K H' r sa ns → ButRow r H H' → Q (.int v) H'
theorem ok_law_taken (T : Txt K mg) : FnOk P w K mg base CX0 1 T.law_taken.f T.law_taken.fd P_law_taken (sp_law_taken K) := by
  refine T.law_taken.F.ok sc_law_taken (fun vs H Q E h => ?_) (fun cdv A outer s H vs Q E hr h => ?_)
  · obtain ⟨r, sa, ns, m, rfl, _⟩ := h; rfl
  · obtain ⟨r, sa, ns, m, rfl, ⟨p, sd, e, hrow, hS, hp, hs, hs2, he⟩, hm, hm2, k⟩ := h
    refine ⟨_, (pss_cons (ps_if (pt_cmpR op_gt (pe_ix (r := rIxL K) ix_list (pv 0) pe_int (fun _ _ => rfl)) pe_int (nomark _)) (pss_cons (ps_set (i := 2) sc_law_taken.nd rfl (Or.inl rfl) (pe_op op_mod (pe_callTy call_int1 rfl T.n_int bo_int (pa_cons (pe_ix (r := rIxL K) ix_list (pv 0) pe_int (fun _ _ => rfl)) pa_nil)) (pv 1)))
  (pss_cons (ps_asg (pe_op op_fdivZ (pe_ix (r := rIxL K) ix_list (pv 0) pe_int (fun _ _ => rfl)) (pv 1)) (pg_sub (pv 0) pe_int set_list))
  (pss_one (ps_ret (pv 2))))) pss_nil)
  (pss_cons (ps_asg (pe_op op_add (pe_ix (r := rIxL K) ix_list (pv 0) pe_int (fun _ _ => rfl)) pe_int) (pg_sub (pv 0) pe_int set_list))
  (pss_cons (ps_if (pt_cmpR op_gt (pe_ix (r := rIxL K) ix_list (pv 0) pe_int (fun _ _ => rfl)) (pe_callB (r := rLenS K) call_len_seq rfl T.n_len bo_len (pa_cons (pe_ix (r := rIxL K) ix_list (pv 0) pe_int (fun _ _ => rfl)) pa_nil)) (nomark _)) (pss_cons (ps_asg (pe_op op_mod (pe_callTy call_int1 rfl T.n_int bo_int (pa_cons (pe_op op_add (pe_op op_mulW (pe_ix (r := rIxL K) ix_list (pv 0) pe_int (fun _ _ => rfl)) pe_int) pe_int) pa_nil)) pe_int) (pg_sub (pv 0) pe_int set_list))
  (pss_one (ps_ret (pe_op op_mod (pe_callTy call_int1 rfl T.n_int bo_int (pa_cons (pe_op op_fdivZ (pe_ix (r := rIxL K) ix_list (pv 0) pe_int (fun _ _ => rfl)) pe_int) pa_nil)) (pv 1))))) pss_nil)
  (pss_cons (ps_set (i := 3) sc_law_taken.nd rfl (Or.inl rfl) (pe_ix (r := rIxL K) ix_list (pe_ix (r := rIxL K) ix_list (pv 0) pe_int (fun _ _ => rfl)) (pe_op op_sub (pe_ix (r := rIxL K) ix_list (pv 0) pe_int (fun _ _ => rfl)) pe_int) (fun _ _ => rfl)))
  (pss_cons (ps_asg (pe_op op_mod (pe_callTy call_int1 rfl T.n_int bo_int (pa_cons (pe_op op_add (pe_op op_add (pe_op op_mulW (pe_ix (r := rIxL K) ix_list (pv 0) pe_int (fun _ _ => rfl)) pe_int) (pv 3)) pe_int) pa_nil)) pe_int) (pg_sub (pv 0) pe_int set_list))
  (pss_cons (ps_if (pt_cmpR op_ge (pv 3) (pe_op op_powW pe_int pe_int) (nomark _)) (pss_one (ps_asg (pe_op op_fdivZ (pv 3) (pv 1)) (pg_sub (pv 0) pe_int set_list))) pss_nil)
  (pss_one (ps_ret (pe_op op_mod (pe_callTy call_int1 rfl T.n_int bo_int (pa_cons (pv 3) pa_nil)) (pv 1)))))))))), ?_⟩
    walk_at "rd"
    refine iteD (fun h1 => ?_) (fun h1 => ?_)
    · walk_at "rd"
      refine k _ _ (Int.emod_nonneg _ (by omega)) (Int.emod_lt_of_pos _ (by omega)) (.of rfl hS hp hs hs2 ?_) .of
      rw [Int.fdiv_eq_ediv_of_nonneg _ (by omega)]
      exact Int.ediv_nonneg he (by omega)
    · walk_at "rd"
      refine ⟨_, _, rfl, .inl (sqn_ne hS).sq, ?_⟩
      walk_at "rd"
      refine iteD (fun h2 => ?_) (fun h2 => ?_)
      · walk_at "rd"
        refine k _ _ (Int.emod_nonneg _ (by omega)) (Int.emod_lt_of_pos _ (by omega)) (.of rfl (sqn_ne hS) (show 0 ≤ p + 1 by omega) (Int.emod_nonneg _ (by omega)) (Int.emod_lt_of_pos _ (by omega)) he) fun b n => ?_
        rw [upd_ne n, upd_ne n]
      · rw [List.length_map] at h2
        obtain ⟨c, hc⟩ : ∃ c, ns[p.toNat]? = some c := ⟨_, List.getElem?_eq_getElem (by omega)⟩
        have hat : atI (ns.map V.int) (p + 1 - 1) = some (V.int c) := by
          rw [show p + 1 - 1 = (p.toNat : Int) by omega]
          refine atI_nat ?_
          rw [List.getElem?_map, hc]; rfl
        walk_at "rd"
        refine ⟨_, _, _, _, rfl, rfl, (sqn_ne hS).sq, hat, ?_⟩
        walk_at "rd"
        refine iteD (fun h3 => ?_) (fun h3 => ?_)
        · walk_at "rd"
          have h3' : (0 : Int) ≤ c := by
            have : ((10 : Int) ^ (18 : Int).toNat) = 1000000000000000000 := by decide
            omega
          refine k _ _ (Int.emod_nonneg _ (by omega)) (Int.emod_lt_of_pos _ (by omega)) (.of rfl (sqn_ne (sqn_ne hS)) (show 0 ≤ p + 1 by omega) (Int.emod_nonneg _ (by omega)) (Int.emod_lt_of_pos _ (by omega)) ?_) fun b n => ?_
          · rw [Int.fdiv_eq_ediv_of_nonneg _ (by omega)]
            exact Int.ediv_nonneg h3' (by omega)
          · rw [upd_ne n, upd_ne n, upd_ne n]
        · walk_at "rd"
          refine k _ _ (Int.emod_nonneg _ (by omega)) (Int.emod_lt_of_pos _ (by omega)) (.of rfl (sqn_ne hS) (show 0 ≤ p + 1 by omega) (Int.emod_nonneg _ (by omega)) (Int.emod_lt_of_pos _ (by omega)) he) fun b n => ?_
          rw [upd_ne n, upd_ne n]
/-- things is a list at p: the draw gives one of its items -/
def sp_law_pick (K : PySem.W.Frag) : Sp := fun vs H Q _ => ∃ (r sa l : Addr) (ns : List Int) (xs : List V), vs = [.ref r, .ref l] ∧ RowAt K H r sa ns ∧ SqL K H l xs ∧ l ≠ r ∧ 1 ≤ xs.length ∧ xs.length ≤ 1000000000 ∧
  ∀ (v : V) H', v ∈ xs → RowAt K H' r sa ns → ButRow r H H' → Q v H'
theorem sql_but {K : PySem.W.Frag} {H H' : Hp} {r a : Addr} {xs : List V} (h : SqL K H a xs) (n : a ≠ r) (b : ButRow r H H') : SqL K H' a xs := by
  rcases h with (h | ⟨u, h⟩) | h
  · exact .inl (.inl ((b a n).trans h))
  · exact .inl (.inr ⟨u, (b a n).trans h⟩)
  · exact .inr h
theorem ok_law_pick (T : Txt K mg) : FnOk P w K mg base CX0 2 T.law_pick.f T.law_pick.fd P_law_pick (sp_law_pick K) := by
  refine T.law_pick.F.ok sc_law_pick (fun vs H Q E h => ?_) (fun cdv A outer s H vs Q E hr h => ?_)
  · obtain ⟨r, sa, l, ns, xs, rfl, _⟩ := h; rfl
  · obtain ⟨r, sa, l, ns, xs, rfl, hrow, hl, hne, h1, h2, k⟩ := h
    refine ⟨_, (pss_one (ps_ret (pe_ix (r := rIxL K) ix_list (pv 1) (pe_call (ok_law_taken T) (hr.mono (by decide)) rfl T.law_taken.g T.law_taken.F.kp (b_law_taken T) .nil pass0 (pa_cons (pv 0) (pa_cons (pe_callB (r := rLenS K) call_len_seq rfl T.n_len bo_len (pa_cons (pv 1) pa_nil)) pa_nil))) (fun _ _ => rfl)))), ?_⟩
    walk_at "rd"
    refine ⟨_, _, rfl, .inl hl, ?_⟩
    walk_at "rd"
    refine ⟨r, sa, ns, _, rfl, hrow, by omega, by omega, fun v H' v0 v1 hrow' hb => ?_⟩
    have hlt : v.toNat < xs.length := by omega
    refine ⟨_, _, _, xs[v.toNat], rfl, rfl, sql_but hl hne hb, ?_, ?_⟩
    · exact at_of (show v = (v.toNat : Int) by omega) (List.getElem?_eq_getElem hlt)
    · exact k _ _ (List.getElem_mem hlt) hrow' hb
end

section
variable {P : Program} {w : World} {K : PySem.W.Frag} {mg : Str → Option Value} {base : Heap}
/-- all but the row stays, and the row is a row -/
structure RK (K : PySem.W.Frag) (r sa : Addr) (ns : List Int) (H H' : Hp) : Prop where
  keep : KeepBut r H H'
  row : RowAt K H' r sa ns
theorem row_lst {H : Hp} {r sa : Addr} {ns : List Int} (h : RowAt K H r sa ns) : ∃ xs, H r = some (.lst xs) := by
  obtain ⟨p, s, e, h, _⟩ := h
  exact ⟨_, h⟩
theorem RowAt.sm {H H' : Hp} {r sa : Addr} {ns : List Int} (h : RowAt K H r sa ns) (s : Same H H') : RowAt K H' r sa ns := by
  obtain ⟨p, sd, e, hrow, hS, hb⟩ := h
  refine ⟨p, sd, e, s _ _ hrow, ?_, hb⟩
  rcases hS with ⟨q | ⟨u, q⟩, n⟩ | q
  · exact .inl ⟨.inl (s _ _ q), n⟩
  · exact .inl ⟨.inr ⟨u, s _ _ q⟩, n⟩
  · exact .inr q
theorem RK.of {H H' : Hp} {r sa : Addr} {ns : List Int} (h : RowAt K H r sa ns) (s : Same H H') : RK K r sa ns H H' := ⟨.of s, h.sm s⟩
theorem RK.draw {H H' : Hp} {r sa : Addr} {ns : List Int} (h : RowAt K H' r sa ns) (b : ButRow r H H') : RK K r sa ns H H' := ⟨fun c o n e => (b c n).trans e, h⟩
theorem RK.trans {H H1 H2 : Hp} {r sa : Addr} {ns : List Int} (a : RK K r sa ns H H1) (b : RK K r sa ns H1 H2) : RK K r sa ns H H2 := ⟨a.keep.trans b.keep, b.row⟩
theorem RK.tp {H H' : Hp} {r sa : Addr} {ns : List Int} (h : RowAt K H r sa ns) (a : RK K r sa ns H H') : Tp H H' := fun b xs q => by
  obtain ⟨ys, hr⟩ := row_lst h
  have n : b ≠ r := fun e => by
    subst e
    rcases q with q | ⟨o, q⟩
    · rw [hr] at q; cases q
    · rw [hr] at q; cases q
  rcases q with q | ⟨o, q⟩
  · exact .inl (a.keep _ _ n q)
  · exact .inr ⟨o, a.keep _ _ n q⟩
/-- i items are made at D while the row is drawn from -/
def MapRow (K : PySem.W.Frag) (r sa : Addr) (ns : List Int) (H1 : Hp) (D : Addr) (R : Nat → V → Prop) (i : Nat) (H : Hp) : Prop := ∃ ys, RK K r sa ns H1 H ∧ H D = some (.lst ys) ∧ ys.length = i ∧ ∀ (j : Nat) (y : V), ys[j]? = some y → R j y
theorem mapRow_0 {r sa : Addr} {ns : List Int} {H1 : Hp} {D : Addr} {R : Nat → V → Prop} (hr : RowAt K H1 r sa ns) (hD : H1 D = Option.none) : MapRow K r sa ns H1 D R 0 (upd H1 D (.lst [])) := ⟨[], .of hr (same_upd hD), upd_same, rfl, fun j y h => by simp at h⟩
theorem mapRow_step {r sa : Addr} {ns : List Int} {H1 H H4 : Hp} {D : Addr} {R : Nat → V → Prop} {i : Nat} {y : V} (h : MapRow K r sa ns H1 D R i H) (hr : RowAt K H1 r sa ns) (hD : H1 D = Option.none) (hz : i < sizeLine) (s : RK K r sa ns H H4) (q : R i y) :
    ∃ acc, H4 D = some (.lst acc) ∧ acc.length < sizeLine ∧ MapRow K r sa ns H1 D R (i + 1) (upd H4 D (.lst (acc ++ [y]))) := by
  obtain ⟨ys, h1, h2, h3, h4⟩ := h
  obtain ⟨zs, hrz⟩ := row_lst hr
  have nD : D ≠ r := fun e => by rw [e, hrz] at hD; cases hD
  have e4 := s.keep _ _ nD h2
  refine ⟨ys, e4, by rw [h3]; exact hz, ys ++ [y], ⟨fun b o nb e => ?_, ?_⟩, upd_same, by simp [h3], fun j z hz => ?_⟩
  · rw [upd_ne (ne_of_none e hD)]
    exact s.keep _ _ nb (h1.keep _ _ nb e)
  · obtain ⟨p, sd, e, hrow, hS, hb⟩ := s.row
    refine ⟨p, sd, e, (upd_ne (fun z => nD z.symm)).trans hrow, ?_, hb⟩
    obtain ⟨_, _, _, _, hS1, _⟩ := hr
    have ns' : (∃ o, H1 sa = some o) → sa ≠ D := fun ⟨o, z⟩ => ne_of_none z hD
    rcases hS with ⟨q | ⟨u, q⟩, n⟩ | q
    · rcases hS1 with ⟨w | ⟨u, w⟩, _⟩ | ⟨o, its, m, w, _⟩
      · exact .inl ⟨.inl ((upd_ne (ns' ⟨_, w⟩)).trans q), n⟩
      · exact .inl ⟨.inl ((upd_ne (ns' ⟨_, w⟩)).trans q), n⟩
      · exact .inr ⟨o, its, m, w, by assumption⟩
    · rcases hS1 with ⟨w | ⟨u', w⟩, _⟩ | ⟨o, its, m, w, _⟩
      · exact .inl ⟨.inr ⟨u, (upd_ne (ns' ⟨_, w⟩)).trans q⟩, n⟩
      · exact .inl ⟨.inr ⟨u, (upd_ne (ns' ⟨_, w⟩)).trans q⟩, n⟩
      · exact .inr ⟨o, its, m, w, by assumption⟩
    · exact .inr q
  · by_cases hj : j < ys.length
    · rw [List.getElem?_append_left hj] at hz
      exact h4 j z hz
    · rw [List.getElem?_append_right (by omega)] at hz
      have ej : j - ys.length = 0 := by
        by_cases q : j - ys.length = 0
        · exact q
        · rw [List.getElem?_eq_none (by simp; omega)] at hz; cases hz
      rw [ej] at hz
      simp at hz
      subst hz
      have : j = i := by omega
      subst this
      exact q
end

section
variable {P : Program} {w : World} {K : PySem.W.Frag} {mg : Str → Option Value} {base : Heap}
def sp_law_order (K : PySem.W.Frag) : Sp := fun vs H Q _ => ∃ (r sa : Addr) (ns : List Int) (n : Nat), vs = [.ref r, .int n] ∧ 1 ≤ n ∧ n ≤ 4 ∧ RowAt K H r sa ns ∧ ∀ o v H', OrdOk n o → Dp K H' v (oD o) → RK K r sa ns H H' → Q v H'
theorem ok_law_order (T : Txt K mg) : FnOk P w K mg base CX0 3 T.law_order.f T.law_order.fd P_law_order (sp_law_order K) := by
  refine T.law_order.F.ok sc_law_order (fun vs H Q E h => ?_) (fun cdv A outer s H vs Q E hr h => ?_)
  · obtain ⟨r, sa, ns, n, rfl, _⟩ := h; rfl
  · obtain ⟨r, sa, ns, n, rfl, hn, hn4, hrow, k⟩ := h
    refine ⟨_, (pss_cons (ps_set (i := 2) sc_law_order.nd rfl (Or.inl rfl) (pe_lst (pa_cons pe_str (pa_cons pe_str (pa_cons pe_str (pa_cons (pe_tup (pa_cons pe_str (pa_cons (pe_callTy (r := rTupOf K) call_tuple_of rfl T.n_tuple bo_tuple (pa_cons (pe_lc (own := [("at", 3)]) rfl sc_law_order.nd (pi_range1 rfl T.n_range (pa_cons (pv 1) pa_nil)) (blkOk_by (own := [("at", 3)]) (N := N_law_order) (sc := defScope s_law_order) (by decide +kernel)) (fun _ _ _ _ _ => (pg_name (i := 3) sc_law_order.nd rfl (Or.inl rfl))) (fun _ _ _ _ _ => pts_nil) (fun _ _ _ _ _ => (pe_op op_add pe_int (pe_call (ok_law_taken T) (hr.mono (by decide)) rfl T.law_taken.g T.law_taken.F.kp (b_law_taken T) .nil pass0 (pa_cons (pv 0) (pa_cons pe_int pa_nil)))))) pa_nil)) pa_nil))) pa_nil))))))
  (pss_cons (ps_set (i := 2) sc_law_order.nd rfl (Or.inl rfl) (pe_ifExp (pt_cmpR op_gt (pv 1) pe_int (nomark _)) (pe_op op_cat (pv 2) (pe_lst (pa_cons (pe_tup (pa_cons pe_str (pa_cons (pe_op op_add pe_int (pe_call (ok_law_taken T) (hr.mono (by decide)) rfl T.law_taken.g T.law_taken.F.kp (b_law_taken T) .nil pass0 (pa_cons (pv 0) (pa_cons (pe_op op_sub (pv 1) pe_int) pa_nil)))) pa_nil))) pa_nil))) (pv 2)))
  (pss_one (ps_ret (pe_call (ok_law_pick T) (hr.mono (by decide)) rfl T.law_pick.g T.law_pick.F.kp (b_law_pick T) .nil pass0 (pa_cons (pv 0) (pa_cons (pv 2) pa_nil))))))), ?_⟩
    walk_at "rd"
    refine ⟨(by omega), (by omega), fun D hD => ?_⟩
    rw [Int.toNat_natCast]
    refine lc_range (lo := 0) (n := n) (MapRow K r sa ns H D fun _ y => ∃ w : Int, y = .int w ∧ 1 ≤ w ∧ w ≤ 20) (mapRow_0 hrow hD) (fun i H1 hi hP => ?_) (fun H1 hP => ?_)
    · have hr1 : RowAt K H1 r sa ns := by obtain ⟨_, q, _⟩ := hP; exact q.row
      walk_at "rd"
      refine ⟨r, sa, ns, _, rfl, hr1, by omega, by omega, fun v H2 v0 v1 row2 b2 => ?_⟩
      walk_at "rd"
      exact mapRow_step hP hrow hD (by rw [sizeLine_eq]; omega) (.draw row2 b2) ⟨1 + v, rfl, by omega, by omega⟩
    obtain ⟨ys, q1, e1, n1, r1⟩ := hP
    obtain ⟨ws, ew, lw, hw⟩ : ∃ ws : List Int, ys = ws.map V.int ∧ ws.length = n ∧ ∀ w ∈ ws, 1 ≤ w ∧ w ≤ 20 := by
      clear e1
      have go : ∀ (ys : List V), (∀ y ∈ ys, ∃ w : Int, y = .int w ∧ 1 ≤ w ∧ w ≤ 20) → ∃ ws : List Int, ys = ws.map V.int ∧ ∀ w ∈ ws, 1 ≤ w ∧ w ≤ 20 := by
        intro ys
        induction ys with
        | nil => intro _; exact ⟨[], rfl, fun w hw => by simp at hw⟩
        | cons y ys ih =>
          intro h
          obtain ⟨ws, e, hw⟩ := ih fun y hy => h y (List.mem_cons_of_mem _ hy)
          obtain ⟨w, rfl, h1, h2⟩ := h y List.mem_cons_self
          refine ⟨w :: ws, by rw [e]; rfl, fun x hx => ?_⟩
          rcases List.mem_cons.mp hx with rfl | hx
          · exact ⟨h1, h2⟩
          · exact hw x hx
      obtain ⟨ws, e, hw⟩ := go ys fun y hy => by
        obtain ⟨j, hj, e⟩ := List.getElem_of_mem hy
        exact r1 j y (by rw [List.getElem?_eq_getElem hj, e])
      exact ⟨ws, e, by rw [← n1, e, List.length_map], hw⟩
    subst ew
    walk_at "rd"
    refine ⟨_, _, rfl, .inl ⟨.inl (.inl e1), fun p2 hp2 => ?_⟩⟩
    refine ⟨(show 2 ≤ sizeLine by decide), fun p3 hp3 => ⟨(show 4 ≤ sizeLine by decide), fun l hl => ?_⟩⟩
    have s3 : Same H1 (upd (upd (upd H1 p2 (.tup (ws.map V.int))) p3 (.tup [.str "weights", .ref p2])) l (.lst [.str "lex", .str "deglex", .str "degrevlex", .ref p3])) := Same.trans (same_upd hp2) (Same.trans (same_upd hp3) (same_upd hl))
    have rk3 := q1.trans (RK.of q1.row s3)
    have h2 : p2 ≠ p3 := ne_of_none upd_same hp3
    have h2l : p2 ≠ l := by
      have : (upd (upd H1 p2 (.tup (ws.map V.int))) p3 (.tup [.str "weights", .ref p2])) p2 = some (.tup (ws.map V.int)) := by rw [upd_ne h2, upd_same]
      exact ne_of_none this hl
    have h3l : p3 ≠ l := ne_of_none upd_same hl
    obtain ⟨H3, eH3⟩ : ∃ H3, H3 = upd (upd (upd H1 p2 (.tup (ws.map V.int))) p3 (.tup [.str "weights", .ref p2])) l (.lst [.str "lex", .str "deglex", .str "degrevlex", .ref p3]) := ⟨_, rfl⟩
    have a2 : H3 p2 = some (.tup (ws.map V.int)) := by rw [eH3, upd_ne h2l, upd_ne h2, upd_same]
    have a3 : H3 p3 = some (.tup [.str "weights", .ref p2]) := by rw [eH3, upd_ne h3l, upd_same]
    have al : H3 l = some (.lst [.str "lex", .str "deglex", .str "degrevlex", .ref p3]) := by rw [eH3]; exact upd_same
    rw [← eH3] at rk3 ⊢
    have four : ∀ v ∈ [V.str "lex", V.str "deglex", V.str "degrevlex", V.ref p3], ∃ o, OrdOk n o ∧ Dp K H3 v (oD o) := by
      intro v hv
      simp only [List.mem_cons, List.not_mem_nil, or_false] at hv
      rcases hv with rfl | rfl | rfl | rfl
      · exact ⟨.lex, trivial, .str _⟩
      · exact ⟨.deglex, trivial, .str _⟩
      · exact ⟨.drl, trivial, .str _⟩
      · exact ⟨.wts ws, ⟨lw, hw⟩, .tup (.inl (.inl a3)) (.cons (.str _) (.cons (.tup (.inl (.inl a2)) (dpAll_ints ws)) .nil))⟩
    walk_at "rd"
    obtain ⟨zs, hrz⟩ := row_lst rk3.row
    have pick : ∀ (l' : Addr) (xs : List V) (H4 : Hp) (σ : L2.St), σ[0]? = some (some (.ref r)) → σ[2]? = some (some (.ref l')) → RK K r sa ns H H4 → H4 l' = some (.lst xs) → l' ≠ r → 1 ≤ xs.length → xs.length ≤ 1000000000 → (∀ v ∈ xs, ∃ o, OrdOk n o ∧ Dp K H4 v (oD o)) →
        tCall (sp_law_pick K) [] E0 (tCons (tVar 0) (tCons (tVar 2) tNil)) σ H4 Q := by
      intro l' xs H4 σ g0 g2 rk4 e4 n4 h1 h9 hall
      refine ⟨_, g0, _, g2, ?_⟩
      refine ⟨r, sa, l', ns, xs, rfl, rk4.row, .inl (.inl e4), n4, h1, h9, fun v H5 hv row5 b5 => ?_⟩
      obtain ⟨o, ho, hd⟩ := hall v hv
      have rk5 : RK K r sa ns H4 H5 := .draw row5 b5
      exact k o v H5 ho (Dp.tp (rk5.tp rk4.row) _ _ (tOnly_ord o) hd) (rk4.trans rk5)
    have nlr : l ≠ r := fun z => by
      have q := rk3.keep
      subst z
      obtain ⟨p, sd, e, w, _⟩ := rk3.row
      rw [al] at w
      cases w
    refine iteD (fun h1 => ?_) (fun h1 => ?_)
    · walk_at "rd"
      refine ⟨r, sa, ns, _, rfl, rk3.row, by omega, by omega, fun v H4 v0 v1 row4 b4 => ?_⟩
      have rk4 : RK K r sa ns H3 H4 := .draw row4 b4
      walk_at "rd"
      refine ⟨(show 2 ≤ sizeLine by decide), fun q hq => ⟨(show 1 ≤ sizeLine by decide), fun l2 hl2 => ?_⟩⟩
      have s5 : Same H4 (upd (upd H4 q (.tup [.str "block", .int (1 + v)])) l2 (.lst [.ref q])) := Same.trans (same_upd hq) (same_upd hl2)
      refine ⟨_, _, _, _, rfl, rfl, s5 _ _ (rk4.keep _ _ nlr al), upd_same, (show 5 ≤ sizeLine by decide), fun l3 hl3 => ?_⟩
      have s6 : Same H4 (upd (upd (upd H4 q (.tup [.str "block", .int (1 + v)])) l2 (.lst [.ref q])) l3 (.lst ([.str "lex", .str "deglex", .str "degrevlex", .ref p3] ++ [.ref q]))) := Same.trans s5 (same_upd hl3)
      have rk6 := rk3.trans (rk4.trans (RK.of row4 s6))
      have n3r : l3 ≠ r := fun z => by
        obtain ⟨xs9, w⟩ := row_lst row4
        rw [z, s5 _ _ w] at hl3
        cases hl3
      have hq6 := s6 q
      refine pick l3 _ _ _ rfl rfl rk6 upd_same n3r (by simp) (by simp) fun x hx => ?_
      rcases List.mem_append.mp hx with hx | hx
      · obtain ⟨o, ho, hd⟩ := four x hx
        exact ⟨o, ho, Dp.tp (tp_same s6) _ _ (tOnly_ord o) (Dp.tp (rk4.tp rk3.row) _ _ (tOnly_ord o) hd)⟩
      · have ex : x = .ref q := by simpa using hx
        subst ex
        have q2 : q ≠ l2 := ne_of_none upd_same hl2
        have q3 : (upd (upd H4 q (.tup [.str "block", .int (1 + v)])) l2 (.lst [.ref q])) q = some (.tup [.str "block", .int (1 + v)]) := by rw [upd_ne q2, upd_same]
        refine ⟨.block (1 + v).toNat, ⟨by omega, by omega⟩, .tup (.inl (.inl ?_)) (.cons (.str _) (.cons (.int _) .nil))⟩
        rw [upd_ne (ne_of_none q3 hl3), q3]
        congr 4
        show V.int (1 + v) = V.int (((1 + v).toNat : Nat) : Int)
        congr 1
        omega
    · exact ⟨_, rfl, pick l _ H3 (List.set (List.set (L2.start N_law_order [V.ref r, V.int n]) 2 (some (V.ref l))) 2 (some (.ref l))) rfl rfl rk3 al nlr (by simp) (by simp) four⟩
end

section
variable {P : Program} {w : World} {K : PySem.W.Frag} {mg : Str → Option Value} {base : Heap}
theorem new_ne {H : Hp} {r sa l : Addr} {ns : List Int} (h : RowAt K H r sa ns) (hl : H l = Option.none) : l ≠ r := fun z => by
  obtain ⟨xs, w⟩ := row_lst h
  rw [z, w] at hl
  cases hl
def sp_law_ring (K : PySem.W.Frag) : Sp := fun vs H Q _ => ∃ (r sa : Addr) (ns : List Int) (n : Nat), vs = [.ref r, .int n] ∧ 1 ≤ n ∧ n ≤ 4 ∧ RowAt K H r sa ns ∧ ∀ f o v H', FieldOk f → OrdOk n o → Dp K H' v (rgD f n o) → RK K r sa ns H H' → Q v H'
theorem ok_law_ring (T : Txt K mg) : FnOk P w K mg base CX0 4 T.law_ring.f T.law_ring.fd P_law_ring (sp_law_ring K) := by
  refine T.law_ring.F.ok sc_law_ring (fun vs H Q E h => ?_) (fun cdv A outer s H vs Q E hr h => ?_)
  · obtain ⟨r, sa, ns, n, rfl, _⟩ := h; rfl
  · obtain ⟨r, sa, ns, n, rfl, hn, hn4, hrow, k⟩ := h
    refine ⟨_, (pss_one (ps_ret (pe_tup (pa_cons (pe_call (ok_law_pick T) (hr.mono (by decide)) rfl T.law_pick.g T.law_pick.F.kp (b_law_pick T) .nil pass0 (pa_cons (pv 0) (pa_cons (pe_lst (pa_cons pe_int (pa_cons pe_int (pa_cons pe_int (pa_cons pe_int (pa_cons pe_int (pa_cons pe_int (pa_cons pe_int (pa_cons pe_int (pa_cons pe_int (pa_cons pe_int pa_nil))))))))))) pa_nil))) (pa_cons (pv 1) (pa_cons (pe_call (ok_law_order T) (hr.mono (by decide)) rfl T.law_order.g T.law_order.F.kp (b_law_order T) .nil pass0 (pa_cons (pv 0) (pa_cons (pv 1) pa_nil))) pa_nil)))))), ?_⟩
    walk_at "rd"
    refine ⟨(show 10 ≤ sizeLine by decide), fun l hl => ?_⟩
    have s1 := same_upd (o := .lst ([0, 0, 2, 2, 3, 3, 5, 5, 7, 31].map V.int)) hl
    refine ⟨r, sa, l, ns, [0, 0, 2, 2, 3, 3, 5, 5, 7, 31].map V.int, rfl, hrow.sm s1, .inl (.inl upd_same), new_ne hrow hl, by decide, by decide, fun v H2 hv row2 b2 => ?_⟩
    obtain ⟨f, hf, rfl⟩ := List.mem_map.mp hv
    have hF : FieldOk f := by
      simp only [List.mem_cons, List.not_mem_nil, or_false] at hf
      unfold FieldOk
      omega
    have rk2 : RK K r sa ns H H2 := (RK.of hrow s1).trans (.draw row2 b2)
    walk_at "rd"
    refine ⟨r, sa, ns, n, rfl, hn, hn4, row2, fun o ov H3 ho hov rk3 => ?_⟩
    walk_at "rd"
    refine ⟨(show 3 ≤ sizeLine by decide), fun p hp => ?_⟩
    have s4 := same_upd (o := .tup [.int f, .int n, ov]) hp
    exact k f o _ _ hF ho (.tup (.inl (.inl upd_same)) (.cons (.int _) (.cons (.int _) (.cons (Dp.same s4 _ _ hov) .nil)))) (rk2.trans (rk3.trans (.of rk3.row s4)))
/-- the total, then the places from behind, each negated -/
def rvD (ms : List Int) : PyData := .tuple [.int ms.sum, rD (ms.reverse.map fun e => 0 - e)]
def sp_law_revlex (K : PySem.W.Frag) : Sp := fun vs H Q _ => ∃ (M : Addr) (ms : List Int), vs = [.ref M] ∧ SqT K H M (ms.map V.int) ∧ ms.length ≤ 4 ∧ ∀ v H', Same H H' → Dp K H' v (rvD ms) → Q v H'
theorem ok_law_revlex (T : Txt K mg) : FnOk P w K mg base CX0 1 T.law_revlex.f T.law_revlex.fd P_law_revlex (sp_law_revlex K) := by
  refine T.law_revlex.F.ok sc_law_revlex (fun vs H Q E h => ?_) (fun cdv A outer s H vs Q E hr h => ?_)
  · obtain ⟨M, ms, rfl, _⟩ := h; rfl
  · obtain ⟨M, ms, rfl, hM, hl, k⟩ := h
    refine ⟨_, (pss_one (ps_ret (pe_tup (pa_cons (pe_callB (r := rSumS K) (cr_sumS rfl) rfl T.n_sum bo_sum (pa_cons (pv 0) pa_nil)) (pa_cons (pe_callTy (r := rTupOf K) call_tuple_of rfl T.n_tuple bo_tuple (pa_cons (pe_lc (own := [("exponent", 1)]) rfl sc_law_revlex.nd (pi_tup (pe_revT (pv 0))) (blkOk_by (own := [("exponent", 1)]) (N := N_law_revlex) (sc := defScope s_law_revlex) (by decide +kernel)) (fun _ _ _ _ _ => (pg_name (i := 1) sc_law_revlex.nd rfl (Or.inl rfl))) (fun _ _ _ _ _ => pts_nil) (fun _ _ _ _ _ => (pe_op op_sub pe_int (pv 1)))) pa_nil)) pa_nil))))), ?_⟩
    walk_at "rd"
    refine ⟨M, ms, rfl, .inr hM, ?_⟩
    walk_at "rd"
    refine ⟨M, ms.map V.int, rfl, hM, fun q hq => ?_⟩
    have s1 := same_upd (o := .tup (ms.map V.int).reverse) hq
    walk_at "rd"
    refine ⟨⟨_, .inl (.inl upd_same)⟩, fun D hD => ?_⟩
    obtain ⟨H1, eH1⟩ : ∃ H1, H1 = upd H q (.tup (ms.map V.int).reverse) := ⟨_, rfl⟩
    have hq1 : H1 q = some (.tup (ms.map V.int).reverse) := by rw [eH1]; exact upd_same
    rw [← eH1] at s1 hD ⊢
    refine lc_tup (K := K) (a := q) (xs := (ms.map V.int).reverse) (MapAt H1 D fun j y _ => y = .int (0 - ms.reverse.getD j 0)) (mapAt_0 hD) (fun i H2 _ z => by obtain ⟨_, z, _⟩ := z; exact .inl (.inl (z _ _ hq1))) (fun i x H2 hx hP => ?_) (fun H2 hP => ?_)
    · have hi : i < ms.length := by have := (List.getElem?_eq_some_iff.mp hx).1; simpa using this
      rw [← List.map_reverse, List.getElem?_map, List.getElem?_eq_getElem (by simpa using hi)] at hx
      obtain rfl := Option.some.inj hx
      walk_at "rd"
      refine mapAt_step hP hD (by rw [sizeLine_eq]; omega) (Same.refl _) (fun _ _ _ _ h _ => h) ?_
      rw [List.getD_eq_getElem?_getD, List.getElem?_eq_getElem (by simpa using hi)]
      rfl
    obtain ⟨ys, s2, e2, n2, r2⟩ := hP
    have ey : ys = (ms.reverse.map fun e => 0 - e).map V.int := by
      have n2' : ys.length = ms.length := by simpa using n2
      rw [items_eq (f := fun j => V.int (0 - ms.reverse.getD j 0)) n2' r2]
      refine List.ext_getElem? fun i => ?_
      by_cases hi : i < ms.length
      · rw [List.getElem?_map, List.getElem?_range hi, List.getElem?_map, List.getElem?_map, List.getElem?_eq_getElem (by simpa using hi)]
        simp only [Option.map_some, List.getD_eq_getElem?_getD]
        rw [List.getElem?_eq_getElem (by simpa using hi)]
        rfl
      · rw [List.getElem?_eq_none (by simp; omega), List.getElem?_eq_none (by simp; omega)]
    subst ey
    walk_at "rd"
    refine ⟨_, _, rfl, .inl ⟨.inl (.inl e2), fun l hl' => ?_⟩⟩
    refine ⟨(show 2 ≤ sizeLine by decide), fun p hp => ?_⟩
    have s4 := same_upd (o := .tup [.int ms.sum, .ref l]) hp
    exact k _ _ (Same.trans s1 (Same.trans s2 (Same.trans (same_upd hl') s4))) (.tup (.inl (.inl upd_same)) (.cons (.int _) (.cons (dp_ints (.inl (.inl (s4 _ _ upd_same)))) .nil)))
end

section
variable {P : Program} {w : World} {K : PySem.W.Frag} {mg : Str → Option Value} {base : Heap}
theorem RowAt.upd_new {H H1 : Hp} {r sa l : Addr} {ns : List Int} {o : HO} (hr : RowAt K H r sa ns) (hl : H l = Option.none) (h : RowAt K H1 r sa ns) : RowAt K (upd H1 l o) r sa ns := by
  obtain ⟨zs, hrz⟩ := row_lst hr
  have nD : l ≠ r := fun e => by rw [e, hrz] at hl; cases hl
  obtain ⟨p, sd, e, hrow, hS, hb⟩ := h
  refine ⟨p, sd, e, (upd_ne (fun z => nD z.symm)).trans hrow, ?_, hb⟩
  obtain ⟨_, _, _, _, hS1, _⟩ := hr
  have ns' : (∃ o, H sa = some o) → sa ≠ l := fun ⟨o, z⟩ => ne_of_none z hl
  rcases hS with ⟨q | ⟨u, q⟩, n⟩ | q
  · rcases hS1 with ⟨w | ⟨u, w⟩, _⟩ | ⟨o, its, m, w, _⟩
    · exact .inl ⟨.inl ((upd_ne (ns' ⟨_, w⟩)).trans q), n⟩
    · exact .inl ⟨.inl ((upd_ne (ns' ⟨_, w⟩)).trans q), n⟩
    · exact .inr ⟨o, its, m, w, by assumption⟩
  · rcases hS1 with ⟨w | ⟨u', w⟩, _⟩ | ⟨o, its, m, w, _⟩
    · exact .inl ⟨.inr ⟨u, (upd_ne (ns' ⟨_, w⟩)).trans q⟩, n⟩
    · exact .inl ⟨.inr ⟨u, (upd_ne (ns' ⟨_, w⟩)).trans q⟩, n⟩
    · exact .inr ⟨o, its, m, w, by assumption⟩
  · exact .inr q
theorem RK.upd_new {H H1 : Hp} {r sa l : Addr} {ns : List Int} {o : HO} (hr : RowAt K H r sa ns) (hl : H l = Option.none) (h : RK K r sa ns H H1) : RK K r sa ns H (upd H1 l o) :=
  ⟨fun b u n e => (upd_ne (ne_of_none e hl)).trans (h.keep b u n e), hr.upd_new hl h.row⟩
theorem at_last {es : List V} {x : V} : atI (es ++ [x]) (-1) = some x := by
  unfold atI ixN
  rw [if_neg (by decide)]
  simp only [List.length_append, List.length_cons, List.length_nil]
  rw [if_pos (by omega)]
  show (es ++ [x])[_]? = some x
  rw [show ((-1 : Int) + ((es.length + (0 + 1) : Nat) : Int)).toNat = es.length by omega, List.getElem?_append_right (by omega), Nat.sub_self]
  rfl
theorem cut_from (xs : List V) (k : Nat) (h : k ≤ xs.length) : cutV xs (some (k : Int)) none = xs.drop k := by
  unfold cutV
  rw [HT.sIx_nat, HT.sIx_none, Nat.min_eq_left h]
  exact List.take_of_length_le (by simp)
theorem cut_to (xs : List V) (k : Nat) (h : k ≤ xs.length) : cutV xs none (some (k : Int)) = xs.take k := by
  unfold cutV
  rw [HT.sIx_nat, HT.sIx_none, Nat.min_eq_left h]
  simp
/-- a monomial of at most a degree -/
def MonD (n : Nat) (m : Int) (es : List Int) : Prop := es.length = n ∧ (∀ e ∈ es, 0 ≤ e) ∧ es.sum ≤ m
def sp_law_mono (K : PySem.W.Frag) : Sp := fun vs H Q _ => ∃ (r sa : Addr) (ns : List Int) (n : Nat) (m : Int), vs = [.ref r, .int n, .int m] ∧ 1 ≤ n ∧ n ≤ 4 ∧ 0 ≤ m ∧ m ≤ 60 ∧ RowAt K H r sa ns ∧
  ∀ es p H', MonD n m es → RK K r sa ns H H' → H' p = some (.tup (es.map V.int)) → Q (.ref p) H'
theorem ok_law_mono (T : Txt K mg) : FnOk P w K mg base CX0 2 T.law_mono.f T.law_mono.fd P_law_mono (sp_law_mono K) := by
  refine T.law_mono.F.ok sc_law_mono (fun vs H Q E h => ?_) (fun cdv A outer s H vs Q E hr h => ?_)
  · obtain ⟨r, sa, ns, n, m, rfl, _⟩ := h; rfl
  · obtain ⟨r, sa, ns, n, m, rfl, hn, hn4, hm, hm60, hrow, k⟩ := h
    refine ⟨_, (pss_cons (ps_par rfl sc_law_mono.nd (i := 3) (j := 4) rfl rfl (by decide) rfl rfl (pa_cons (pe_lst pa_nil) (pa_cons (pe_call (ok_law_taken T) (hr.mono (by decide)) rfl T.law_taken.g T.law_taken.F.kp (b_law_taken T) .nil pass0 (pa_cons (pv 0) (pa_cons (pe_op op_add (pv 2) pe_int) pa_nil))) pa_nil)) rfl)
  (pss_cons (ps_for PassesOwn.never rfl (pi_range1 rfl T.n_range (pa_cons (pe_op op_sub (pv 1) pe_int) pa_nil)) (pg_name (i := 5) sc_law_mono.nd rfl (Or.inl rfl)) (pss_cons (ps_expr (pe_bm PySem.F.plainAttrs_list PySem.F.slot_list_append PySem.F.type_list_append mt_append (pv 3) (pa_cons (pe_call (ok_law_taken T) (hr.mono (by decide)) rfl T.law_taken.g T.law_taken.F.kp (b_law_taken T) .nil pass0 (pa_cons (pv 0) (pa_cons (pe_op op_add (pv 4) pe_int) pa_nil))) pa_nil)))
  (pss_one (ps_set (i := 4) sc_law_mono.nd rfl (Or.inl rfl) (pe_op op_sub (pv 4) (pe_ix (r := rIxL K) ix_list (pv 3) (pe_un un_neg pe_int) (fun _ _ => rfl)))))))
  (pss_cons (ps_set (i := 5) sc_law_mono.nd rfl (Or.inl rfl) (pe_call (ok_law_taken T) (hr.mono (by decide)) rfl T.law_taken.g T.law_taken.F.kp (b_law_taken T) .nil pass0 (pa_cons (pv 0) (pa_cons (pv 1) pa_nil))))
  (pss_cons (ps_set (i := 3) sc_law_mono.nd rfl (Or.inl rfl) (pe_op op_cat (pv 3) (pe_lst (pa_cons (pv 4) pa_nil))))
  (pss_one (ps_ret (pe_callTy (r := rTupOf K) call_tuple_of rfl T.n_tuple bo_tuple (pa_cons (pe_op op_cat (pe_slice (r := rSlL K) sl_list (pv 3) (po_some (pv 5)) po_none) (pe_slice (r := rSlL K) sl_list (pv 3) po_none (po_some (pv 5)))) pa_nil)))))))), ?_⟩
    walk_at "rd"
    refine ⟨by decide, fun l hl => ?_⟩
    have s1 := same_upd (o := .lst []) hl
    have hnr := new_ne hrow hl
    walk_at "rd"
    refine ⟨r, sa, ns, _, rfl, hrow.sm s1, by omega, by omega, fun v H2 v0 v1 row2 b2 => ?_⟩
    have rk2 : RK K r sa ns H H2 := (RK.of hrow s1).trans (.draw row2 b2)
    have el2 : H2 l = some (.lst []) := (b2 l hnr).trans upd_same
    walk_at "rd"
    refine ⟨(by omega), (by omega), ?_⟩
    rw [show ((n : Int) - 1).toNat = n - 1 by omega]
    refine for_range (lo := 0) (n := n - 1) (fun i σ H1 => ∃ (es : List Int) (left : Int) (y : Option V), σ = [some (.ref r), some (.int n), some (.int m), some (.ref l), some (.int left), y] ∧ RK K r sa ns H H1 ∧ H1 l = some (.lst (es.map V.int)) ∧ es.length = i ∧ (∀ e ∈ es, 0 ≤ e) ∧ 0 ≤ left ∧ es.sum + left ≤ m)
      ⟨[], v, _, rfl, rk2, el2, rfl, fun e he => by simp at he, v0, by simp; omega⟩ (fun i σ H1 hi q => ?_) (fun σ H1 q => ?_)
    · obtain ⟨es, left, y, rfl, rk1, e1, l1, p1, q1, t1⟩ := q
      have bl : es.sum ≥ 0 := by
        clear e1 l1 t1
        induction es with
        | nil => exact Int.le_refl _
        | cons x l ih =>
          have := ih fun e he => p1 e (List.mem_cons_of_mem _ he)
          have := p1 x List.mem_cons_self
          rw [List.sum_cons]; omega
      walk_at "rd"
      refine ⟨.inl ⟨rfl, _, .inl (.inl e1)⟩, ?_⟩
      walk_at "rd"
      refine ⟨r, sa, ns, _, rfl, rk1.row, by omega, by omega, fun u H3 u0 u1 row3 b3 => ?_⟩
      have rk3 := rk1.trans (.draw row3 b3)
      have e3 : H3 l = some (.lst (es.map V.int)) := (b3 l hnr).trans e1
      refine ⟨_, _, _, rfl, rfl, e3, by rw [List.length_map, sizeLine_eq]; omega, ?_⟩
      walk_at "rd"
      refine ⟨_, _, _, _, rfl, rfl, .inl (.inl upd_same), at_last, ?_⟩
      walk_at "rd"
      refine ⟨es ++ [u], left - u, _, rfl, rk3.upd_new hrow hl, ?_, by simp [l1], fun e he => ?_, by omega, by simp; omega⟩
      · rw [upd_same]; simp
      · rcases List.mem_append.mp he with he | he
        · exact p1 e he
        · have : e = u := by simpa using he
          omega
    · obtain ⟨es, left, y, rfl, rk1, e1, l1, p1, q1, t1⟩ := q
      walk_at "rd"
      refine ⟨r, sa, ns, _, rfl, rk1.row, by omega, by omega, fun u H3 u0 u1 row3 b3 => ?_⟩
      have rk3 := rk1.trans (.draw row3 b3)
      have e3 : H3 l = some (.lst (es.map V.int)) := (b3 l hnr).trans e1
      obtain ⟨c, rfl⟩ := Int.eq_ofNat_of_zero_le u0
      walk_at "rd"
      refine ⟨(show 1 ≤ sizeLine by decide), fun q hq => ?_⟩
      have s4 := same_upd (o := .lst [V.int left]) hq
      refine ⟨_, _, _, _, rfl, rfl, s4 _ _ e3, upd_same, by simp [sizeLine_eq, l1]; omega, fun g hg => ?_⟩
      have s5 := Same.trans s4 (same_upd (o := .lst (es.map V.int ++ [V.int left])) hg)
      have hes : (es.map V.int ++ [V.int left]) = (es ++ [left]).map V.int := by simp
      have hlen : (es ++ [left]).length = n := by simp [l1]; omega
      have hpm : ∀ e ∈ es ++ [left], 0 ≤ e := fun e he => by
        rcases List.mem_append.mp he with he | he
        · exact p1 e he
        · have : e = left := by simpa using he
          omega
      have hsm : (es ++ [left]).sum ≤ m := by simp; omega
      have hc : c ≤ (es ++ [left]).length := by omega
      obtain ⟨H5, eH5⟩ : ∃ H5, H5 = upd (upd H3 q (.lst [V.int left])) g (.lst (es.map V.int ++ [V.int left])) := ⟨_, rfl⟩
      have eg5 : H5 g = some (.lst ((es ++ [left]).map V.int)) := by rw [eH5, upd_same, hes]
      rw [← eH5] at s5 ⊢
      clear eH5
      walk_at "rd"
      refine ⟨g, _, rfl, .inl (.inl eg5), fun x hx => ?_⟩
      rw [cut_from _ c (by rw [List.length_map]; exact hc)]
      have s6 := same_upd (o := .lst (((es ++ [left]).map V.int).drop c)) hx
      walk_at "rd"
      refine ⟨g, _, rfl, .inl (.inl (s6 _ _ eg5)), fun z hz => ?_⟩
      rw [cut_to _ c (by rw [List.length_map]; exact hc)]
      have s7 := same_upd (o := .lst (((es ++ [left]).map V.int).take c)) hz
      refine ⟨_, _, _, _, rfl, rfl, s7 _ _ upd_same, upd_same, by simp [sizeLine_eq, l1]; omega, fun u hu => ?_⟩
      walk_at "rd"
      refine ⟨_, _, rfl, .inl ⟨.inl (.inl upd_same), fun t ht => ?_⟩⟩
      have rot : ((es ++ [left]).map V.int).drop c ++ ((es ++ [left]).map V.int).take c = ((es ++ [left]).drop c ++ (es ++ [left]).take c).map V.int := by
        generalize es ++ [left] = w
        rw [List.map_append, List.map_drop, List.map_take]
      refine k ((es ++ [left]).drop c ++ (es ++ [left]).take c) t _ ⟨?_, fun e he => ?_, ?_⟩ (rk3.trans (.of rk3.row (Same.trans (Same.trans s5 s6) (Same.trans s7 (Same.trans (same_upd hu) (same_upd ht)))))) ?_
      · rw [List.length_append, List.length_drop, List.length_take, hlen]; omega
      · rcases List.mem_append.mp he with he | he
        · exact hpm e (List.mem_of_mem_drop he)
        · exact hpm e (List.mem_of_mem_take he)
      · have e1 : (es ++ [left]).sum = ((es ++ [left]).take c).sum + ((es ++ [left]).drop c).sum := by
          conv => lhs; rw [← List.take_append_drop c (es ++ [left])]
          rw [List.sum_append]
        rw [List.sum_append]
        omega
      · rw [upd_same, rot]
end

/-! ### monomials' numbers, digit by digit -/
def lexS : List Int → List Int → Int
  | x :: xs, y :: ys => if x = y then lexS xs ys else if y < x then 1 else -1
  | _, _ => 0
def dig (rs : List (List Int)) (ms : List Int) : List Int := rs.map fun r => dotZ ms r
def foldP (t : Int) (l : List Int) : Int := l.foldl (fun t d => t * PLi + d) t
def dotF : Nat → List Int → (Nat → Int) → Int
  | _, [], _ => 0
  | p, m :: ms, f => m * f p + dotF (p + 1) ms f
theorem dotF_range (f : Nat → Int) : ∀ (ms : List Int) (p : Nat), dotZ ms ((List.range' p ms.length).map f) = dotF p ms f
  | [], _ => rfl
  | m :: ms, p => by
    rw [List.length_cons, List.range'_succ, List.map_cons]
    show m * f p + dotZ ms _ = m * f p + _
    rw [dotF_range f ms (p + 1)]
theorem dotF_lin (f g : Nat → Int) (c : Int) : ∀ (ms : List Int) (p : Nat), dotF p ms (fun q => f q * c + g q) = dotF p ms f * c + dotF p ms g
  | [], _ => by simp [dotF]
  | m :: ms, p => by
    show m * (f p * c + g p) + dotF (p + 1) ms _ = (m * f p + dotF (p + 1) ms f) * c + (m * g p + dotF (p + 1) ms g)
    rw [dotF_lin f g c ms (p + 1)]
    grind
theorem dotF_zero : ∀ (ms : List Int) (p : Nat), dotF p ms (fun _ => 0) = 0
  | [], _ => rfl
  | m :: ms, p => by
    show m * 0 + dotF (p + 1) ms _ = 0
    rw [dotF_zero ms (p + 1), Int.mul_zero]; rfl
theorem dotF_fold (ms : List Int) (p : Nat) : ∀ (rs : List (List Int)) (a : Nat → Int), dotF p ms (fun q => rs.foldl (fun t row => t * PLi + row.getD q 0) (a q)) = rs.foldl (fun t row => t * PLi + dotF p ms (fun q => row.getD q 0)) (dotF p ms a)
  | [], _ => rfl
  | r :: rs, a => by
    show dotF p ms (fun q => rs.foldl _ (a q * PLi + r.getD q 0)) = rs.foldl _ (dotF p ms a * PLi + dotF p ms fun q => r.getD q 0)
    rw [dotF_fold ms p rs fun q => a q * PLi + r.getD q 0, dotF_lin]
theorem dotF_row (row : List Int) : ∀ (ms : List Int) (p : Nat), row.length = p + ms.length → dotF p ms (fun q => row.getD q 0) = dotZ ms (row.drop p)
  | [], p, h => by
    rw [List.drop_eq_nil_of_le (by simp at h; omega)]; rfl
  | m :: ms, p, h => by
    have hp : p < row.length := by rw [h, List.length_cons]; omega
    rw [List.drop_eq_getElem_cons hp]
    show m * row.getD p 0 + _ = m * row[p] + dotZ ms (row.drop (p + 1))
    rw [dotF_row row ms (p + 1) (by rw [h, List.length_cons]; omega), List.getD_eq_getElem?_getD, List.getElem?_eq_getElem hp]
    rfl
theorem dotF_pow (n : Nat) : ∀ (ms : List Int) (p : Nat) (t : Int), n = p + ms.length → t * 2 ^ (48 * ms.length) + dotF p ms (fun q => 2 ^ (48 * (n - 1 - q))) = foldP t ms
  | [], _, t, _ => by simp [dotF, foldP]
  | m :: ms, p, t, h => by
    have ih := dotF_pow n ms (p + 1) (t * PLi + m) (by rw [h, List.length_cons]; omega)
    show _ + (m * 2 ^ (48 * (n - 1 - p)) + dotF (p + 1) ms _) = foldP (t * PLi + m) ms
    rw [← ih, show n - 1 - p = ms.length by rw [h, List.length_cons]; omega, List.length_cons, show 48 * (ms.length + 1) = 48 * ms.length + 48 by omega, Int.pow_add]
    have e : PLi = 2 ^ 48 := rfl
    rw [e]
    grind
theorem foldP_app (t : Int) (a b : List Int) : foldP t (a ++ b) = foldP (foldP t a) b := List.foldl_append
theorem code_fold {n : Nat} {rs : List (List Int)} {ms : List Int} (hm : ms.length = n) (hr : ∀ r ∈ rs, r.length = n) : dotZ ms (unitsL n rs) = foldP 0 (dig rs ms ++ ms) := by
  subst hm
  unfold unitsL
  rw [List.range_eq_range', dotF_range]
  have e : unitN ms.length rs = fun q => (rs.foldl (fun t row => t * PLi + row.getD q 0) 0) * 2 ^ (48 * ms.length) + 2 ^ (48 * (ms.length - 1 - q)) := rfl
  rw [e, dotF_lin, dotF_fold ms 0 rs fun _ => 0, dotF_pow ms.length ms 0 _ (by omega), foldP_app]
  congr 1
  rw [dotF_zero]
  unfold foldP dig
  rw [List.foldl_map]
  have go : ∀ (rs : List (List Int)) (t : Int), (∀ r ∈ rs, r.length = ms.length) → rs.foldl (fun t row => t * PLi + dotF 0 ms (fun q => row.getD q 0)) t = rs.foldl (fun t row => t * PLi + dotZ ms row) t := by
    intro rs
    induction rs with
    | nil => intro _ _; rfl
    | cons r rs ih =>
      intro t h
      simp only [List.foldl_cons]
      rw [dotF_row r ms 0 (by rw [h r List.mem_cons_self]; omega), List.drop_zero]
      exact ih _ fun q hq => h q (List.mem_cons_of_mem _ hq)
  exact go rs 0 hr
def Dg (l : List Int) : Prop := ∀ x ∈ l, 0 ≤ x ∧ x < PLi
theorem fold_lt : ∀ (xs ys : List Int) (t s : Int), t < s → xs.length = ys.length → Dg xs → Dg ys → foldP t xs < foldP s ys
  | [], [], t, s, h, _, _, _ => h
  | [], _ :: _, _, _, _, h, _, _ => by simp at h
  | _ :: _, [], _, _, _, h, _, _ => by simp at h
  | x :: xs, y :: ys, t, s, h, hl, hx, hy => by
    have h1 : 0 ≤ x ∧ x < 281474976710656 := by rw [← pli_eq]; exact hx x List.mem_cons_self
    have h2 : 0 ≤ y ∧ y < 281474976710656 := by rw [← pli_eq]; exact hy y List.mem_cons_self
    refine fold_lt xs ys (t * PLi + x) (s * PLi + y) ?_ (by simpa using hl) (fun z hz => hx z (List.mem_cons_of_mem _ hz)) (fun z hz => hy z (List.mem_cons_of_mem _ hz))
    rw [pli_eq]
    omega
theorem fold_sgn : ∀ (xs ys : List Int) (t : Int), xs.length = ys.length → Dg xs → Dg ys → sgn (foldP t xs - foldP t ys) = lexS xs ys
  | [], [], t, _, _, _ => by simp [foldP, sgn, lexS]
  | [], _ :: _, _, h, _, _ => by simp at h
  | _ :: _, [], _, h, _, _ => by simp at h
  | x :: xs, y :: ys, t, hl, hx, hy => by
    have hl' : xs.length = ys.length := by simpa using hl
    have hx' : Dg xs := fun z hz => hx z (List.mem_cons_of_mem _ hz)
    have hy' : Dg ys := fun z hz => hy z (List.mem_cons_of_mem _ hz)
    show sgn (foldP (t * PLi + x) xs - foldP (t * PLi + y) ys) = if x = y then lexS xs ys else if y < x then 1 else -1
    by_cases e : x = y
    · subst e
      rw [if_pos rfl]
      exact fold_sgn xs ys _ hl' hx' hy'
    · rw [if_neg e]
      by_cases g : y < x
      · have := fold_lt ys xs (t * PLi + y) (t * PLi + x) (by omega) hl'.symm hy' hx'
        rw [if_pos g]
        unfold sgn
        rw [if_neg (by omega), if_pos (by omega)]
      · have := fold_lt xs ys (t * PLi + x) (t * PLi + y) (by omega) hl' hx' hy'
        rw [if_neg g]
        unfold sgn
        rw [if_neg (by omega), if_neg (by omega)]
theorem lexS_app : ∀ (a b c d : List Int), a.length = b.length → lexS (a ++ c) (b ++ d) = if lexS a b = 0 then lexS c d else lexS a b
  | [], [], c, d, _ => by simp [lexS]
  | [], _ :: _, _, _, h => by simp at h
  | _ :: _, [], _, _, h => by simp at h
  | x :: a, y :: b, c, d, h => by
    have ih := lexS_app a b c d (by simpa using h)
    show (if x = y then lexS (a ++ c) (b ++ d) else _) = if (if x = y then lexS a b else _) = 0 then _ else (if x = y then lexS a b else _)
    by_cases e : x = y
    · rw [if_pos e, if_pos e]; exact ih
    · rw [if_neg e, if_neg e]
      split <;> simp
theorem lexS_zero : ∀ {a b : List Int}, a.length = b.length → lexS a b = 0 → a = b
  | [], [], _, _ => rfl
  | [], _ :: _, h, _ => by simp at h
  | _ :: _, [], h, _ => by simp at h
  | x :: a, y :: b, h, z => by
    have z : (if x = y then lexS a b else if y < x then 1 else -1) = 0 := z
    by_cases e : x = y
    · rw [if_pos e] at z
      rw [e, lexS_zero (by simpa using h) z]
    · rw [if_neg e] at z
      split at z <;> simp at z
theorem lexS_self : ∀ a : List Int, lexS a a = 0
  | [] => rfl
  | x :: a => by
    show (if x = x then lexS a a else _) = 0
    rw [if_pos rfl]; exact lexS_self a
theorem lexS_neg : ∀ a b : List Int, lexS b a = - lexS a b
  | [], [] => rfl
  | [], _ :: _ => rfl
  | _ :: _, [] => rfl
  | x :: a, y :: b => by
    show (if y = x then lexS b a else if x < y then 1 else -1) = -(if x = y then lexS a b else if y < x then 1 else -1)
    by_cases e : x = y
    · rw [if_pos e, if_pos e.symm]; exact lexS_neg a b
    · rw [if_neg e, if_neg (Ne.symm e)]
      by_cases g : y < x
      · rw [if_pos g, if_neg (by omega)]
      · rw [if_neg g, if_pos (by omega)]; rfl
theorem lexS_three : ∀ a b : List Int, lexS a b = 0 ∨ lexS a b = 1 ∨ lexS a b = -1
  | [], [] => .inl rfl
  | [], _ :: _ => .inl rfl
  | _ :: _, [] => .inl rfl
  | x :: a, y :: b => by
    have ih := lexS_three a b
    show (if x = y then lexS a b else if y < x then 1 else -1) = 0 ∨ (if x = y then lexS a b else if y < x then 1 else -1) = 1 ∨ (if x = y then lexS a b else if y < x then 1 else -1) = -1
    split
    · exact ih
    · split
      · exact .inr (.inl rfl)
      · exact .inr (.inr rfl)
theorem dot_comm : ∀ a b : List Int, dotZ a b = dotZ b a
  | [], [] => rfl
  | [], _ :: _ => rfl
  | _ :: _, [] => rfl
  | x :: a, y :: b => by
    show x * y + dotZ a b = y * x + dotZ b a
    rw [dot_comm a b, Int.mul_comm]
theorem dot_bound : ∀ (ms r : List Int), (∀ e ∈ ms, 0 ≤ e) → (∀ e ∈ r, 0 ≤ e ∧ e ≤ 20) → 0 ≤ dotZ ms r ∧ dotZ ms r ≤ 20 * ms.sum
  | [], [], _, _ => by simp [dotZ]
  | [], _ :: _, _, _ => by simp [dotZ]
  | m :: ms, [], h, _ => by
    have : ∀ l : List Int, (∀ e ∈ l, 0 ≤ e) → 0 ≤ l.sum := by
      intro l
      induction l with
      | nil => intro _; exact Int.le_refl _
      | cons x l ih =>
        intro h
        have := ih fun e he => h e (List.mem_cons_of_mem _ he)
        have := h x List.mem_cons_self
        rw [List.sum_cons]; omega
    have := this _ h
    simp [dotZ] at *
    omega
  | m :: ms, x :: r, h, g => by
    have ih := dot_bound ms r (fun e he => h e (List.mem_cons_of_mem _ he)) fun e he => g e (List.mem_cons_of_mem _ he)
    have h0 := h m List.mem_cons_self
    have g0 := g x List.mem_cons_self
    have p1 : 0 ≤ m * x := Int.mul_nonneg h0 g0.1
    have p2 : m * x ≤ m * 20 := Int.mul_le_mul_of_nonneg_left g0.2 h0
    show 0 ≤ m * x + dotZ ms r ∧ m * x + dotZ ms r ≤ 20 * (m :: ms).sum
    rw [List.sum_cons]
    omega
theorem dot_add : ∀ (a m r : List Int), a.length = m.length → dotZ (List.zipWith (· + ·) a m) r = dotZ a r + dotZ m r
  | [], [], r, _ => by cases r <;> rfl
  | [], _ :: _, _, h => by simp at h
  | _ :: _, [], _, h => by simp at h
  | x :: a, y :: m, [], _ => rfl
  | x :: a, y :: m, z :: r, h => by
    show (x + y) * z + dotZ (List.zipWith (· + ·) a m) r = x * z + dotZ a r + (y * z + dotZ m r)
    rw [dot_add a m r (by simpa using h)]
    grind
theorem lexS_step {x y x' y' : Int} {xs ys xs' ys' : List Int} (h : x - y = x' - y') (t : x = y → lexS xs ys = lexS xs' ys') : lexS (x :: xs) (y :: ys) = lexS (x' :: xs') (y' :: ys') := by
  show (if x = y then lexS xs ys else if y < x then 1 else -1) = (if x' = y' then lexS xs' ys' else if y' < x' then 1 else -1)
  by_cases e : x = y
  · rw [if_pos e, if_pos (show x' = y' by omega)]; exact t e
  · rw [if_neg e, if_neg (show ¬ x' = y' by omega)]
    by_cases g : y < x
    · rw [if_pos g, if_pos (show y' < x' by omega)]
    · rw [if_neg g, if_neg (show ¬ y' < x' by omega)]
theorem lexS_dig_add {a b m : List Int} (ha : a.length = m.length) (hb : b.length = m.length) : ∀ rs : List (List Int), lexS (dig rs (List.zipWith (· + ·) a m)) (dig rs (List.zipWith (· + ·) b m)) = lexS (dig rs a) (dig rs b)
  | [] => rfl
  | r :: rs => by
    refine lexS_step ?_ fun _ => lexS_dig_add ha hb rs
    show dotZ (List.zipWith (· + ·) a m) r - dotZ (List.zipWith (· + ·) b m) r = dotZ a r - dotZ b r
    rw [dot_add a m r ha, dot_add b m r hb]
    omega
theorem lexS_dig_up {a m : List Int} (ha : a.length = m.length) (h0 : ∀ e ∈ a, 0 ≤ e) : ∀ rs : List (List Int), (∀ r ∈ rs, ∀ e ∈ r, 0 ≤ e ∧ e ≤ 20) → lexS (dig rs (List.zipWith (· + ·) a m)) (dig rs m) = 1 ∨ (lexS (dig rs (List.zipWith (· + ·) a m)) (dig rs m) = 0)
  | [], _ => .inr rfl
  | r :: rs, h => by
    have h1 := (dot_bound a r h0 (h r List.mem_cons_self)).1
    show (if dotZ (List.zipWith (· + ·) a m) r = dotZ m r then lexS (dig rs (List.zipWith (· + ·) a m)) (dig rs m) else if dotZ m r < dotZ (List.zipWith (· + ·) a m) r then 1 else -1) = 1 ∨ (if dotZ (List.zipWith (· + ·) a m) r = dotZ m r then lexS (dig rs (List.zipWith (· + ·) a m)) (dig rs m) else if dotZ m r < dotZ (List.zipWith (· + ·) a m) r then 1 else -1) = 0
    rw [dot_add a m r ha]
    by_cases e : dotZ a r = 0
    · rw [if_pos (by omega)]
      exact lexS_dig_up ha h0 rs fun q hq => h q (List.mem_cons_of_mem _ hq)
    · rw [if_neg (by omega), if_pos (by omega)]
      exact .inl rfl

/-! ### keys of monomials, as data and as rows of ints -/
/-- two data that compare as two rows of ints do -/
structure Ky (d e : PyData) (p q : List Int) : Prop where
  lt : PySem.W.dataLt d e = decide (lexS p q = -1)
  gt : PySem.W.dataLt e d = decide (lexS p q = 1)
  eq : PyData.eqv d e = decide (lexS p q = 0)
  eq' : PyData.eqv e d = decide (lexS p q = 0)
  al : PySem.W.alike d e = true
  al' : PySem.W.alike e d = true
  len : p.length = q.length
theorem ky_int (x y : Int) : Ky (.int x) (.int y) [x] [y] := by
  have e : lexS [x] [y] = if x = y then 0 else if y < x then 1 else -1 := rfl
  refine ⟨?_, ?_, ?_, ?_, by simp [PySem.W.alike], by simp [PySem.W.alike], rfl⟩
  · rw [PySem.W.dataLt_int, e]
    by_cases h : x = y
    · subst h; simp
    · by_cases g : y < x <;> simp [h, g] <;> omega
  · rw [PySem.W.dataLt_int, e]
    by_cases h : x = y
    · subst h; simp
    · by_cases g : y < x <;> simp [h, g]
  · show (x == y) = _
    rw [e]
    by_cases h : x = y
    · subst h; simp
    · by_cases g : y < x <;> simp [h, g]
  · show (y == x) = _
    rw [e]
    by_cases h : x = y
    · subst h; simp
    · have h' : ¬ y = x := fun z => h z.symm
      by_cases g : y < x <;> simp [h, h', g]
/-- rows of data -/
structure KyAll (ds es : List PyData) (p q : List Int) : Prop where
  lt : PySem.W.rowLt ds es = decide (lexS p q = -1)
  gt : PySem.W.rowLt es ds = decide (lexS p q = 1)
  eq : PyData.eqvAll ds es = decide (lexS p q = 0)
  eq' : PyData.eqvAll es ds = decide (lexS p q = 0)
  al : PySem.W.alikeAll ds es = true
  al' : PySem.W.alikeAll es ds = true
  len : p.length = q.length
theorem kyAll_nil : KyAll [] [] [] [] := by
  have h : PySem.W.rowLt [] [] = false := PySem.W.dataLt_ints [] []
  exact ⟨by rw [h]; rfl, by rw [h]; rfl, rfl, rfl, rfl, rfl, rfl⟩
theorem kyAll_cons {d e : PyData} {ds es : List PyData} {p q p' q' : List Int} (h : Ky d e p q) (t : KyAll ds es p' q') : KyAll (d :: ds) (e :: es) (p ++ p') (q ++ q') := by
  have hz := lexS_app p q p' q' h.len
  have h3 := lexS_three p q
  refine ⟨?_, ?_, ?_, ?_, ?_, ?_, by rw [List.length_append, List.length_append, h.len, t.len]⟩
  · unfold PySem.W.rowLt
    rw [PySem.W.dataLt_cons h.al, h.eq, h.lt, hz]
    have := t.lt
    unfold PySem.W.rowLt at this
    rw [this]
    rcases h3 with z | z | z <;> rw [z] <;> simp
  · unfold PySem.W.rowLt
    rw [PySem.W.dataLt_cons h.al', h.eq', h.gt, hz]
    have := t.gt
    unfold PySem.W.rowLt at this
    rw [this]
    rcases h3 with z | z | z <;> rw [z] <;> simp
  · show (PyData.eqv d e && PyData.eqvAll ds es) = _
    rw [h.eq, t.eq, hz]
    rcases h3 with z | z | z <;> rw [z] <;> simp
  · show (PyData.eqv e d && PyData.eqvAll es ds) = _
    rw [h.eq', t.eq', hz]
    rcases h3 with z | z | z <;> rw [z] <;> simp
  · simp [PySem.W.alikeAll, h.al, t.al]
  · simp [PySem.W.alikeAll, h.al', t.al']
theorem KyAll.tup {ds es : List PyData} {p q : List Int} (h : KyAll ds es p q) : Ky (.tuple ds) (.tuple es) p q := by
  refine ⟨?_, ?_, h.eq, h.eq', by simpa [PySem.W.alike] using h.al, by simpa [PySem.W.alike] using h.al', h.len⟩
  · rw [PySem.W.dataLt_tuple]; exact h.lt
  · rw [PySem.W.dataLt_tuple]; exact h.gt
theorem kyAll_ints : ∀ {a b : List Int}, a.length = b.length → KyAll (a.map .int) (b.map .int) a b
  | [], [], _ => kyAll_nil
  | [], _ :: _, h => by simp at h
  | _ :: _, [], h => by simp at h
  | x :: a, y :: b, h => kyAll_cons (ky_int x y) (kyAll_ints (by simpa using h))
theorem ky_ints {a b : List Int} (h : a.length = b.length) : Ky (rD a) (rD b) a b := (kyAll_ints h).tup
theorem ky_two {d e d' e' : PyData} {p q p' q' : List Int} (h : Ky d e p q) (h' : Ky d' e' p' q') : Ky (.tuple [d, d']) (.tuple [e, e']) (p ++ p') (q ++ q') := by
  have t := (kyAll_cons h (kyAll_cons h' kyAll_nil)).tup
  rw [List.append_nil, List.append_nil] at t
  exact t
def rvL (ms : List Int) : List Int := ms.sum :: (ms.reverse.map fun e => 0 - e)
theorem ky_rv {a b : List Int} (h : a.length = b.length) : Ky (rvD a) (rvD b) (rvL a) (rvL b) :=
  ky_two (ky_int _ _) (ky_ints (by simp [h]))
def keyD (o : Ord) (ms : List Int) : PyData := match o with
  | .lex => rD ms
  | .deglex => .tuple [.int ms.sum, rD ms]
  | .drl => rvD ms
  | .block k => .tuple [rvD (ms.take k), rvD (ms.drop k)]
  | .wts ws => .tuple [.int (dotZ ws ms), rvD ms]
def keyL (o : Ord) (ms : List Int) : List Int := match o with
  | .lex => ms
  | .deglex => ms.sum :: ms
  | .drl => rvL ms
  | .block k => rvL (ms.take k) ++ rvL (ms.drop k)
  | .wts ws => dotZ ws ms :: rvL ms
theorem ky_key {a b : List Int} (h : a.length = b.length) : ∀ o, Ky (keyD o a) (keyD o b) (keyL o a) (keyL o b)
  | .lex => ky_ints h
  | .deglex => ky_two (ky_int _ _) (ky_ints h)
  | .drl => ky_rv h
  | .block k => ky_two (ky_rv (by simp [h])) (ky_rv (by simp [h]))
  | .wts ws => ky_two (ky_int _ _) (ky_rv h)
/-! ### the rows tell what the keys tell -/
theorem lexS_same {x y : Int} {xs ys : List Int} (h : x = y) : lexS (x :: xs) (y :: ys) = lexS xs ys := if_pos h
theorem len_cases {n : Nat} {a : List Int} (h : a.length = n) (h1 : 1 ≤ n) (h4 : n ≤ 4) : (n = 1 ∧ ∃ x, a = [x]) ∨ (n = 2 ∧ ∃ x y, a = [x, y]) ∨ (n = 3 ∧ ∃ x y z, a = [x, y, z]) ∨ (n = 4 ∧ ∃ x y z u, a = [x, y, z, u]) := by
  match a, h with
  | [], h => simp at h; omega
  | [x], h => exact .inl ⟨by simpa using h.symm, x, rfl⟩
  | [x, y], h => exact .inr (.inl ⟨by simpa using h.symm, x, y, rfl⟩)
  | [x, y, z], h => exact .inr (.inr (.inl ⟨by simpa using h.symm, x, y, z, rfl⟩))
  | [x, y, z, u], h => exact .inr (.inr (.inr ⟨by simpa using h.symm, x, y, z, u, rfl⟩))
  | _ :: _ :: _ :: _ :: _ :: l, h => simp at h; omega
theorem dig_singles {n : Nat} {a : List Int} (h : a.length = n) (h1 : 1 ≤ n) (h4 : n ≤ 4) : dig (singles n) a = a := by
  rcases len_cases h h1 h4 with ⟨rfl, x, rfl⟩ | ⟨rfl, x, y, rfl⟩ | ⟨rfl, x, y, z, rfl⟩ | ⟨rfl, x, y, z, u, rfl⟩
  · have e : singles 1 = [[1]] := by decide
    rw [e]; simp [dig, dotZ]
  · have e : singles 2 = [[1, 0], [0, 1]] := by decide
    rw [e]; simp [dig, dotZ]
  · have e : singles 3 = [[1, 0, 0], [0, 1, 0], [0, 0, 1]] := by decide
    rw [e]; simp [dig, dotZ]
  · have e : singles 4 = [[1, 0, 0, 0], [0, 1, 0, 0], [0, 0, 1, 0], [0, 0, 0, 1]] := by decide
    rw [e]; simp [dig, dotZ]
theorem dot_ones {n : Nat} {a : List Int} (h : a.length = n) (h1 : 1 ≤ n) (h4 : n ≤ 4) : dotZ a (List.replicate n 1) = a.sum := by
  rcases len_cases h h1 h4 with ⟨rfl, x, rfl⟩ | ⟨rfl, x, y, rfl⟩ | ⟨rfl, x, y, z, rfl⟩ | ⟨rfl, x, y, z, u, rfl⟩ <;> simp [dotZ, List.replicate]
theorem drl_rows {n : Nat} {a b : List Int} (ha : a.length = n) (hb : b.length = n) (h1 : 1 ≤ n) (h4 : n ≤ 4) : lexS (dig (falling n 0 n) a) (dig (falling n 0 n) b) = lexS (rvL a) (rvL b) := by
  rcases len_cases ha h1 h4 with ⟨rfl, x, rfl⟩ | ⟨rfl, x, y, rfl⟩ | ⟨rfl, x, y, z, rfl⟩ | ⟨rfl, x, y, z, u, rfl⟩
  · rcases len_cases hb h1 h4 with ⟨_, x', rfl⟩ | ⟨h, _⟩ | ⟨h, _⟩ | ⟨h, _⟩ <;> try omega
    have e : falling 1 0 1 = [[1]] := by decide
    rw [e]
    simp only [dig, dotZ, rvL, List.map, List.reverse, List.reverseAux, List.sum_cons, List.sum_nil]
    refine lexS_step (by omega) fun g1 => ?_
    rw [lexS_same (by omega)]
  · rcases len_cases hb h1 h4 with ⟨h, _⟩ | ⟨_, x', y', rfl⟩ | ⟨h, _⟩ | ⟨h, _⟩ <;> try omega
    have e : falling 2 0 2 = [[1, 1], [1, 0]] := by decide
    rw [e]
    simp only [dig, dotZ, rvL, List.map, List.reverse, List.reverseAux, List.sum_cons, List.sum_nil]
    refine lexS_step (by omega) fun g1 => ?_
    refine lexS_step (by omega) fun g2 => ?_
    rw [lexS_same (by omega)]
  · rcases len_cases hb h1 h4 with ⟨h, _⟩ | ⟨h, _⟩ | ⟨_, x', y', z', rfl⟩ | ⟨h, _⟩ <;> try omega
    have e : falling 3 0 3 = [[1, 1, 1], [1, 1, 0], [1, 0, 0]] := by decide
    rw [e]
    simp only [dig, dotZ, rvL, List.map, List.reverse, List.reverseAux, List.sum_cons, List.sum_nil]
    refine lexS_step (by omega) fun g1 => ?_
    refine lexS_step (by omega) fun g2 => ?_
    refine lexS_step (by omega) fun g3 => ?_
    rw [lexS_same (by omega)]
  · rcases len_cases hb h1 h4 with ⟨h, _⟩ | ⟨h, _⟩ | ⟨h, _⟩ | ⟨_, x', y', z', u', rfl⟩ <;> try omega
    have e : falling 4 0 4 = [[1, 1, 1, 1], [1, 1, 1, 0], [1, 1, 0, 0], [1, 0, 0, 0]] := by decide
    rw [e]
    simp only [dig, dotZ, rvL, List.map, List.reverse, List.reverseAux, List.sum_cons, List.sum_nil]
    refine lexS_step (by omega) fun g1 => ?_
    refine lexS_step (by omega) fun g2 => ?_
    refine lexS_step (by omega) fun g3 => ?_
    refine lexS_step (by omega) fun g4 => ?_
    rw [lexS_same (by omega)]

theorem lexS_skip {x y L : Int} {xs ys : List Int} (h : x = y) (t : L = lexS xs ys) : L = lexS (x :: xs) (y :: ys) := by
  rw [lexS_same h]; exact t
local macro_rules | `(tactic| walk_at "blk1") => `(tactic| refine lexS_step (by omega) fun _ => ?_)
local macro_rules | `(tactic| walk_at "blk0") => `(tactic| refine lexS_skip (by omega) ?_)
theorem block_rows {n k : Nat} {a b : List Int} (ha : a.length = n) (hb : b.length = n) (h1 : 1 ≤ n) (h4 : n ≤ 4) (hk : 1 ≤ k) (hkn : k < n) : lexS (dig (falling n 0 k ++ falling n k n) a) (dig (falling n 0 k ++ falling n k n) b) = lexS (rvL (a.take k) ++ rvL (a.drop k)) (rvL (b.take k) ++ rvL (b.drop k)) := by
  rcases len_cases ha h1 h4 with ⟨rfl, x, rfl⟩ | ⟨rfl, x, y, rfl⟩ | ⟨rfl, x, y, z, rfl⟩ | ⟨rfl, x, y, z, u, rfl⟩
  · omega
  · rcases len_cases hb h1 h4 with ⟨h, _⟩ | ⟨_, x', y', rfl⟩ | ⟨h, _⟩ | ⟨h, _⟩ <;> try omega
    have ek : k = 1 := by omega
    subst ek
    have e : falling 2 0 1 ++ falling 2 1 2 = [[1, 0], [0, 1]] := by decide
    rw [e]
    simp only [dig, dotZ, rvL, List.map, List.reverse, List.reverseAux, List.sum_cons, List.sum_nil, List.take, List.drop, List.append, List.cons_append, List.nil_append]
    walk_at "blk1"; walk_at "blk0"; walk_at "blk1"; walk_at "blk0"; rfl
  · rcases len_cases hb h1 h4 with ⟨h, _⟩ | ⟨h, _⟩ | ⟨_, x', y', z', rfl⟩ | ⟨h, _⟩ <;> try omega
    rcases (show k = 1 ∨ k = 2 by omega) with rfl | rfl
    · have e : falling 3 0 1 ++ falling 3 1 3 = [[1, 0, 0], [0, 1, 1], [0, 1, 0]] := by decide
      rw [e]
      simp only [dig, dotZ, rvL, List.map, List.reverse, List.reverseAux, List.sum_cons, List.sum_nil, List.take, List.drop, List.append, List.cons_append, List.nil_append]
      walk_at "blk1"; walk_at "blk0"; walk_at "blk1"; walk_at "blk1"; walk_at "blk0"; rfl
    · have e : falling 3 0 2 ++ falling 3 2 3 = [[1, 1, 0], [1, 0, 0], [0, 0, 1]] := by decide
      rw [e]
      simp only [dig, dotZ, rvL, List.map, List.reverse, List.reverseAux, List.sum_cons, List.sum_nil, List.take, List.drop, List.append, List.cons_append, List.nil_append]
      walk_at "blk1"; walk_at "blk1"; walk_at "blk0"; walk_at "blk1"; walk_at "blk0"; rfl
  · rcases len_cases hb h1 h4 with ⟨h, _⟩ | ⟨h, _⟩ | ⟨h, _⟩ | ⟨_, x', y', z', u', rfl⟩ <;> try omega
    rcases (show k = 1 ∨ k = 2 ∨ k = 3 by omega) with rfl | rfl | rfl
    · have e : falling 4 0 1 ++ falling 4 1 4 = [[1, 0, 0, 0], [0, 1, 1, 1], [0, 1, 1, 0], [0, 1, 0, 0]] := by decide
      rw [e]
      simp only [dig, dotZ, rvL, List.map, List.reverse, List.reverseAux, List.sum_cons, List.sum_nil, List.take, List.drop, List.append, List.cons_append, List.nil_append]
      walk_at "blk1"; walk_at "blk0"; walk_at "blk1"; walk_at "blk1"; walk_at "blk1"; walk_at "blk0"; rfl
    · have e : falling 4 0 2 ++ falling 4 2 4 = [[1, 1, 0, 0], [1, 0, 0, 0], [0, 0, 1, 1], [0, 0, 1, 0]] := by decide
      rw [e]
      simp only [dig, dotZ, rvL, List.map, List.reverse, List.reverseAux, List.sum_cons, List.sum_nil, List.take, List.drop, List.append, List.cons_append, List.nil_append]
      walk_at "blk1"; walk_at "blk1"; walk_at "blk0"; walk_at "blk1"; walk_at "blk1"; walk_at "blk0"; rfl
    · have e : falling 4 0 3 ++ falling 4 3 4 = [[1, 1, 1, 0], [1, 1, 0, 0], [1, 0, 0, 0], [0, 0, 0, 1]] := by decide
      rw [e]
      simp only [dig, dotZ, rvL, List.map, List.reverse, List.reverseAux, List.sum_cons, List.sum_nil, List.take, List.drop, List.append, List.cons_append, List.nil_append]
      walk_at "blk1"; walk_at "blk1"; walk_at "blk1"; walk_at "blk0"; walk_at "blk1"; walk_at "blk0"; rfl
/-- how two monomials stand, by the rows -/
def cmpS (n : Nat) (o : Ord) (a b : List Int) : Int := lexS (dig (rowsL n o) a) (dig (rowsL n o) b)
theorem rows_key {n : Nat} {o : Ord} {a b : List Int} (ha : a.length = n) (hb : b.length = n) (h1 : 1 ≤ n) (h4 : n ≤ 4) (ho : OrdOk n o) : cmpS n o a b = lexS (keyL o a) (keyL o b) := by
  unfold cmpS
  cases o with
  | lex => show lexS (dig (singles n) a) (dig (singles n) b) = _; rw [dig_singles ha h1 h4, dig_singles hb h1 h4]; rfl
  | deglex =>
    show lexS (dotZ a (List.replicate n 1) :: dig (singles n) a) (dotZ b (List.replicate n 1) :: dig (singles n) b) = lexS (a.sum :: a) (b.sum :: b)
    rw [dig_singles ha h1 h4, dig_singles hb h1 h4, dot_ones ha h1 h4, dot_ones hb h1 h4]
  | drl => exact drl_rows ha hb h1 h4
  | block k => exact block_rows ha hb h1 h4 ho.1 ho.2
  | wts ws =>
    show lexS (dotZ a ws :: dig (falling n 0 n) a) (dotZ b ws :: dig (falling n 0 n) b) = lexS (dotZ ws a :: rvL a) (dotZ ws b :: rvL b)
    rw [dot_comm a ws, dot_comm b ws]
    exact lexS_step rfl fun _ => drl_rows ha hb h1 h4
theorem rvL_inj {a b : List Int} (h : rvL a = rvL b) : a = b := by
  unfold rvL at h
  have h2 := (List.cons.inj h).2
  have h3 := congrArg (List.map fun e : Int => 0 - e) h2
  rw [List.map_map, List.map_map] at h3
  have e : ((fun e : Int => 0 - e) ∘ fun e => 0 - e) = id := by
    funext x
    show 0 - (0 - x) = x
    omega
  rw [e, List.map_id, List.map_id] at h3
  exact List.reverse_inj.mp h3
theorem rvL_len (a : List Int) : (rvL a).length = a.length + 1 := by simp [rvL]
theorem keyL_len {a b : List Int} (h : a.length = b.length) (o : Ord) : (keyL o a).length = (keyL o b).length := (ky_key h o).len
theorem keyL_inj {o : Ord} {a b : List Int} (hl : a.length = b.length) (h : keyL o a = keyL o b) : a = b := by
  cases o with
  | lex => exact h
  | deglex => exact (List.cons.inj h).2
  | drl => exact rvL_inj h
  | block k =>
    have h : rvL (a.take k) ++ rvL (a.drop k) = rvL (b.take k) ++ rvL (b.drop k) := h
    obtain ⟨h1, h2⟩ := List.append_inj h (by rw [rvL_len, rvL_len]; simp [hl])
    rw [← List.take_append_drop k a, ← List.take_append_drop k b, rvL_inj h1, rvL_inj h2]
  | wts ws => exact rvL_inj (List.cons.inj h).2
theorem cmp_zero {n : Nat} {o : Ord} {a b : List Int} (ha : a.length = n) (hb : b.length = n) (h1 : 1 ≤ n) (h4 : n ≤ 4) (ho : OrdOk n o) (h : cmpS n o a b = 0) : a = b := by
  rw [rows_key ha hb h1 h4 ho] at h
  exact keyL_inj (by omega) (lexS_zero (keyL_len (by omega) o) h)
theorem cmp_self (n : Nat) (o : Ord) (a : List Int) : cmpS n o a a = 0 := lexS_self _
theorem cmp_neg (n : Nat) (o : Ord) (a b : List Int) : cmpS n o b a = - cmpS n o a b := lexS_neg _ _
theorem mon_dg {n : Nat} {o : Ord} {a : List Int} (hm : Mon n a) (h1 : 1 ≤ n) (h4 : n ≤ 4) (ho : OrdOk n o) : Dg (dig (rowsL n o) a ++ a) := by
  have hr := rows_ok h1 h4 ho
  have hp := pli_eq
  intro x hx
  rcases List.mem_append.mp hx with hx | hx
  · obtain ⟨r, hr', rfl⟩ := List.mem_map.mp hx
    have := dot_bound a r (fun e he => (hm.1.2 e he).1) (hr.2 r hr').2
    have := hm.2
    omega
  · have := hm.1.2 x hx
    omega
theorem code_cmp {n : Nat} {o : Ord} {a b : List Int} (ha : Mon n a) (hb : Mon n b) (h1 : 1 ≤ n) (h4 : n ≤ 4) (ho : OrdOk n o) : sgn (codeN n o a - codeN n o b) = cmpS n o a b := by
  have hr := rows_ok h1 h4 ho
  unfold codeN
  rw [code_fold ha.1.1 fun r hr' => (hr.2 r hr').1, code_fold hb.1.1 fun r hr' => (hr.2 r hr').1]
  rw [fold_sgn _ _ 0 (by simp [dig, ha.1.1, hb.1.1]) (mon_dg ha h1 h4 ho) (mon_dg hb h1 h4 ho), lexS_app _ _ _ _ (by simp [dig])]
  show (if cmpS n o a b = 0 then lexS a b else cmpS n o a b) = cmpS n o a b
  by_cases h : cmpS n o a b = 0
  · rw [if_pos h, cmp_zero ha.1.1 hb.1.1 h1 h4 ho h, lexS_self, cmp_self]
  · rw [if_neg h]
theorem key_sign {n : Nat} {o : Ord} {a b : List Int} (ha : a.length = n) (hb : b.length = n) (h1 : 1 ≤ n) (h4 : n ≤ 4) (ho : OrdOk n o) :
    (if PySem.W.dataLt (keyD o b) (keyD o a) = true then (1 : Int) else 0) - (if PySem.W.dataLt (keyD o a) (keyD o b) = true then 1 else 0) = cmpS n o a b := by
  have K := ky_key (a := a) (b := b) (by omega) o
  rw [rows_key ha hb h1 h4 ho, K.lt, K.gt]
  rcases lexS_three (keyL o a) (keyL o b) with z | z | z <;> rw [z] <;> simp
theorem cmp_add {n : Nat} {o : Ord} {a b m : List Int} (ha : a.length = n) (hb : b.length = n) (hm : m.length = n) : cmpS n o (List.zipWith (· + ·) a m) (List.zipWith (· + ·) b m) = cmpS n o a b :=
  lexS_dig_add (by omega) (by omega) _
theorem cmp_up {n : Nat} {o : Ord} {a m : List Int} (ha : a.length = n) (hm : m.length = n) (h0 : ∀ e ∈ a, 0 ≤ e) (h1 : 1 ≤ n) (h4 : n ≤ 4) (ho : OrdOk n o) :
    cmpS n o (List.zipWith (· + ·) a m) m = if List.zipWith (· + ·) a m = m then 0 else 1 := by
  by_cases e : List.zipWith (· + ·) a m = m
  · rw [if_pos e, e, cmp_self]
  · rw [if_neg e]
    rcases lexS_dig_up (a := a) (m := m) (by omega) h0 (rowsL n o) (fun r hr => ((rows_ok h1 h4 ho).2 r hr).2) with h | h
    · exact h
    · exact absurd (cmp_zero (by simp [ha, hm]) hm h1 h4 ho h) e

section
variable {K : PySem.W.Frag}
/-- a tuple's items read as ints -/
theorem dpAll_ints_eq' {H : Hp} : ∀ {xs : List V} {ns : List Int}, DpAll K H xs (ns.map .int) → xs = ns.map V.int
  | [], [], _ => rfl
  | [], _ :: _, h => by cases h
  | _ :: _, [], h => by cases h
  | x :: xs, n :: ns, h => by
    cases h with
    | cons h1 h2 =>
      cases h1
      rw [dpAll_ints_eq' h2]
      rfl
end
section
variable {P : Program} {w : World} {K : PySem.W.Frag} {mg : Str → Option Value} {base : Heap}
theorem cut_ok1 {n k : Nat} (h : k < n) : ¬ (HT.sIx n 0 Option.none = 0 ∧ HT.sIx n n (some (k : Int)) = n) := by
  rw [HT.sIx_nat]
  intro z
  have := z.2
  omega
theorem cut_ok2 {n k : Nat} (h : 1 ≤ k) (h2 : k < n) : ¬ (HT.sIx n 0 (some (k : Int)) = 0 ∧ HT.sIx n n Option.none = n) := by
  rw [HT.sIx_nat]
  intro z
  have := z.1
  omega
def sp_law_key (K : PySem.W.Frag) : Sp := fun vs H Q _ => ∃ (n : Nat) (o : Ord) (v : V) (M : Addr) (ms : List Int), vs = [v, .ref M] ∧ 1 ≤ n ∧ n ≤ 4 ∧ OrdOk n o ∧ Dp K H v (oD o) ∧ SqT K H M (ms.map V.int) ∧ ms.length = n ∧ (∀ e ∈ ms, 0 ≤ e ∧ e ≤ 60) ∧
  ∀ v' H', Same H H' → Dp K H' v' (keyD o ms) → Q v' H'
theorem dot_list : ∀ (ws ms : List Int) (n : Nat), ws.length = n → ms.length = n → ((List.range n).map fun j => ws.getD j 0 * ms.getD j 0).sum = dotZ ws ms
  | [], [], _, h, _ => by
    subst h; rfl
  | [], _ :: _, _, h, h2 => by subst h; simp at h2
  | _ :: _, [], _, h, h2 => by subst h2; simp at h
  | w :: ws, m :: ms, n, h, h2 => by
    obtain ⟨c, rfl⟩ : ∃ c, n = c + 1 := ⟨ws.length, by rw [← h, List.length_cons]⟩
    have ih := dot_list ws ms c (by simpa using h) (by simpa using h2)
    rw [List.range_succ_eq_map, List.map_cons, List.map_map, List.sum_cons]
    show w * m + _ = w * m + dotZ ws ms
    rw [← ih]
    rfl
theorem ok_law_key (T : Txt K mg) : FnOk P w K mg base CX0 2 T.law_key.f T.law_key.fd P_law_key (sp_law_key K) := by
  refine T.law_key.F.ok sc_law_key (fun vs H Q E h => ?_) (fun cdv A outer s H vs Q E hr h => ?_)
  · obtain ⟨n, o, v, M, ms, rfl, _⟩ := h; rfl
  · obtain ⟨n, o, v, M, ms, rfl, hn, hn4, ho, hv, hM, hl, hb, k⟩ := h
    refine ⟨_, (pss_cons (ps_if (pt_cmpR (op_eqD hr.units) (pv 0) pe_str (nomark _)) (pss_one (ps_ret (pv 1))) pss_nil)
  (pss_cons (ps_if (pt_cmpR (op_eqD hr.units) (pv 0) pe_str (nomark _)) (pss_one (ps_ret (pe_tup (pa_cons (pe_callB (r := rSumS K) (cr_sumS rfl) rfl T.n_sum bo_sum (pa_cons (pv 1) pa_nil)) (pa_cons (pv 1) pa_nil))))) pss_nil)
  (pss_cons (ps_if (pt_cmpR (op_eqD hr.units) (pv 0) pe_str (nomark _)) (pss_one (ps_ret (pe_call (ok_law_revlex T) (hr.mono (by decide)) rfl T.law_revlex.g T.law_revlex.F.kp (b_law_revlex T) .nil pass0 (pa_cons (pv 1) pa_nil)))) pss_nil)
  (pss_cons (ps_if (pt_cmpR (op_eqD hr.units) (pe_ix (r := rIxT K) ix_tup (pv 0) pe_int (fun _ _ => rfl)) pe_str (nomark _)) (pss_one (ps_ret (pe_tup (pa_cons (pe_call (ok_law_revlex T) (hr.mono (by decide)) rfl T.law_revlex.g T.law_revlex.F.kp (b_law_revlex T) .nil pass0 (pa_cons (pe_slice (r := rSlT K) sl_tup (pv 1) po_none (po_some (pe_ix (r := rIxT K) ix_tup (pv 0) pe_int (fun _ _ => rfl)))) pa_nil)) (pa_cons (pe_call (ok_law_revlex T) (hr.mono (by decide)) rfl T.law_revlex.g T.law_revlex.F.kp (b_law_revlex T) .nil pass0 (pa_cons (pe_slice (r := rSlT K) sl_tup (pv 1) (po_some (pe_ix (r := rIxT K) ix_tup (pv 0) pe_int (fun _ _ => rfl))) po_none) pa_nil)) pa_nil))))) pss_nil)
  (pss_one (ps_ret (pe_tup (pa_cons (pe_callB (r := rSumS K) (cr_sumS rfl) rfl T.n_sum bo_sum (pa_cons (pe_lc (own := [("at", 2)]) rfl sc_law_key.nd (pi_range1 rfl T.n_range (pa_cons (pe_callB (r := rLenS K) call_len_seq rfl T.n_len bo_len (pa_cons (pv 1) pa_nil)) pa_nil)) (blkOk_by (own := [("at", 2)]) (N := N_law_key) (sc := defScope s_law_key) (by decide +kernel)) (fun _ _ _ _ _ => (pg_name (i := 2) sc_law_key.nd rfl (Or.inl rfl))) (fun _ _ _ _ _ => pts_nil) (fun _ _ _ _ _ => (pe_op op_mulW (pe_ix (r := rIxT K) ix_tup (pe_ix (r := rIxT K) ix_tup (pv 0) pe_int (fun _ _ => rfl)) (pv 2) (fun _ _ => rfl)) (pe_ix (r := rIxT K) ix_tup (pv 1) (pv 2) (fun _ _ => rfl))))) pa_nil)) (pa_cons (pe_call (ok_law_revlex T) (hr.mono (by decide)) rfl T.law_revlex.g T.law_revlex.F.kp (b_law_revlex T) .nil pass0 (pa_cons (pv 1) pa_nil)) pa_nil))))))))), ?_⟩
    have sh : SeqAt.shaped (oD o) = true := shaped_ord hn4 ho
    cases o with
    | lex =>
      walk_at "rd"
      refine ⟨_, _, hv, .str _, sh, shLex, ?_⟩
      walk_at "rd"
      exact k _ _ (Same.refl _) (dp_ints hM)
    | deglex =>
      walk_at "rd"
      refine ⟨_, _, hv, .str _, sh, shLex, ?_⟩
      walk_at "rd"
      refine ⟨_, _, hv, .str _, sh, shDeg, ?_⟩
      walk_at "rd"
      refine ⟨M, ms, rfl, .inr hM, ?_⟩
      walk_at "rd"
      refine ⟨two_line, fun p hp => ?_⟩
      have s1 := same_upd (o := .tup [.int ms.sum, .ref M]) hp
      exact k _ _ s1 (.tup (.inl (.inl upd_same)) (.cons (.int _) (.cons (dp_ints (Toy.Same.tup s1 hM)) .nil)))
    | drl =>
      walk_at "rd"
      refine ⟨_, _, hv, .str _, sh, shLex, ?_⟩
      walk_at "rd"
      refine ⟨_, _, hv, .str _, sh, shDeg, ?_⟩
      walk_at "rd"
      refine ⟨_, _, hv, .str _, sh, shDrl, ?_⟩
      walk_at "rd"
      exact ⟨M, ms, rfl, hM, by omega, k⟩
    | block c =>
      obtain ⟨hc1, hc2⟩ := ho
      cases hv with
      | @tup a xs0 _ hT hA =>
      cases hA with
      | cons hx0 hA =>
      cases hx0
      cases hA with
      | cons hx1 hA =>
      cases hx1
      cases hA
      have hv : Dp K H (.ref a) (oD (.block c)) := .tup hT (.cons (.str _) (.cons (.int _) .nil))
      walk_at "rd"
      refine ⟨_, _, hv, .str _, sh, shLex, ?_⟩
      walk_at "rd"
      refine ⟨_, _, hv, .str _, sh, shDeg, ?_⟩
      walk_at "rd"
      refine ⟨_, _, hv, .str _, sh, shDrl, ?_⟩
      walk_at "rd"
      refine ⟨_, _, .str _, .str _, shBlk, shBlk, ?_⟩
      walk_at "rd"
      refine ⟨M, _, rfl, hM, ?_, fun p hp => ?_⟩
      · rw [List.length_map, hl]; exact cut_ok1 hc2
      rw [cut_to _ c (by rw [List.length_map]; omega), ← List.map_take]
      have s1 := same_upd (o := .tup ((ms.take c).map V.int)) hp
      walk_at "rd"
      refine ⟨p, ms.take c, rfl, .inl (.inl upd_same), by rw [List.length_take]; omega, fun v1 H2 s2 d2 => ?_⟩
      have s12 := Same.trans s1 s2
      have hT2 := Toy.Same.tup s12 hT
      walk_at "rd"
      refine ⟨M, _, rfl, Toy.Same.tup s12 hM, ?_, fun q hq => ?_⟩
      · rw [List.length_map, hl]; exact cut_ok2 hc1 hc2
      rw [cut_from _ c (by rw [List.length_map]; omega), ← List.map_drop]
      have s3 := same_upd (o := .tup ((ms.drop c).map V.int)) hq
      walk_at "rd"
      refine ⟨q, ms.drop c, rfl, .inl (.inl upd_same), by rw [List.length_drop]; omega, fun v2 H4 s4 d4 => ?_⟩
      walk_at "rd"
      refine ⟨two_line, fun u hu => ?_⟩
      have s5 := same_upd (o := .tup [v1, v2]) hu
      exact k _ _ (Same.trans s12 (Same.trans s3 (Same.trans s4 s5))) (.tup (.inl (.inl upd_same)) (.cons (Dp.same (Same.trans s3 (Same.trans s4 s5)) _ _ d2) (.cons (Dp.same s5 _ _ d4) .nil)))
    | wts ws =>
      obtain ⟨hw1, hw2⟩ := ho
      cases hv with
      | @tup a xs0 _ hT hA =>
      cases hA with
      | cons hx0 hA =>
      cases hx0
      cases hA with
      | @cons wv _ _ _ hx1 hA =>
      cases hA
      have hv : Dp K H (.ref a) (oD (.wts ws)) := .tup hT (.cons (.str _) (.cons hx1 .nil))
      cases hx1 with
      | @tup wa ws0 _ hW hWs =>
      have ew := dpAll_ints_eq' hWs
      subst ew
      walk_at "rd"
      refine ⟨_, _, hv, .str _, sh, shLex, ?_⟩
      walk_at "rd"
      refine ⟨_, _, hv, .str _, sh, shDeg, ?_⟩
      walk_at "rd"
      refine ⟨_, _, hv, .str _, sh, shDrl, ?_⟩
      walk_at "rd"
      refine ⟨_, _, .str _, .str _, shWts, shBlk, ?_⟩
      walk_at "rd"
      refine ⟨_, _, rfl, .inr hM, ?_⟩
      walk_at "rd"
      rw [List.length_map, hl]
      refine ⟨(by omega), (by omega), fun D hD => ?_⟩
      rw [Int.toNat_natCast]
      refine lc_range (lo := 0) (n := n) (MapAt H D fun j y _ => y = .int (ws.getD j 0 * ms.getD j 0)) (mapAt_0 hD) (fun j H2 hj hP => ?_) (fun H2 hP => ?_)
      · have s2 : Same H H2 := by obtain ⟨_, q, _⟩ := hP; exact q
        have hjr : j < ws.length := by omega
        have hjm : j < ms.length := by omega
        have b1 := hw2 _ (List.getElem_mem hjr)
        have b2 := hb _ (List.getElem_mem hjm)
        have g1 : ws.getD j 0 = ws[j] := by rw [List.getD_eq_getElem?_getD, List.getElem?_eq_getElem hjr]; rfl
        have g2 : ms.getD j 0 = ms[j] := by rw [List.getD_eq_getElem?_getD, List.getElem?_eq_getElem hjm]; rfl
        have a1 : atI (ws.map V.int) (0 + (j : Int)) = some (.int ws[j]) := at_of (show (0 : Int) + (j : Int) = ((j : Nat) : Int) by omega) (by rw [List.getElem?_map, List.getElem?_eq_getElem hjr]; rfl)
        have a2 : atI (ms.map V.int) (0 + (j : Int)) = some (.int ms[j]) := at_of (show (0 : Int) + (j : Int) = ((j : Nat) : Int) by omega) (by rw [List.getElem?_map, List.getElem?_eq_getElem hjm]; rfl)
        have hT2 := Toy.Same.tup s2 hT
        walk_at "rd"
        refine ⟨_, _, _, _, rfl, rfl, Toy.Same.tup s2 hW, a1, ?_⟩
        walk_at "rd"
        refine ⟨_, _, _, _, rfl, rfl, Toy.Same.tup s2 hM, a2, ?_⟩
        walk_at "rd"
        refine mapAt_step hP hD (by rw [sizeLine_eq]; omega) (Same.refl _) (fun _ _ _ _ h _ => h) ?_
        rw [g1, g2]
      · obtain ⟨ys, s2, e2, n2, r2⟩ := hP
        have ey := items_eq n2 r2
        have ey2 : ys = ((List.range n).map fun j => ws.getD j 0 * ms.getD j 0).map V.int := by rw [ey, List.map_map]; rfl
        have hsum := dot_list ws ms n hw1 hl
        subst ey2
        walk_at "rd"
        rw [hsum]
        refine ⟨M, ms, rfl, Toy.Same.tup s2 hM, by omega, fun v2 H4 s4 d4 => ?_⟩
        walk_at "rd"
        refine ⟨two_line, fun u hu => ?_⟩
        have s5 := same_upd (o := .tup [.int (dotZ ws ms), v2]) hu
        exact k _ _ (Same.trans s2 (Same.trans s4 s5)) (.tup (.inl (.inl upd_same)) (.cons (.int _) (.cons (Dp.same s5 _ _ d4) .nil)))
end

abbrev rIxA (K : PySem.W.Frag) : V → V → Hp → VK → Prop := fun x y H Q => rIxL K x y H Q ∨ rIxT K x y H Q
theorem fn_never {P : Program} {w : World} {K : PySem.W.Frag} {mg : Str → Option Value} {base : Heap} {CX : CXT} {k : Nat} {f : Addr} {fd : FuncData} {ps : List Str} : FnOk P w K mg base CX k f fd ps (fun _ _ _ _ => False) :=
  ⟨fun _ _ _ _ h => h.elim, fun _ _ _ _ _ _ _ _ _ _ _ _ _ h => h.elim⟩
/-- equal values, up to a depth -/
inductive Al (K : PySem.W.Frag) : Nat → Hp → V → V → Prop
  | int (j : Nat) (H : Hp) (i : Int) : Al K j H (.int i) (.int i)
  | non (j : Nat) (H : Hp) : Al K j H .non .non
  | tup {j : Nat} {H : Hp} {a b : Addr} {xs ys : List V} (ha : SqT K H a xs) (hb : SqT K H b ys) (hl : xs.length = ys.length) (hz : xs.length ≤ 100000) (h : ∀ (i : Nat) (x y : V), xs[i]? = some x → ys[i]? = some y → ∀ H', Same H H' → Al K j H' x y) : Al K (j + 1) H (.ref a) (.ref b)
  | lst {j : Nat} {H : Hp} {a b : Addr} {xs ys : List V} (ha : H a = some (.lst xs)) (hb : H b = some (.lst ys)) (hl : xs.length = ys.length) (hz : xs.length ≤ 100000) (h : ∀ (i : Nat) (x y : V), xs[i]? = some x → ys[i]? = some y → ∀ H', Same H H' → Al K j H' x y) : Al K (j + 1) H (.ref a) (.ref b)
def spA (K : PySem.W.Frag) (j : Nat) : Sp := fun vs H Q _ => ∃ x y, vs = [x, y] ∧ Al K j H x y ∧ ∀ H', Same H H' → Q (.bl true) H'
def spG (K : PySem.W.Frag) : Nat → Sp
  | 0 => fun _ _ _ _ => False
  | j + 1 => spA K j
section
variable {K : PySem.W.Frag}
theorem kit_none_tuple : PySem.W.kitOne K (.type "NoneType") (.type "tuple") = some false := kit_ty (by decide +kernel)
theorem kit_none_list : PySem.W.kitOne K (.type "NoneType") (.type "list") = some false := kit_ty (by decide +kernel)
theorem kit_none_str : PySem.W.kitOne K (.type "NoneType") (.type "str") = some false := kit_ty (by decide +kernel)
theorem kit_list_list : PySem.W.kitOne K (.type "list") (.type "list") = some true := kit_ty (by decide +kernel)
theorem kit_list_tuple : PySem.W.kitOne K (.type "list") (.type "tuple") = some false := kit_ty (by decide +kernel)
theorem kitA_none : PySem.W.kitAny K (.type "NoneType") [.type "tuple", .type "list"] = some false :=
  kitAny_cons kit_none_tuple (fun _ => kitAny_cons kit_none_list (fun _ => kitAny_nil) (fun z => nomatch z)) (fun z => nomatch z)
theorem kitA_list : PySem.W.kitAny K (.type "list") [.type "tuple", .type "list"] = some true :=
  kitAny_cons kit_list_tuple (fun _ => kitAny_cons kit_list_list (fun z => nomatch z) (fun _ => rfl)) (fun z => nomatch z)
end
section
variable {P : Program} {w : World} {K : PySem.W.Frag} {mg : Str → Option Value} {base : Heap}
theorem alike_body (T : Txt K mg) (j : Nat) (G0 : FnOk P w K mg base CX0 j T.law_alike.f T.law_alike.fd P_law_alike (spG K j)) : FnOk P w K mg base CX0 (j + 1) T.law_alike.f T.law_alike.fd P_law_alike (spA K j) := by
  refine T.law_alike.F.ok sc_law_alike (fun vs H Q E h => ?_) (fun cdv A outer s H vs Q E hr h => ?_)
  · obtain ⟨x, y, rfl, _⟩ := h; rfl
  · obtain ⟨x, y, rfl, hA, k⟩ := h
    refine ⟨_, (pss_cons (ps_if (pt_val (pe_callB (r := rIsiT K) call_isiT rfl T.n_isinstance bo_isinstance (pa_cons (pv 1) (pa_cons (pe_tup (pa_cons (pe_bltn (v := .ty "tuple") rfl T.n_tuple bo_tuple rfl) (pa_cons (pe_bltn (v := .ty "list") rfl T.n_list bo_list rfl) pa_nil))) pa_nil)))) (pss_cons (ps_if (PW.pt (pw_or (pt_not (pt_val (pe_callB (r := rIsiT K) call_isiT rfl T.n_isinstance bo_isinstance (pa_cons (pv 0) (pa_cons (pe_tup (pa_cons (pe_bltn (v := .ty "tuple") rfl T.n_tuple bo_tuple rfl) (pa_cons (pe_bltn (v := .ty "list") rfl T.n_list bo_list rfl) pa_nil))) pa_nil))))) (pw_or1 (pt_cmpR op_ne (pe_callB (r := rIsi K) call_isi rfl T.n_isinstance bo_isinstance (pa_cons (pv 0) (pa_cons (pe_bltn (v := .ty "list") rfl T.n_list bo_list rfl) pa_nil))) (pe_callB (r := rIsi K) call_isi rfl T.n_isinstance bo_isinstance (pa_cons (pv 1) (pa_cons (pe_bltn (v := .ty "list") rfl T.n_list bo_list rfl) pa_nil))) (nomark _))))) (pss_one (ps_ret pe_bl)) pss_nil)
  (pss_cons (ps_if (pt_cmpR op_ne (pe_callB (r := rLenS K) call_len_seq rfl T.n_len bo_len (pa_cons (pv 0) pa_nil)) (pe_callB (r := rLenS K) call_len_seq rfl T.n_len bo_len (pa_cons (pv 1) pa_nil)) (nomark _)) (pss_one (ps_ret pe_bl)) pss_nil)
  (pss_one (ps_ret (pe_cmpR (op_eqD hr.units) (pe_lc (own := [("k", 2)]) rfl sc_law_alike.nd (pi_range1 rfl T.n_range (pa_cons (pe_callB (r := rLenS K) call_len_seq rfl T.n_len bo_len (pa_cons (pv 1) pa_nil)) pa_nil)) (blkOk_by (own := [("k", 2)]) (N := N_law_alike) (sc := defScope s_law_alike) (by decide +kernel)) (fun _ _ _ _ _ => (pg_name (i := 2) sc_law_alike.nd rfl (Or.inl rfl))) (fun _ _ _ _ _ => pts_one (pt_not (pt_val (pe_call G0 hr rfl T.law_alike.g T.law_alike.F.kp (b_law_alike T) .nil pass0 (pa_cons (pe_ix (r := rIxA K) ix_any (pv 0) (pv 2) (fun _ _ => rfl)) (pa_cons (pe_ix (r := rIxA K) ix_any (pv 1) (pv 2) (fun _ _ => rfl)) pa_nil)))))) (fun _ _ _ _ _ => (pv 2))) (pe_lst pa_nil) (nomark _)))))) pss_nil)
  (pss_cons (ps_if (PW.pt (pw_or (pt_cmpR op_isN (pv 1) pe_non (nomark _)) (pw_or1 (pt_val (pe_callB (r := rIsi K) call_isi rfl T.n_isinstance bo_isinstance (pa_cons (pv 1) (pa_cons (pe_bltn (v := .ty "str") rfl T.n_str bo_str rfl) pa_nil))))))) (pss_one (ps_ret (pe_and (pe_cmpR (op_eqD hr.units) (pv 0) (pv 1) (nomark _)) (pe_one (pe_cmpR op_eq (pe_callB (r := rIsi K) call_isi rfl T.n_isinstance bo_isinstance (pa_cons (pv 0) (pa_cons (pe_bltn (v := .ty "str") rfl T.n_str bo_str rfl) pa_nil))) (pe_callB (r := rIsi K) call_isi rfl T.n_isinstance bo_isinstance (pa_cons (pv 1) (pa_cons (pe_bltn (v := .ty "str") rfl T.n_str bo_str rfl) pa_nil))) (nomark _)))))) pss_nil)
  (pss_one (ps_ret (pe_and (pe_callB (r := rIsi K) call_isi rfl T.n_isinstance bo_isinstance (pa_cons (pv 0) (pa_cons (pe_bltn (v := .ty "int") rfl T.n_int bo_int rfl) pa_nil))) (pe_and (pe_cmpR op_eq (pe_callB (r := rIsi K) call_isi rfl T.n_isinstance bo_isinstance (pa_cons (pv 0) (pa_cons (pe_bltn (v := .ty "bool") rfl T.n_bool bo_bool rfl) pa_nil))) (pe_callB (r := rIsi K) call_isi rfl T.n_isinstance bo_isinstance (pa_cons (pv 1) (pa_cons (pe_bltn (v := .ty "bool") rfl T.n_bool bo_bool rfl) pa_nil))) (nomark _)) (pe_one (pe_cmpR (op_eqD hr.units) (pv 0) (pv 1) (nomark _))))))))), ?_⟩
    cases hA with
    | int _ _ i =>
      walk_at "rd"
      refine ⟨two_line, fun p hp => ?_⟩
      refine ⟨_, _, _, _, _, _, rfl, upd_same, .cons (.ty _) (.cons (.ty _) .nil), .base (.int _), kitA_int, ?_⟩
      walk_at "rd"
      refine ⟨_, _, .int _, .int _, by rfl, by rfl, ?_⟩
      have e : PyData.eqv (.int i) (.int i) = true := by show (i == i) = true; simp
      show Q _ _
      rw [e]
      exact k _ (same_upd hp)
    | non _ _ =>
      walk_at "rd"
      refine ⟨two_line, fun p hp => ?_⟩
      refine ⟨_, _, _, _, _, _, rfl, upd_same, .cons (.ty _) (.cons (.ty _) .nil), .base .non, kitA_none, ?_⟩
      walk_at "rd"
      refine ⟨_, _, .non, .non, by rfl, by rfl, ?_⟩
      walk_at "rd"
      refine ⟨_, _, _, _, _, rfl, .ty _, .base .non, kit_none_str, ?_⟩
      walk_at "rd"
      refine ⟨_, _, _, _, _, rfl, .ty _, .base .non, kit_none_str, ?_⟩
      walk_at "rd"
      exact k _ (same_upd hp)
    | @tup j' _ a b xs ys ha hb hl hz h =>
      walk_at "rd"
      refine ⟨two_line, fun p hp => ?_⟩
      have s1 := same_upd (o := .tup [V.ty "tuple", V.ty "list"]) hp
      refine ⟨_, _, _, _, _, _, rfl, upd_same, .cons (.ty _) (.cons (.ty _) .nil), ty_tup (Toy.Same.tup s1 hb), kitA_tuple, ?_⟩
      walk_at "rd"
      refine ⟨two_line, fun q hq => ?_⟩
      have s2 := Same.trans s1 (same_upd (o := .tup [V.ty "tuple", V.ty "list"]) hq)
      refine ⟨_, _, _, _, _, _, rfl, upd_same, .cons (.ty _) (.cons (.ty _) .nil), ty_tup (Toy.Same.tup s2 ha), kitA_tuple, ?_⟩
      obtain ⟨H2, eH2⟩ : ∃ H2, H2 = upd (upd H p (.tup [V.ty "tuple", V.ty "list"])) q (.tup [V.ty "tuple", V.ty "list"]) := ⟨_, rfl⟩
      rw [← eH2] at s2 ⊢
      clear eH2
      have ha2 := Toy.Same.tup s2 ha
      have hb2 := Toy.Same.tup s2 hb
      walk_at "rd"
      refine ⟨_, _, _, _, _, rfl, .ty _, ty_tup ha2, kit_tuple_list, ?_⟩
      walk_at "rd"
      refine ⟨_, _, _, _, _, rfl, .ty _, ty_tup hb2, kit_tuple_list, ?_⟩
      walk_at "rd"
      refine ⟨_, _, rfl, .inr ha2, ?_⟩
      walk_at "rd"
      refine ⟨_, _, rfl, .inr hb2, ?_⟩
      walk_at "rd"
      rw [hl]
      refine iteVn (fun z => absurd rfl z) (fun _ => ?_)
      walk_at "rd"
      refine ⟨_, _, rfl, .inr hb2, ?_⟩
      walk_at "rd"
      refine ⟨(by omega), (by omega), fun D hD => ?_⟩
      rw [Int.toNat_natCast]
      refine lc_range (lo := 0) (n := ys.length) (fun i H3 => Same H2 H3 ∧ H3 D = some (.lst [])) ⟨same_upd hD, upd_same⟩ (fun i H3 hi q => ?_) (fun H3 q => ?_)
      · obtain ⟨s3, e3⟩ := q
        have hx : xs[i]? = some xs[i] := List.getElem?_eq_getElem (by omega)
        have hy : ys[i]? = some ys[i] := List.getElem?_eq_getElem hi
        have g1 : atI xs (0 + (i : Int)) = some xs[i] := at_of (show (0 : Int) + (i : Int) = ((i : Nat) : Int) by omega) hx
        have g2 : atI ys (0 + (i : Int)) = some ys[i] := at_of (show (0 : Int) + (i : Int) = ((i : Nat) : Int) by omega) hy
        walk_at "rd"
        refine .inr ⟨_, _, _, _, rfl, rfl, (Toy.Same.tup s3 ha2), g1, ?_⟩
        walk_at "rd"
        refine .inr ⟨_, _, _, _, rfl, rfl, (Toy.Same.tup s3 hb2), g2, ?_⟩
        refine ⟨_, _, rfl, h i _ _ hx hy H3 (Same.trans s2 s3), fun H4 s4 => ?_⟩
        walk_at "rd"
        exact ⟨Same.trans s3 s4, s4 _ _ e3⟩
      · obtain ⟨s3, e3⟩ := q
        walk_at "rd"
        refine ⟨by decide, fun q hq => ?_⟩
        refine ⟨_, _, .lst (.inl (.inl ((upd_ne (ne_of_none e3 hq)).trans e3))) .nil, .lst (.inl (.inl upd_same)) .nil, by decide, by decide, ?_⟩
        exact k _ (Same.trans s2 (Same.trans s3 (same_upd hq)))
    | @lst j' _ a b xs ys ha hb hl hz h =>
      walk_at "rd"
      refine ⟨two_line, fun p hp => ?_⟩
      have s1 := same_upd (o := .tup [V.ty "tuple", V.ty "list"]) hp
      refine ⟨_, _, _, _, _, _, rfl, upd_same, .cons (.ty _) (.cons (.ty _) .nil), .base (.lst (s1 _ _ hb)), kitA_list, ?_⟩
      walk_at "rd"
      refine ⟨two_line, fun q hq => ?_⟩
      have s2 := Same.trans s1 (same_upd (o := .tup [V.ty "tuple", V.ty "list"]) hq)
      refine ⟨_, _, _, _, _, _, rfl, upd_same, .cons (.ty _) (.cons (.ty _) .nil), .base (.lst (s2 _ _ ha)), kitA_list, ?_⟩
      obtain ⟨H2, eH2⟩ : ∃ H2, H2 = upd (upd H p (.tup [V.ty "tuple", V.ty "list"])) q (.tup [V.ty "tuple", V.ty "list"]) := ⟨_, rfl⟩
      rw [← eH2] at s2 ⊢
      clear eH2
      have ha2 := s2 _ _ ha
      have hb2 := s2 _ _ hb
      walk_at "rd"
      refine ⟨_, _, _, _, _, rfl, .ty _, .base (.lst ha2), kit_list_list, ?_⟩
      walk_at "rd"
      refine ⟨_, _, _, _, _, rfl, .ty _, .base (.lst hb2), kit_list_list, ?_⟩
      walk_at "rd"
      rw [hl]
      refine iteVn (fun z => absurd rfl z) (fun _ => ?_)
      walk_at "rd"
      refine ⟨(by omega), (by omega), fun D hD => ?_⟩
      rw [Int.toNat_natCast]
      refine lc_range (lo := 0) (n := ys.length) (fun i H3 => Same H2 H3 ∧ H3 D = some (.lst [])) ⟨same_upd hD, upd_same⟩ (fun i H3 hi q => ?_) (fun H3 q => ?_)
      · obtain ⟨s3, e3⟩ := q
        have hx : xs[i]? = some xs[i] := List.getElem?_eq_getElem (by omega)
        have hy : ys[i]? = some ys[i] := List.getElem?_eq_getElem hi
        have g1 : atI xs (0 + (i : Int)) = some xs[i] := at_of (show (0 : Int) + (i : Int) = ((i : Nat) : Int) by omega) hx
        have g2 : atI ys (0 + (i : Int)) = some ys[i] := at_of (show (0 : Int) + (i : Int) = ((i : Nat) : Int) by omega) hy
        walk_at "rd"
        refine .inl ⟨_, _, _, _, rfl, rfl, .inl (.inl (s3 _ _ ha2)), g1, ?_⟩
        walk_at "rd"
        refine .inl ⟨_, _, _, _, rfl, rfl, .inl (.inl (s3 _ _ hb2)), g2, ?_⟩
        refine ⟨_, _, rfl, h i _ _ hx hy H3 (Same.trans s2 s3), fun H4 s4 => ?_⟩
        walk_at "rd"
        exact ⟨Same.trans s3 s4, s4 _ _ e3⟩
      · obtain ⟨s3, e3⟩ := q
        walk_at "rd"
        refine ⟨by decide, fun q hq => ?_⟩
        refine ⟨_, _, .lst (.inl (.inl ((upd_ne (ne_of_none e3 hq)).trans e3))) .nil, .lst (.inl (.inl upd_same)) .nil, by decide, by decide, ?_⟩
        exact k _ (Same.trans s2 (Same.trans s3 (same_upd hq)))
theorem ok_alike_at (T : Txt K mg) : ∀ j : Nat, FnOk P w K mg base CX0 (j + 1) T.law_alike.f T.law_alike.fd P_law_alike (spA K j)
  | 0 => alike_body T 0 fn_never
  | j + 1 => alike_body T (j + 1) (ok_alike_at T j)
theorem ok_law_alike (T : Txt K mg) : FnOk P w K mg base CX0 3 T.law_alike.f T.law_alike.fd P_law_alike (spA K 2) := ok_alike_at T 2
end

def isZ (f n : Int) : Bool := if f = 0 then decide (n = 0) else decide (n % f = 0)
/-! ### the law's own reckoning -/
theorem inv_all : ∀ f ∈ FieldsP, ∀ r ∈ (List.range 31).map (fun i : Nat => (i : Int)), 0 < r → r < f → r * invP r f % f = 1 := by decide +kernel
theorem inv_ok {f r : Int} (hf : f ∈ FieldsP) (h0 : 0 < r) (h1 : r < f) : r * invP r f % f = 1 := by
  have hb := (IsF.lt (.inr hf)).2
  refine inv_all f hf r ?_ h0 h1
  refine List.mem_map.mpr ⟨r.toNat, List.mem_range.mpr (by omega), by omega⟩
theorem inv_dvd {f d : Int} (hf : f ∈ FieldsP) (hd : d % f ≠ 0) : f ∣ d * invP (d % f) f - 1 := by
  have h2 := IsF.pos (.inr hf) (by intro z; subst z; revert hf; decide)
  have e1 := Int.emod_nonneg d (show f ≠ 0 by omega)
  have e2 := Int.emod_lt_of_pos d (show 0 < f by omega)
  have h := inv_ok hf (show 0 < d % f by omega) e2
  have h3 : f ∣ (d % f) * invP (d % f) f - 1 := Int.dvd_of_emod_eq_zero (by rw [Int.sub_emod, h]; have : (1 : Int) % f = 1 := Int.emod_eq_of_lt (by omega) (by omega); rw [this]; rfl)
  have h4 : d * invP (d % f) f - 1 = ((d % f) * invP (d % f) f - 1) + f * ((d / f) * invP (d % f) f) := by
    have this := Int.emod_add_mul_ediv d f
    generalize invP (d % f) f = e
    generalize d % f = r at this
    generalize d / f = q at this
    subst this
    grind
  rw [h4]
  exact Int.dvd_add h3 (Int.dvd_mul_right _ _)
/-- the one k below f with f ∣ k * d - n -/
theorem num_one {f n d k : Int} (hf : f ∈ FieldsP) (hd : d % f ≠ 0) (k0 : 0 ≤ k) (k1 : k < f) : (k * d - n) % f = 0 ↔ k = n * invP (d % f) f % f := by
  have h := inv_dvd hf hd
  generalize invP (d % f) f = e at *
  constructor
  · intro hk
    have h1 : f ∣ k * d - n := Int.dvd_of_emod_eq_zero hk
    have h2 : f ∣ n * e - k := by
      have : n * e - k = k * (d * e - 1) - (k * d - n) * e := by grind
      rw [this]
      exact Int.dvd_sub (Int.dvd_trans h (Int.dvd_mul_left _ _)) (Int.dvd_trans h1 (Int.dvd_mul_right _ _))
    have h3 := Int.emod_emod_of_dvd (n * e - k) (Int.dvd_refl f)
    have h4 : (n * e - k) % f = 0 := Int.emod_eq_zero_of_dvd h2
    have h5 : n * e % f = k % f := (Int.emod_eq_emod_iff_emod_sub_eq_zero).mpr h4
    rw [h5, Int.emod_eq_of_lt k0 k1]
  · intro hk
    refine Int.emod_eq_zero_of_dvd ?_
    have h1 : f ∣ n * e - k := by
      rw [hk]
      exact Int.dvd_self_sub_emod
    have : k * d - n = n * (d * e - 1) - (n * e - k) * d := by grind
    rw [this]
    exact Int.dvd_sub (Int.dvd_trans h (Int.dvd_mul_left _ _)) (Int.dvd_trans h1 (Int.dvd_mul_right _ _))
theorem gcd_clock : 2 ^ 19999 * (BB + BB) < 3 ^ 19999 := by decide +kernel
theorem gcd_step {A B i S : Nat} (hB : 0 < B) (hBA : 1 ≤ i → B ≤ A) (h : (A + B) * 3 ^ (i - 1) ≤ 2 ^ (i - 1) * S) : (B + A % B) * 3 ^ (i + 1 - 1) ≤ 2 ^ (i + 1 - 1) * S := by
  have hr := Nat.mod_lt A hB
  cases i with
  | zero =>
    have := Nat.mod_le A B
    simp only [Nat.zero_sub, Nat.zero_add, Nat.sub_self, Nat.pow_zero, Nat.mul_one, Nat.one_mul] at h ⊢
    omega
  | succ j =>
    have hA := hBA (by omega)
    have h1 : B * 1 ≤ B * (A / B) := Nat.mul_le_mul_left _ (Nat.div_pos hA hB)
    have h2 := Nat.div_add_mod A B
    have h3 : 3 * (B + A % B) ≤ 2 * (A + B) := by omega
    show (B + A % B) * 3 ^ (j + 1) ≤ 2 ^ (j + 1) * S
    have h' : (A + B) * 3 ^ j ≤ 2 ^ j * S := h
    have h4 := Nat.mul_le_mul_right (3 ^ j) h3
    rw [Nat.pow_succ, Nat.pow_succ]
    generalize 3 ^ j = x at *
    generalize 2 ^ j = y at *
    have e1 : (B + A % B) * (x * 3) = 3 * (B + A % B) * x := by rw [Nat.mul_comm x 3, ← Nat.mul_assoc, Nat.mul_comm _ 3]
    have e2 : 2 * (A + B) * x = 2 * ((A + B) * x) := Nat.mul_assoc _ _ _
    have e3 : y * 2 * S = 2 * (y * S) := by rw [Nat.mul_comm y 2, Nat.mul_assoc]
    rw [e1, e3]
    omega
theorem gcd_end {A B : Nat} (h : (A + B) * 3 ^ (20000 - 1) ≤ 2 ^ (20000 - 1) * (BB + BB)) : A + B = 0 := by
  have hc := gcd_clock
  have e : 20000 - 1 = 19999 := rfl
  rw [e] at h
  generalize 3 ^ 19999 = x at *
  generalize 2 ^ 19999 * (BB + BB) = y at *
  cases Nat.eq_zero_or_pos (A + B) with
  | inl z => exact z
  | inr z =>
    have := Nat.mul_le_mul_right x z
    omega
section
variable {P : Program} {w : World} {K : PySem.W.Frag} {mg : Str → Option Value} {base : Heap}
def sp_law_gcd : Sp := fun vs H Q _ => ∃ a b, vs = [.int a, .int b] ∧ a.natAbs < BB ∧ b.natAbs < BB ∧ Q (.int ((Nat.gcd a.natAbs b.natAbs : Nat) : Int)) H
theorem ok_law_gcd (T : Txt K mg) : FnOk P w K mg base CX0 1 T.law_gcd.f T.law_gcd.fd P_law_gcd sp_law_gcd := by
  refine T.law_gcd.F.ok sc_law_gcd (fun vs H Q E h => ?_) (fun cdv A outer s H vs Q E hr h => ?_)
  · obtain ⟨a, b, rfl, _⟩ := h; rfl
  · obtain ⟨a0, b0, rfl, ha, hb, k⟩ := h
    refine ⟨_, (pss_cons (ps_par rfl sc_law_gcd.nd (i := 0) (j := 1) rfl rfl (by decide) rfl rfl (pa_cons (pe_callB call_abs rfl T.n_abs bo_abs (pa_cons (pv 0) pa_nil)) (pa_cons (pe_callB call_abs rfl T.n_abs bo_abs (pa_cons (pv 1) pa_nil)) pa_nil)) rfl)
  (pss_cons (ps_for PassesOwn.never rfl (pi_range1 rfl T.n_range (pa_cons pe_int pa_nil)) (pg_name (i := 2) sc_law_gcd.nd rfl (Or.inl rfl)) (pss_cons (ps_if (pt_cmpR op_eq (pv 1) pe_int (nomark _)) (pss_one (ps_ret (pv 0))) pss_nil)
  (pss_one (ps_par rfl sc_law_gcd.nd (i := 0) (j := 1) rfl rfl (by decide) rfl rfl (pa_cons (pv 1) (pa_cons (pe_op op_mod (pe_callTy call_int1 rfl T.n_int bo_int (pa_cons (pv 0) pa_nil)) (pv 1)) pa_nil)) rfl))))
  (pss_one (ps_ret (pv 0))))), ?_⟩
    walk_at "rd"
    have ea : (if a0 < 0 then -a0 else a0) = (a0.natAbs : Int) := by split <;> omega
    have eb : (if b0 < 0 then -b0 else b0) = (b0.natAbs : Int) := by split <;> omega
    rw [ea, eb]
    refine ⟨by omega, by omega, for_range (lo := 0) (n := 20000) (fun i σ H' => H' = H ∧ ∃ (A B : Nat) (v : Option V), σ = [some (.int (A : Int)), some (.int (B : Int)), v] ∧ Nat.gcd A B = Nat.gcd a0.natAbs b0.natAbs ∧ (1 ≤ i → B ≤ A) ∧ (A + B) * 3 ^ (i - 1) ≤ 2 ^ (i - 1) * (BB + BB))
      ⟨rfl, _, _, none, rfl, rfl, fun h => absurd h (by decide), by show (a0.natAbs + b0.natAbs) * 1 ≤ 1 * (BB + BB); omega⟩ ?_ ?_⟩
    · rintro i σ H' hi ⟨rfl, A, B, v, rfl, hg, hBA, hS⟩
      walk_at "rd"
      refine iteV (fun hB => ?_) (fun hB => ?_)
      · walk_at "rd"
        have e : B = 0 := by omega
        rw [e, Nat.gcd_zero_right] at hg
        rw [← hg] at k
        exact k
      · have hB0 : 0 < B := by omega
        walk_at "rd"
        refine ⟨B, A % B, some (.int (0 + (i : Int))), ?_, ?_, ?_, ?_⟩
        · show [some (V.int (B : Int)), some (V.int ((A : Int) % (B : Int))), some (V.int (0 + (i : Int)))] = _
          rw [← Int.natCast_emod]
        · rw [Nat.gcd_comm B, ← Nat.gcd_rec, Nat.gcd_comm, hg]
        · intro _
          exact Nat.le_of_lt (Nat.mod_lt _ hB0)
        · exact gcd_step hB0 hBA hS
    · rintro σ H' ⟨rfl, A, B, v, rfl, hg, hBA, hS⟩
      walk_at "rd"
      have e : A + B = 0 := gcd_end hS
      have eA : A = 0 := by omega
      have eB : B = 0 := by omega
      subst eA eB
      rw [← hg] at k
      exact k
def sp_law_num : Sp := fun vs H Q _ => ∃ f n d, vs = [.int f, .int n, .int d] ∧ IsF f ∧ n.natAbs < BB ∧ d.natAbs < BB ∧ isZ f d = false ∧ ∀ v H', NumV H' f v (mkN f n d) → Same H H' → Q v H'
theorem ok_law_num (T : Txt K mg) : FnOk P w K mg base CX0 2 T.law_num.f T.law_num.fd P_law_num sp_law_num := by
  refine T.law_num.F.ok sc_law_num (fun vs H Q E h => ?_) (fun cdv A outer s H vs Q E hr h => ?_)
  · obtain ⟨f, n, d, rfl, _⟩ := h; rfl
  · obtain ⟨f, n, d, rfl, hF, hn, hd, hz, k⟩ := h
    refine ⟨_, (pss_cons (ps_if (pt_cmpR op_gt (pv 0) pe_int (nomark _)) (pss_one (ps_ret (pe_ix (r := rIxL K) ix_list (pe_lc (own := [("k", 3)]) rfl sc_law_num.nd (pi_range1 rfl T.n_range (pa_cons (pv 0) pa_nil)) (blkOk_by (own := [("k", 3)]) (N := N_law_num) (sc := defScope s_law_num) (by decide +kernel)) (fun _ _ _ _ _ => (pg_name (i := 3) sc_law_num.nd rfl (Or.inl rfl))) (fun _ _ _ _ _ => pts_one (pt_cmpR op_eq (pe_op op_mod (pe_callTy call_int1 rfl T.n_int bo_int (pa_cons (pe_op op_sub (pe_op op_mulW (pv 3) (pv 2)) (pv 1)) pa_nil)) (pv 0)) pe_int (nomark _))) (fun _ _ _ _ _ => (pv 3))) pe_int (fun _ _ => rfl)))) pss_nil)
  (pss_cons (ps_set (i := 4) sc_law_num.nd rfl (Or.inl rfl) (pe_ifExp (pt_cmpR op_gt (pv 2) pe_int (nomark _)) (pe_call (ok_law_gcd T) (hr.mono (by decide)) rfl T.law_gcd.g T.law_gcd.F.kp (b_law_gcd T) .nil pass0 (pa_cons (pv 1) (pa_cons (pv 2) pa_nil))) (pe_op op_sub pe_int (pe_call (ok_law_gcd T) (hr.mono (by decide)) rfl T.law_gcd.g T.law_gcd.F.kp (b_law_gcd T) .nil pass0 (pa_cons (pv 1) (pa_cons (pv 2) pa_nil))))))
  (pss_one (ps_ret (pe_tup (pa_cons (pe_op op_fdivZ (pv 1) (pv 4)) (pa_cons (pe_op op_fdivZ (pv 2) (pv 4)) pa_nil))))))), ?_⟩
    walk_at "rd"
    unfold mkN at k
    unfold isZ at hz
    have h31 := hF.lt
    refine iteD (fun hf => ?_) (fun hf => ?_)
    · have hf0 : f ≠ 0 := by omega
      rw [if_neg hf0] at k hz
      have hdf : d % f ≠ 0 := of_decide_eq_false hz
      have hfm : f ∈ FieldsP := hF.resolve_left hf0
      have hk0 := Int.emod_nonneg (n * invP (d % f) f) hf0
      have hk1 := Int.emod_lt_of_pos (n * invP (d % f) f) hf
      walk_at "rd"
      have hD : ∀ k : Int, 0 ≤ k → k < f → ((k * d - n) % f = 0 ↔ k = n * invP (d % f) f % f) := fun k a b => num_one hfm hdf a b
      generalize n * invP (d % f) f % f = k0 at *
      refine ⟨by omega, by omega, fun D hDn => lc_range (lo := 0) (n := f.toNat) (fun i H' => H' = upd H D (.lst (if k0 < (i : Int) then [.int k0] else []))) ?_ ?_ ?_⟩
      · rw [if_neg (show ¬ k0 < ((0 : Nat) : Int) by omega)]
      · rintro i H' hi rfl
        walk_at "rd"
        refine ⟨wide_mul (a := 64) (b := 4000) (by omega) hd (by decide) (by decide) (by decide), ?_⟩
        walk_at "rd"
        refine iteV (fun hk => ?_) (fun hk => ?_)
        · have e := (hD (0 + (i : Int)) (by omega) (by omega)).mp hk
          walk_at "rd"
          refine ⟨_, upd_same, ?_, ?_⟩
          · rw [if_neg (by omega)]; decide
          · rw [if_neg (by omega), if_pos (show k0 < ((i + 1 : Nat) : Int) by omega), upd_upd, e]
            rfl
        · have e : ¬ (0 + (i : Int)) = k0 := fun z => hk ((hD (0 + (i : Int)) (by omega) (by omega)).mpr z)
          show upd H D _ = upd H D _
          by_cases h : k0 < (i : Int)
          · rw [if_pos h, if_pos (show k0 < ((i + 1 : Nat) : Int) by omega)]
          · rw [if_neg h, if_neg (show ¬ k0 < ((i + 1 : Nat) : Int) by omega)]
      · rintro H' rfl
        rw [if_pos (show k0 < (f.toNat : Int) by omega)]
        walk_at "rd"
        exact k _ _ (.inr ⟨hf0, rfl, rfl⟩) (same_upd hDn)
    · have hf0 : f = 0 := by omega
      rw [if_pos hf0] at k hz
      have d0 : d ≠ 0 := of_decide_eq_false hz
      have hg := sgnG_ne (n := n) d0
      have hl := sgnG_le (n := n) d0
      have hgb : (sgnG n d).natAbs < BB := Nat.lt_of_le_of_lt hl hd
      walk_at "rd"
      unfold lowQ at k
      refine iteD (fun hd0 => ?_) (fun hd0 => ?_)
      · have e : ((Nat.gcd n.natAbs d.natAbs : Nat) : Int) = sgnG n d := by unfold sgnG; rw [if_neg (by omega)]
        rw [← e] at k hg hgb
        walk_at "rd"
        refine ⟨hn, hd, ?_⟩
        walk_at "rd"
        refine ⟨cdivZ (b := 4000) hg hgb (by decide) (by decide), ?_⟩
        walk_at "rd"
        refine ⟨cdivZ (b := 4000) hg hgb (by decide) (by decide), ?_⟩
        refine ⟨two_line, fun p hp => ?_⟩
        exact k _ _ (.inl ⟨hf0, p, rfl, upd_same⟩) (same_upd hp)
      · have e : 0 - ((Nat.gcd n.natAbs d.natAbs : Nat) : Int) = sgnG n d := by unfold sgnG; rw [if_pos (by omega)]; omega
        rw [← e] at k hg hgb
        walk_at "rd"
        refine ⟨hn, hd, ?_⟩
        walk_at "rd"
        refine ⟨cdivZ (b := 4000) hg hgb (by decide) (by decide), ?_⟩
        walk_at "rd"
        refine ⟨cdivZ (b := 4000) hg hgb (by decide) (by decide), ?_⟩
        refine ⟨two_line, fun p hp => ?_⟩
        exact k _ _ (.inl ⟨hf0, p, rfl, upd_same⟩) (same_upd hp)
def sp_law_zero : Sp := fun vs H Q _ => ∃ f, vs = [.int f] ∧ 0 ≤ f ∧ ∀ v H', NumV H' f v (0, 1) → Same H H' → Q v H'
theorem ok_law_zero (T : Txt K mg) : FnOk P w K mg base CX0 1 T.law_zero.f T.law_zero.fd P_law_zero sp_law_zero := by
  refine T.law_zero.F.ok sc_law_zero (fun vs H Q E h => ?_) (fun cdv A outer s H vs Q E hr h => ?_)
  · obtain ⟨f, rfl, _⟩ := h; rfl
  · obtain ⟨f, rfl, f0, k⟩ := h
    refine ⟨_, (pss_one (ps_ret (pe_ifExp (pt_cmpR op_gt (pv 0) pe_int (nomark _)) pe_int (pe_tup (pa_cons pe_int (pa_cons pe_int pa_nil)))))), ?_⟩
    walk_at "rd"
    refine iteD (fun hf => ?_) (fun hf => ?_)
    · exact k _ _ (.inr ⟨by omega, rfl, rfl⟩) (Same.refl _)
    · refine ⟨two_line, fun p hp => ?_⟩
      exact k _ _ (.inl ⟨by omega, p, rfl, upd_same⟩) (same_upd hp)
end

section
variable {P : Program} {w : World} {K : PySem.W.Frag} {mg : Str → Option Value} {base : Heap}
theorem low_small {n d : Int} (h1 : -4 ≤ n) (h2 : n ≤ 4) (h3 : 1 ≤ d) (h4 : d ≤ 3) : (lowQ n d).1.natAbs ≤ 4 ∧ 0 < (lowQ n d).2 ∧ (lowQ n d).2.natAbs ≤ 3 ∧ Nat.gcd (lowQ n d).1.natAbs (lowQ n d).2.natAbs = 1 := by
  have e1 : n = -4 ∨ n = -3 ∨ n = -2 ∨ n = -1 ∨ n = 0 ∨ n = 1 ∨ n = 2 ∨ n = 3 ∨ n = 4 := by omega
  have e2 : d = 1 ∨ d = 2 ∨ d = 3 := by omega
  rcases e1 with rfl | rfl | rfl | rfl | rfl | rfl | rfl | rfl | rfl <;> rcases e2 with rfl | rfl | rfl <;> decide
/-- a drawn number: a small one -/
def NumS (f : Int) (x : Int × Int) : Prop := NumOk f x ∧ (f = 0 → x.1.natAbs ≤ 4 ∧ x.2.natAbs ≤ 3)
def sp_law_number (K : PySem.W.Frag) : Sp := fun vs H Q _ => ∃ (r sa : Addr) (ns : List Int) (f : Int), vs = [.ref r, .int f] ∧ FieldOk f ∧ RowAt K H r sa ns ∧ ∀ v x H', NumV H' f v x → NumS f x → RK K r sa ns H H' → Q v H'
theorem ok_law_number (T : Txt K mg) : FnOk P w K mg base CX0 3 T.law_number.f T.law_number.fd P_law_number (sp_law_number K) := by
  refine T.law_number.F.ok sc_law_number (fun vs H Q E h => ?_) (fun cdv A outer s H vs Q E hr h => ?_)
  · obtain ⟨r, sa, ns, f, rfl, _⟩ := h; rfl
  · obtain ⟨r, sa, ns, f, rfl, hf, hrow, k⟩ := h
    have hF := hf.isF
    have h31 := hF.lt
    refine ⟨_, (pss_cons (ps_if (pt_cmpR op_gt (pv 1) pe_int (nomark _)) (pss_one (ps_ret (pe_call (ok_law_taken T) (hr.mono (by decide)) rfl T.law_taken.g T.law_taken.F.kp (b_law_taken T) .nil pass0 (pa_cons (pv 0) (pa_cons (pv 1) pa_nil))))) pss_nil)
  (pss_one (ps_ret (pe_call (ok_law_num T) (hr.mono (by decide)) rfl T.law_num.g T.law_num.F.kp (b_law_num T) .nil pass0 (pa_cons pe_int (pa_cons (pe_op op_sub (pe_call (ok_law_taken T) (hr.mono (by decide)) rfl T.law_taken.g T.law_taken.F.kp (b_law_taken T) .nil pass0 (pa_cons (pv 0) (pa_cons pe_int pa_nil))) pe_int) (pa_cons (pe_op op_add pe_int (pe_call (ok_law_taken T) (hr.mono (by decide)) rfl T.law_taken.g T.law_taken.F.kp (b_law_taken T) .nil pass0 (pa_cons (pv 0) (pa_cons pe_int pa_nil)))) pa_nil))))))), ?_⟩
    walk_at "rd"
    refine iteD (fun h1 => ?_) (fun h1 => ?_)
    · walk_at "rd"
      refine ⟨r, sa, ns, f, rfl, hrow, by omega, by omega, fun v H' v0 v1 r1 b1 => ?_⟩
      have nf : f ≠ 0 := by omega
      exact k _ (v, 1) H' (.inr ⟨nf, rfl, rfl⟩) ⟨by unfold NumOk; rw [if_neg nf]; exact ⟨v0, v1, rfl⟩, fun z => absurd z nf⟩ ⟨fun b o nb e => (b1 b nb).trans e, r1⟩
    · have f0 : f = 0 := by omega
      subst f0
      walk_at "rd"
      refine ⟨r, sa, ns, 9, rfl, hrow, by omega, by omega, fun v H1 v0 v1 r1 b1 => ?_⟩
      walk_at "rd"
      refine ⟨r, sa, ns, 3, rfl, r1, by omega, by omega, fun u H2 u0 u1 r2 b2 => ?_⟩
      walk_at "rd"
      have hb : (5 : Nat) < BB := by decide +kernel
      obtain ⟨l1, l2, l3, l4⟩ := low_small (n := v - 4) (d := 1 + u) (by omega) (by omega) (by omega) (by omega)
      have hN : (5 : Nat) < NBn := by decide +kernel
      refine ⟨0, v - 4, 1 + u, rfl, .inl rfl, by omega, by omega, ?_, fun x H3 nx s3 => ?_⟩
      · unfold isZ
        rw [if_pos rfl]
        exact decide_eq_false (by omega)
      · refine k x (lowQ (v - 4) (1 + u)) H3 (by unfold mkN at nx; rw [if_pos rfl] at nx; exact nx) ⟨by unfold NumOk; rw [if_pos rfl]; exact ⟨by omega, l2, by omega, l4⟩, fun _ => ⟨l1, l3⟩⟩ ⟨fun b o nb e => s3 _ _ ((b2 b nb).trans ((b1 b nb).trans e)), r2.sm s3⟩
end

/-! ### sums of terms, as lists -/
abbrev Tm := (Int × Int) × List Int
abbrev Al2 := List (List Int × (Int × Int))
def getM : Al2 → List Int → Option (Int × Int)
  | [], _ => none
  | e :: r, m => if e.1 = m then some e.2 else getM r m
def putM (al : Al2) (m : List Int) (x : Int × Int) : Al2 :=
  if (al.any fun e => decide (e.1 = m)) = true then al.map (fun e => if e.1 = m then (e.1, x) else e) else al ++ [(m, x)]
def addT (f : Int) (al : Al2) (t : Tm) : Al2 := putM al t.2 (match getM al t.2 with | some y => addN f y t.1 | none => t.1)
def sumL (f : Int) (ts : List Tm) : Al2 := ts.foldl (addT f) []
/-- every number on the way can be passed -/
def SumOk (f : Int) (ts : List Tm) : Prop := ∀ k, ∀ e ∈ (ts.take k).foldl (addT f) [], NumOk f e.2
def inlK (m : List Int) : List L2.Key := m.map Sum.inl
theorem inlK_inj {a b : List Int} (h : inlK a = inlK b) : a = b := by
  unfold inlK at h
  induction a generalizing b with
  | nil => cases b with
    | nil => rfl
    | cons _ _ => cases h
  | cons x a ih => cases b with
    | nil => cases h
    | cons y b =>
      rw [List.map_cons, List.map_cons] at h
      injection h with h1 h2
      cases h1
      rw [ih h2]
theorem inlK_kV (m : List Int) : (inlK m).map kV = m.map V.int := by
  unfold inlK
  rw [List.map_map]
  rfl
/-- a dict whose keys are monomials, whose values are numbers -/
def KVs (H : Hp) (f : Int) (kvs : List (List L2.Key × V)) (al : Al2) : Prop := Paired (fun kv e => kv.1 = inlK e.1 ∧ NumV H f kv.2 e.2) kvs al
theorem KVs.ex {H H' : Hp} {f : Int} {kvs : List (List L2.Key × V)} {al : Al2} (h : KVs H f kvs al) (e : LamX.ExtN H H') : KVs H' f kvs al := Paired.mapP h fun _ _ z => ⟨z.1, z.2.ex e⟩
theorem kvs_len {H : Hp} {f : Int} : ∀ {kvs : List (List L2.Key × V)} {al : Al2}, KVs H f kvs al → kvs.length = al.length := fun h => Paired.length h
theorem kvs_get {H : Hp} {f : Int} {m : List Int} : ∀ {kvs : List (List L2.Key × V)} {al : Al2}, KVs H f kvs al → (valV kvs (inlK m) = none ∧ getM al m = none) ∨ ∃ v x, valV kvs (inlK m) = some v ∧ getM al m = some x ∧ NumV H f v x
  | [], [], _ => .inl ⟨rfl, rfl⟩
  | [], _ :: _, h => by cases h
  | _ :: _, [], h => by cases h
  | kv :: kvs, e :: al, h => by
    obtain ⟨⟨h1, h2⟩, t⟩ : (kv.1 = inlK e.1 ∧ NumV H f kv.2 e.2) ∧ KVs H f kvs al := by
      cases h with
      | cons a b => exact ⟨a, b⟩
    by_cases he : e.1 = m
    · refine .inr ⟨kv.2, e.2, valV_pos (by rw [h1, he]), ?_, h2⟩
      unfold getM
      rw [if_pos he]
    · have hk : ¬ kv.1 = inlK m := fun z => he (inlK_inj (h1.symm.trans z))
      rw [valV_neg hk]
      unfold getM
      rw [if_neg he]
      exact kvs_get t
theorem any_same {H : Hp} {f : Int} {m : List Int} : ∀ {kvs : List (List L2.Key × V)} {al : Al2}, KVs H f kvs al → (kvs.any fun kv => decide (kv.1 = inlK m)) = (al.any fun e => decide (e.1 = m))
  | [], [], _ => rfl
  | [], _ :: _, h => by cases h
  | _ :: _, [], h => by cases h
  | kv :: kvs, e :: al, h => by
    obtain ⟨⟨h1, h2⟩, t⟩ : (kv.1 = inlK e.1 ∧ NumV H f kv.2 e.2) ∧ KVs H f kvs al := by
      cases h with
      | cons a b => exact ⟨a, b⟩
    rw [List.any_cons, List.any_cons, any_same t]
    congr 1
    by_cases he : e.1 = m
    · rw [decide_eq_true he, decide_eq_true (by rw [h1, he])]
    · rw [decide_eq_false he, decide_eq_false fun z => he (inlK_inj (h1.symm.trans z))]
theorem kvs_map {H : Hp} {f : Int} {m : List Int} {v : V} {x : Int × Int} (n : NumV H f v x) : ∀ {kvs : List (List L2.Key × V)} {al : Al2}, KVs H f kvs al → KVs H f (kvs.map fun kv => if kv.1 = inlK m then (kv.1, v) else kv) (al.map fun e => if e.1 = m then (e.1, x) else e)
  | [], [], _ => .nil
  | [], _ :: _, h => by cases h
  | _ :: _, [], h => by cases h
  | kv :: kvs, e :: al, h => by
    obtain ⟨⟨h1, h2⟩, t⟩ : (kv.1 = inlK e.1 ∧ NumV H f kv.2 e.2) ∧ KVs H f kvs al := by
      cases h with
      | cons a b => exact ⟨a, b⟩
    rw [List.map_cons, List.map_cons]
    refine .cons ?_ (kvs_map n t)
    by_cases he : e.1 = m
    · rw [if_pos he, if_pos (by rw [h1, he])]; exact ⟨h1, n⟩
    · rw [if_neg he, if_neg fun z => he (inlK_inj (h1.symm.trans z))]; exact ⟨h1, h2⟩
theorem paired_app {α β : Type} {F : α → β → Prop} : ∀ {a : List α} {b : List β} {x : α} {y : β}, Paired F a b → F x y → Paired F (a ++ [x]) (b ++ [y])
  | [], [], _, _, _, h => .cons h .nil
  | [], _ :: _, _, _, h, _ => by cases h
  | _ :: _, [], _, _, h, _ => by cases h
  | _ :: _, _ :: _, _, _, h, g => by
    cases h with
    | cons a b => exact .cons a (paired_app b g)
theorem kvs_put {H : Hp} {f : Int} {m : List Int} {v : V} {x : Int × Int} {kvs : List (List L2.Key × V)} {al : Al2} (h : KVs H f kvs al) (n : NumV H f v x) : KVs H f (putK kvs (inlK m) v) (putM al m x) := by
  unfold putK putM
  rw [any_same h]
  by_cases c : (al.any fun e => decide (e.1 = m)) = true
  · rw [if_pos c, if_pos c]; exact kvs_map n h
  · rw [if_neg c, if_neg c]; exact paired_app h ⟨rfl, n⟩
/-! keys -/
theorem getM_any {m : List Int} : ∀ {al : Al2}, (al.any fun e => decide (e.1 = m)) = (getM al m).isSome
  | [] => rfl
  | e :: al => by
    rw [List.any_cons]
    unfold getM
    by_cases he : e.1 = m
    · rw [decide_eq_true he, if_pos he]; rfl
    · rw [decide_eq_false he, if_neg he, Bool.false_or]; exact getM_any
theorem putM_keys (al : Al2) (m : List Int) (x : Int × Int) : (putM al m x).map (·.1) = if (al.any fun e => decide (e.1 = m)) = true then al.map (·.1) else al.map (·.1) ++ [m] := by
  unfold putM
  by_cases c : (al.any fun e => decide (e.1 = m)) = true
  · rw [if_pos c, if_pos c, List.map_map]
    refine List.map_congr_left fun e _ => ?_
    show (if e.1 = m then (e.1, x) else e).1 = e.1
    split <;> rfl
  · rw [if_neg c, if_neg c, List.map_append]; rfl
theorem putM_nodup {al : Al2} (h : (al.map (·.1)).Nodup) (m : List Int) (x : Int × Int) : ((putM al m x).map (·.1)).Nodup := by
  rw [putM_keys]
  by_cases c : (al.any fun e => decide (e.1 = m)) = true
  · rw [if_pos c]; exact h
  · rw [if_neg c, List.nodup_append]
    refine ⟨h, by simp, fun a ha b hb e => c ?_⟩
    rw [List.mem_singleton] at hb
    subst hb e
    obtain ⟨y, hy, rfl⟩ := List.mem_map.mp ha
    rw [List.any_eq_true]
    exact ⟨y, hy, by simp⟩
theorem putM_len (al : Al2) (m : List Int) (x : Int × Int) : (putM al m x).length ≤ al.length + 1 := by
  unfold putM
  split
  · rw [List.length_map]; omega
  · rw [List.length_append]; exact Nat.le_refl _
theorem mem_putM {al : Al2} {m : List Int} {x : Int × Int} {e : List Int × (Int × Int)} (h : e ∈ putM al m x) : e ∈ al ∨ e = (m, x) := by
  unfold putM at h
  split at h
  · obtain ⟨y, hy, rfl⟩ := List.mem_map.mp h
    by_cases c : y.1 = m
    · rw [if_pos c]; exact .inr (by rw [← c])
    · rw [if_neg c]; exact .inl hy
  · rcases List.mem_append.mp h with h | h
    · exact .inl h
    · exact .inr (List.mem_singleton.mp h)
theorem getM_put (al : Al2) (m k : List Int) (x : Int × Int) : getM (putM al m x) k = if k = m then some x else getM al k := by
  have gmap : ∀ al : Al2, (al.any fun e => decide (e.1 = m)) = true ∨ True → getM (al.map fun e => if e.1 = m then (e.1, x) else e) k = (getM al k).map fun y => if k = m then x else y := by
    intro al _
    induction al with
    | nil => rfl
    | cons e al ih =>
      rw [List.map_cons]
      unfold getM
      by_cases he : e.1 = k
      · by_cases hm : e.1 = m
        · rw [if_pos hm, if_pos he, if_pos he]
          show some x = some (if k = m then x else e.2)
          rw [if_pos (by rw [← he, hm])]
        · rw [if_neg hm, if_pos he, if_pos he]
          show some e.2 = some (if k = m then x else e.2)
          rw [if_neg (by rw [← he]; exact hm)]
      · have hx : (if e.1 = m then (e.1, x) else e).1 = e.1 := by split <;> rfl
        rw [hx, if_neg he, if_neg he]
        exact ih (.inr trivial)
  have gapp : ∀ al : Al2, getM (al ++ [(m, x)]) k = match getM al k with | some y => some y | none => if k = m then some x else none := by
    intro al
    induction al with
    | nil =>
      show (if m = k then some x else none) = _
      by_cases h : m = k
      · rw [if_pos h]; show _ = if k = m then some x else none; rw [if_pos h.symm]
      · rw [if_neg h]; show _ = if k = m then some x else none; rw [if_neg (fun z => h z.symm)]
    | cons e al ih =>
      rw [List.cons_append]
      unfold getM
      by_cases he : e.1 = k
      · rw [if_pos he, if_pos he]
      · rw [if_neg he, if_neg he]; exact ih
  unfold putM
  by_cases c : (al.any fun e => decide (e.1 = m)) = true
  · rw [if_pos c, gmap al (.inl c)]
    by_cases hk : k = m
    · subst hk
      rw [if_pos rfl]
      rw [getM_any] at c
      obtain ⟨y, hy⟩ := Option.isSome_iff_exists.mp c
      rw [hy]
      show some (if k = k then x else y) = some x
      rw [if_pos rfl]
    · rw [if_neg hk]
      cases h : getM al k with
      | none => rfl
      | some y => show some (if k = m then x else y) = some y; rw [if_neg hk]
  · rw [if_neg c, gapp]
    rw [getM_any] at c
    by_cases hk : k = m
    · subst hk
      have : getM al k = none := by
        cases h : getM al k with
        | none => rfl
        | some y => rw [h] at c; exact absurd rfl c
      rw [this, if_pos rfl]
    · simp only [if_neg hk]
      cases getM al k <;> rfl
/-! the whole sum -/
theorem fold_nodup (f : Int) : ∀ (ts : List Tm) (al : Al2), (al.map (·.1)).Nodup → ((ts.foldl (addT f) al).map (·.1)).Nodup
  | [], _, h => h
  | t :: ts, al, h => fold_nodup f ts _ (putM_nodup h _ _)
theorem sum_nodup (f : Int) (ts : List Tm) : ((sumL f ts).map (·.1)).Nodup := fold_nodup f ts [] .nil
theorem fold_len (f : Int) : ∀ (ts : List Tm) (al : Al2), (ts.foldl (addT f) al).length ≤ al.length + ts.length
  | [], _ => by simp
  | t :: ts, al => by
    have := fold_len f ts (addT f al t)
    have h2 : (addT f al t).length ≤ al.length + 1 := putM_len _ _ _
    rw [List.foldl_cons, List.length_cons]
    omega
theorem sum_len (f : Int) (ts : List Tm) : (sumL f ts).length ≤ ts.length := by
  have := fold_len f ts []
  simpa [sumL] using this
theorem fold_key (f : Int) {p : List Int → Prop} : ∀ (ts : List Tm) (al : Al2), (∀ e ∈ al, p e.1) → (∀ t ∈ ts, p t.2) → ∀ e ∈ ts.foldl (addT f) al, p e.1
  | [], _, h, _ => h
  | t :: ts, al, h, g => fold_key f ts _ (fun e he => by
      rcases mem_putM he with h1 | rfl
      · exact h e h1
      · exact g t List.mem_cons_self) fun u hu => g u (List.mem_cons_of_mem _ hu)
theorem sum_key {f : Int} {ts : List Tm} {p : List Int → Prop} (g : ∀ t ∈ ts, p t.2) : ∀ e ∈ sumL f ts, p e.1 := fold_key f ts [] (by simp) g
/-- the terms of a sum, those that are zero left out -/
def keptL (f : Int) (ts : List Tm) : List Tm := ((sumL f ts).filter fun e => decide (e.2.1 ≠ 0)).map fun e => (e.2, e.1)
def geT (n : Nat) (rs : List (List Int)) (a b : Tm) : Bool := decide (codeR n rs b.2 ≤ codeR n rs a.2)
def polyL (f : Int) (n : Nat) (rs : List (List Int)) (ts : List Tm) : List Tm := (keptL f ts).mergeSort (geT n rs)
theorem poly_perm (f : Int) (n : Nat) (rs : List (List Int)) (ts : List Tm) : (polyL f n rs ts).Perm (keptL f ts) := List.mergeSort_perm _ _
theorem geT_trans (n : Nat) (rs : List (List Int)) : ∀ a b c : Tm, geT n rs a b = true → geT n rs b c = true → geT n rs a c = true := fun a b c h1 h2 => by
  unfold geT at *
  rw [decide_eq_true_eq] at *
  omega
theorem geT_total (n : Nat) (rs : List (List Int)) : ∀ a b : Tm, (geT n rs a b || geT n rs b a) = true := fun a b => by
  unfold geT
  rw [Bool.or_eq_true, decide_eq_true_eq, decide_eq_true_eq]
  omega
theorem poly_pair (f : Int) (n : Nat) (rs : List (List Int)) (ts : List Tm) : (polyL f n rs ts).Pairwise fun a b => geT n rs a b = true := List.pairwise_mergeSort (geT_trans n rs) (geT_total n rs) _
theorem kept_nodup (f : Int) (ts : List Tm) : ((keptL f ts).map (·.2)).Nodup := by
  unfold keptL
  rw [List.map_map]
  have h := sum_nodup f ts
  exact ((List.filter_sublist (l := sumL f ts) (p := fun e => decide (e.2.1 ≠ 0))).map _).nodup h

theorem pg_tupK {X : Cx} {K : PySem.W.Frag} {es : List Expr} {k : Nat} {pos : Pos} {t : TGs} {n : Nat} (hK : X.K = K) (hc : X.calm = true) (h : PGs X es t)
    (hn : (assignEach es X.env).length = n := by rfl) (hst : (assignEach es X.env).findIdx? (·.1) = none := by rfl) : PG X (.Tuple es k pos) (gTup K n t) := by
  subst hK
  exact pg_tup hc h hn hst
theorem walk_zipTT {K : PySem.W.Frag} {a b : Addr} {xs ys : List V} {n : Nat} (hn : n = min xs.length ys.length) : Walk (RZ.ItzT K a b) n (fun H => SqT K H a xs ∧ SqT K H b ys) (YPair (fun i => xs[i]?) (fun i => ys[i]?)) := by
  refine ⟨fun i H hi h => ?_, fun H h => ?_, fun i H x H' hi h q => ?_⟩
  · have h1 : i < xs.length := by omega
    have h2 : i < ys.length := by omega
    exact ⟨xs, ys, _, _, h.1, h.2, List.getElem?_eq_getElem h1, List.getElem?_eq_getElem h2⟩
  · exact ⟨xs, ys, h.1, h.2, by omega⟩
  · obtain ⟨T, x1, y1, e1, e2, e3, e4, e5⟩ := q
    exact ⟨T, x1, y1, e1, e2, e3, e4 _ h.1, e5 _ h.2⟩

/-! ### sorted(xs, key=lambda ..., reverse=True) -/
section
open PySem.Spec PyProof.Rows LamX NdefX
variable {X : Cx}
def tSortFR (X : Cx) (te tl : TE) : TE := fun σ H Q => tCons te tNil σ H fun vs H1 => tCons tl (tCons (tC (.bl true)) tNil) σ H1 fun zs H2 => ∃ (a f : Addr) (bs : List (V × Int)), vs = [.ref a] ∧ zs = [.ref f, .bl true] ∧ SqL X.K H2 a (bs.map (·.1)) ∧ KeyF X σ H2 f bs ∧
  ∀ p, H2 p = none → Q (.ref p) (upd H2 p (.lst ((bs.mergeSort (PySem.W.dataLe true fun b => .int b.2)).map (·.1))))
theorem pe_sortFR {e fe : Expr} {te tl : TE} {p pos kpos cpos rpos : Pos} {cj k : Nat} (hr : Room k X.A) (hg : Gl X "sorted") (hm : X.mg "sorted" = none) (hv : bootBuiltins "sorted" = some (.builtin "sorted")) (he : PE X e te) (hl : PE X fe tl)
    (q0 : starEach [e] X.env = (false, eval e X.env) :: starEach [] X.env := by rfl)
    (q1 : backTo pos (starEach [e] X.env) = (false, eval e X.env) :: backTo pos (starEach [] X.env) := by rfl) (q2 : (backTo pos (starEach [e] X.env)).any (·.1) = false := by rfl)
    (q3 : (backToKw pos (keywordEach [⟨some "key", fe, kpos⟩, ⟨some "reverse", .Constant (.bool true) cj cpos, rpos⟩] X.env)).all (·.1.isSome) = true := by rfl) (q4 : (backToKw pos (keywordEach [⟨some "key", fe, kpos⟩, ⟨some "reverse", .Constant (.bool true) cj cpos, rpos⟩] X.env)).any (·.1.isNone) = false := by rfl)
    (q5 : (backToKw pos (keywordEach [⟨some "key", fe, kpos⟩, ⟨some "reverse", .Constant (.bool true) cj cpos, rpos⟩] X.env)).filterMap (·.1) = [Str.ofString "key", Str.ofString "reverse"] := by rfl) :
    PE X (.Call (.Name "sorted" p) [e] [⟨some "key", fe, kpos⟩, ⟨some "reverse", .Constant (.bool true) cj cpos, rpos⟩] pos) (tSortFR X te tl) := by
  refine ⟨fun pins s σ H Q I h => wpAny_Call_Name_kw (ld_blt I hg hm hv ?_)⟩
  have ha := pa_cons (X := X) he pa_nil q0
  have hk := pk_cons (X := X) (nm := some "key") (kpos := kpos) hl (pk_cons (X := X) (nm := some "reverse") (kpos := rpos) (pe_bl (X := X) (b := true) (j := cj) (pos := cpos)) pk_nil)
  refine PyProof.Rows.callWith_kw (thn (ha.run pos pins s σ H _ I h) fun us s1 ⟨vs, H1, I1, r1, h1⟩ => thn (hk.run pos pins s1 σ H1 _ I1 h1) fun ws s2 ⟨zs, H2, I2, r2, a, f, bs, ev, ez, hs, hf, q⟩ => ?_) q1 q2 q3 q4
  rw [q5]
  subst ev ez
  obtain rfl := Vals.ref1 r1
  obtain ⟨w1, w2, rfl, e1, e2⟩ := vals2 r2
  obtain rfl : w1 = Value.ref f := e1
  obtain rfl : w2 = Value.bool true := e2
  obtain ⟨its, rv, hli, hz⟩ := I2.list hs
  have e := each_of (g := fun b : V × Int => b.1) rv
  have hzb : bs.length ≤ sizeLine := by rw [List.length_map] at hz; exact hz
  have St := stay_all (h1 := s2.heap) I2.mod fun b o q => I2.bk b o q
  refine PySem.W.sorted_key_data (R := fun v (b : V × Int) => RelV b.1 v) (b := true) (f := .ref f) (kw := [(Str.ofString "key", .ref f), (Str.ofString "reverse", .bool true)]) (fun b => .int b.2) hli.isList e (alike_ints _ bs) (sortable_ints _ bs) hzb (fun b hb => ?_) (PyProof.Rows.ksk_s2 _ _ _) (fun _ => PyProof.Rows.ksk_l2 _ _ _) (fun x => PyProof.Rows.ksk_t2 _ _ _) (fun v b rr hb h tk hk2 => ?_) fun out c h' tk hk2 hfr hat hol ho => ?_
  · have := hr.units
    show X.A.units + 2 + (PyData.int b.2).depth < cLine
    simp only [PyData.depth]
    omega
  · refine wpAny_call (codeAny_mono (hf _ pins s2 St I2 (fun h q => q) b hb v rr X.A.in1.in1 { s2 with heap := h, toks := tk } hr.hd (Nat.le_refl _) (Nat.le_refl _) hk2) fun rr s3 w1 => ?_)
    cases rr with
    | error e => exact False.elim w1
    | ok fl =>
      cases fl with
      | ret y =>
        obtain ⟨⟨t, rfl⟩, h2, tk2, e2, k2⟩ := w1
        exact ⟨h2, tk2, e2, k2, .int _ _⟩
      | next => exact False.elim w1
      | brk => exact False.elim w1
      | cont => exact False.elim w1
  · have hlen : ((bs.mergeSort (PySem.W.dataLe true fun b => .int b.2)).map (·.1)).length ≤ sizeLine := by rw [List.length_map, (List.mergeSort_perm _ _).length_eq]; exact hzb
    exact ⟨.ref _, _, I2.laid (t' := tk) (o := .lst ((bs.mergeSort (PySem.W.dataLe true fun b => .int b.2)).map (·.1))) hk2 (Nat.le_succ _) ⟨hlen, out, c, vals_of_each ho, hat⟩, rfl, q _ (I2.hok.fresh (Nat.le_succ _))⟩
end

/-! ### for k, v in d.items(), the keys tuples; the dict is locked -/
section
open PySem.Spec PyProof.Rows
variable {X : Cx} {pins : List (Addr × Obj)} {σ : L2.St} {H : Hp} {s : Shared} {d : Addr} {o : Obj}
theorem frzT2 {kvs : List (List L2.Key × V)} (I : Inv X pins σ H s) (h : H d = some (.frz o (.dT kvs))) :
    (d == sysModules) = false ∧ s.heap.get? d = some o ∧ o.ExactDict ∧ ∃ (es : Array DictEntry) (ep : Nat), o.data = .dict es ep ∧ es.size = kvs.length ∧
      ∀ (i : Nat) (k : List L2.Key) (v : V), kvs[i]? = some (k, v) → ∃ (en : DictEntry) (q : Addr), es[i]? = some en ∧ en.key = .ref q ∧ H q = some (.tup (k.map kV)) ∧ RelV v en.val := by
  obtain ⟨hd, z, hs, xs, pr, o', es, ep, ho, hx, hdt, he, _⟩ := I.hok d _ h
  rw [hd] at ho
  cases ho
  refine ⟨hs, hd, hx, es, ep, hdt, ?_, fun i k v e => ?_⟩
  · have l1 : es.size = xs.length := size_of_entries he
    have l2 : kvs.length = xs.length := Paired.length pr
    omega
  · obtain ⟨b, hb, e1, e2, e3⟩ := paired_get pr e
    have q := entry_at he i
    rw [hb] at q
    exact ⟨_, b.2.1, q, rfl, e2, e3⟩
def ItiT (d : Addr) (o : Obj) (kvs : List (List L2.Key × V)) : It :=
  ⟨fun i H => H d = some (.frz o (.dT kvs)) ∧ i < kvs.length, fun i H x H' => ∃ (T q : Addr) (k : List L2.Key) (v : V), kvs[i]? = some (k, v) ∧ x = .ref T ∧ H q = some (.tup (k.map kV)) ∧ H T = none ∧ H' = upd H T (.tup [.ref q, v]), fun i H => H d = some (.frz o (.dT kvs)) ∧ kvs.length ≤ i⟩
theorem turn_itemsT {P : Program} {w : World} {K : PySem.W.Frag} {kvs : List (List L2.Key × V)} {elts : List Expr} {kk : Nat} {tpos : Pos} {es : Array DictEntry} {ep : Nat} (it : Addr) (hod : o.data = .dict es ep) :
    Turn P w K (.Tuple elts kk tpos) (ItiT d o kvs) [it] it (fun i h => ∃ ok ov, IsItemIter h it d i kvs.length ep ok ov) where
  mem := by simp
  obj := fun i h st b hb => by
    have e : b = it := by simpa using hb
    subst e
    obtain ⟨ok, ov, e⟩ := st
    exact ⟨_, e, fun v z => nomatch z⟩
  keep := fun i h h' st k => let ⟨ok, ov, e⟩ := st; ⟨ok, ov, k it (by simp) _ e⟩
  item := by
    intro X hP hw hK hc i pins s σ H E I hf st hg
    subst hP hw hK
    obtain ⟨hd, hi⟩ := hg
    obtain ⟨hs, hgd, hx, es', ep', hdt, hsz, kv⟩ := frzT2 I hd
    obtain ⟨rfl, rfl⟩ := dict_ep hod hdt
    obtain ⟨⟨k, v⟩, hkv⟩ : ∃ p, kvs[i]? = some p := ⟨kvs[i], List.getElem?_eq_getElem hi⟩
    obtain ⟨en, q, hen, hq, hH, ru⟩ := kv i k v hkv
    obtain ⟨ok, ov, he⟩ := st
    rw [← hsz] at he
    have hi' : i < es'.size := by rw [hsz]; exact hi
    have een : es'[i] = en := by
      rw [Array.getElem?_eq_getElem hi'] at hen
      exact Option.some.inj hen
    have hlt : it < s.heap.objs.size := Heap.lt_size he
    refine DT.nextI he ⟨o, hgd, hx, hdt⟩ hi' fun h' ho hT hz hk => ?_
    refine ⟨_, rfl, wpAny_letOwnedTupleGo_items (s := { s with heap := h' }) ho fun h'' he' sb => ?_⟩
    rw [een] at hT he'
    have hT2 : h''.get? s.heap.objs.size = some { cls := .type "tuple", data := .seq #[en.key, en.val] } := (sb.2 _ (Nat.ne_of_gt hlt)).trans hT
    have rk : RelV (.ref q) en.key := by rw [hq]; rfl
    have new : ObjOk X.prog X.w (upd H s.heap.objs.size (.tup [.ref q, v])) h'' s.heap.objs.size (.tup [.ref q, v]) :=
      ⟨by show 2 ≤ sizeLine; decide, [en.key, en.val], .cons rk (.cons ru .nil), ⟨_, hT2, rfl, _, rfl⟩⟩
    have I1 : Inv X pins σ (upd H s.heap.objs.size (.tup [.ref q, v])) { s with heap := h'' } :=
      I.turnedNew (t' := s.toks) (ch := [it]) (fun b ob hb e => (sb.2 b (by simpa using hb)).trans (hk b ob (by simpa using hb) e)) hf (Nat.le_refl _) new
    refine ⟨.ref s.heap.objs.size, _, I1, rfl, ⟨_, q, k, v, hkv, rfl, hH, I.hok.fresh (Nat.le_refl _), rfl⟩, ⟨en.key, en.val, ?_⟩, fun b hb => ?_⟩
    · rw [← hsz]; exact he'
    · have e : b = it := by simpa using hb
      rw [e, upd_ne (Nat.ne_of_lt hlt)]
      exact (hf it (by simp)).1
  done := by
    intro X hP hw hK hc i pins s σ H E I hf st hg
    subst hP hw hK
    obtain ⟨hd, hi⟩ := hg
    obtain ⟨f0, f1, f2, f3, f4, f5⟩ := hf it (by simp)
    obtain ⟨hs, hgd, hx, es', ep', hdt, hsz, kv⟩ := frzT2 I hd
    obtain ⟨rfl, rfl⟩ := dict_ep hod hdt
    obtain ⟨ok, ov, he⟩ := st
    rw [← hsz] at he
    exact DT.endI (I.ok.hd hc) he ⟨o, hgd, hx, hdt⟩ (by rw [hsz]; exact hi) fun h' eb => ⟨rfl, I.turned (t' := s.toks) (fun b ob hb e => eb b ob hb e) f0 f1 f3 f4 f5⟩
  self := fun A i s Q E st h => let ⟨_, _, e⟩ := st; PySem.W.kcp_self e h
def iItemsT (td : TE) : TI := fun σ H R => td σ H fun x H1 => ∃ d o kvs, x = .ref d ∧ H1 d = some (.frz o (.dT kvs)) ∧ R (ItiT d o kvs) H1
theorem pi_itemsT {e : Expr} {td : TE} {apos cpos : Pos} {elts : List Expr} {kk : Nat} {tpos : Pos} (he : PE X e td) (hbase : attributeBase e "items" X.env (eval e X.env) = eval e X.env := by rfl) (hline : (apos.endLine == cpos.line) = true := by rfl) :
    PI X (.Tuple elts kk tpos) (.Call (.Attribute e "items" apos) [] [] cpos) (iItemsT td) := by
  refine ⟨fun pins s σ H R I h => ?_⟩
  refine wpAny_Call_method (T := "dict") (id := "dict.items") hbase rfl hline PySem.F.plainAttrs_dict PySem.F.slot_dict_items PySem.F.type_dict_items (thn (he.run pins s σ H _ I h) fun u s1 ⟨x, H1, I1, rx, d, o, kvs, ex, hd, q⟩ => ?_)
  subst ex
  obtain rfl : u = Value.ref d := rx
  obtain ⟨hs, hgd, hx, es, ep, hdt, hsz, kv⟩ := frzT2 I1 hd
  have raw : DT.Raw s1.heap d es ep := ⟨o, hgd, hx, hdt⟩
  refine ⟨raw.typeIs, fun a e => by
    cases e
    obtain ⟨o', ho, hc, _⟩ := id raw
    exact ⟨o', ho, by first | exact hc.2 | exact hc.2.1 | exact hc.2.2⟩, ?_⟩
  have I2 : Inv X pins σ H1 { s1 with heap := s1.heap.push { cls := .type "dict_items", data := .fields #[.ref d] } } := I1.kept (t' := s1.toks) fun b ob q => Heap.get?_push_of_some _ q
  have fin : wpAny (model X.prog X.w) X.A (pyIter (.ref s1.heap.objs.size)) (PIE X pins σ (.Tuple elts kk tpos) R) X.xe { s1 with heap := s1.heap.push { cls := .type "dict_items", data := .fields #[.ref d] } } := by
    refine DT.iterI (d := d) (es := es) (ep := ep) ⟨_, Heap.get?_push_size _ rfl, rfl, rfl⟩ (raw.push _) (pi_one (tk := s1.toks) I2 _ (turn_itemsT _ hdt) ⟨.none, .none, ?_⟩ q)
    rw [← hsz]
    exact Heap.get?_push_size _ rfl
  show wpAny _ _ (callWith cpos (.builtin "dict.items") [.ref d] [] []) _ X.xe s1
  exact method_meetsIn PySem.F.slot_dict_items PySem.F.entry_dict_items rfl (PySem.evalArgs_none ⟨rfl, raw.typeIs, PySem.F.args_dict_items_1 _, _, DT.meetsItems (es := es) (ep := ep) hs, ⟨raw, fin⟩⟩)
end

/-! ### t[j], read plainly -/
section
open PySem.Spec PyProof.Rows
variable {P : Program} {w : World} {K : PySem.W.Frag} {mg : Str → Option Value} {Φ : Heap → Prop} {cenv : Env} {m : Str → Option Value} {D U : Nat}
theorem pu_ix {a b : Expr} {pos : Pos} {p : Addr} {its : Array Value} {j : Nat} {x : Value} (S : Stay K mg Φ) (ha : PuE P w Φ cenv m D U a (· = .ref p)) (hb : PuE P w Φ cenv m D U b (fun y => ∃ t, y = .int (j : Int) t)) (ht : ∀ h, Φ h → IsTup h p its) (hj : its[j]? = some x) (hz : its.size ≤ sizeLine)
    (hs : PlainIx b) : PuE P w Φ cenv m D U (.Subscript a b pos) (· = x) := by
  intro A E s h1 h2 h3 hf hn
  have hlt : j < its.size := by
    by_cases h : j < its.size
    · exact h
    · rw [Array.getElem?_eq_none (by omega)] at hj; cases hj
  have hn63 := line63
  refine Subscript_ (wpAny_mono (ha A E s h1 h2 h3 hf hn) (fun v s1 q => ?_) fun _ _ z => z)
  obtain ⟨rfl, k1⟩ := q
  refine wpAny_mono (hb A E s1 h1 h2 h3 (S.up _ _ hf (keepsH k1)) (hn.at' fun o e => keepsH k1 _ o e)) (fun u s2 q2 => ?_) fun _ _ z => z
  obtain ⟨⟨t, rfl⟩, k2⟩ := q2
  have pl : IsTup s2.heap p its := ht _ (S.up _ _ (S.up _ _ hf (keepsH k1)) (keepsH k2))
  exact subscriptTail_builtinR (x := x) pl.typeIs slot_tuple_getitem.lookup
    (getItem_tuple (j := j) (Q := fun r s' => r = x ∧ (r = x ∧ Keeps s s')) pl (by omega) (by omega) (by unfold seqIndex?; first | (simp; omega) | simp [hlt] | (split <;> simp_all <;> omega)) hj ⟨rfl, rfl, keepsT k1 k2⟩) (hs _ _)
end

/-! ### the sum of terms -/
/-- tuples stay, as they stand -/
def Tq (H H' : Hp) : Prop := ∀ b xs, (H b = some (.tup xs) → H' b = some (.tup xs)) ∧ ∀ o, H b = some (.frz o (.tup xs)) → H' b = some (.frz o (.tup xs))
theorem Tq.refl (H : Hp) : Tq H H := fun _ _ => ⟨fun h => h, fun _ h => h⟩
theorem Tq.trans {H H1 H2 : Hp} (a : Tq H H1) (b : Tq H1 H2) : Tq H H2 := fun c xs => ⟨fun h => (b c xs).1 ((a c xs).1 h), fun o h => (b c xs).2 o ((a c xs).2 o h)⟩
theorem Tq.tp {H H' : Hp} (a : Tq H H') : Tp H H' := fun b xs h => by
  rcases h with h | ⟨o, h⟩
  · exact .inl ((a b xs).1 h)
  · exact .inr ⟨o, (a b xs).2 o h⟩
theorem tq_ext {H H' : Hp} (e : LamX.ExtN H H') : Tq H H' := fun _ _ => ⟨fun h => e _ _ h fun ps z => (by cases z), fun _ h => e _ _ h fun ps z => by cases z⟩
theorem tq_same {H H' : Hp} (s : Same H H') : Tq H H' := fun _ _ => ⟨fun h => s _ _ h, fun _ h => s _ _ h⟩
/-- what stands at d is no tuple -/
def noTup : HO → Prop
  | .tup _ => False
  | .frz _ (.tup _) => False
  | _ => True
theorem tq_upd {H : Hp} {d : Addr} {o o' : HO} (h : H d = some o) (n : noTup o) : Tq H (upd H d o') := fun b xs => by
  have ne : ∀ {u}, H b = some u → ¬ noTup u → b ≠ d := fun {u} e z e2 => by
    subst e2
    rw [h] at e
    cases e
    exact z n
  exact ⟨fun e => (upd_ne (ne e fun z => z)).trans e, fun o e => (upd_ne (ne e fun z => z)).trans e⟩
theorem tq_new {H : Hp} {d : Addr} {o : HO} (h : H d = none) : Tq H (upd H d o) := tq_same (same_upd h)
theorem NumV.tq {H H' : Hp} {f : Int} {v : V} {x : Int × Int} (h : NumV H f v x) (e : Tq H H') : NumV H' f v x := by
  rcases h with ⟨h, p, e1, q⟩ | h
  · exact .inl ⟨h, p, e1, (e _ _).1 q⟩
  · exact .inr h
theorem TermV.tq {K : PySem.W.Frag} {H H' : Hp} {f : Int} {v : V} {t : Tm} (h : TermV K H f v t) (e : Tq H H') : TermV K H' f v t := by
  obtain ⟨tp, M, nv, rfl, h1, h2, h3⟩ := h
  exact ⟨tp, M, nv, rfl, e.tp.sqt h1, h2.tq e, (e _ _).1 h3⟩
theorem PolyV.tq {K : PySem.W.Frag} {H H' : Hp} {f : Int} {v : V} {ts : List Tm} (h : PolyV K H f v ts) (e : Tq H H') : PolyV K H' f v ts := by
  obtain ⟨pa, vs, rfl, h1, h2, h3⟩ := h
  exact ⟨pa, vs, rfl, e.tp.sqt h1, h2, fun i v t a b => (h3 i v t a b).tq e⟩
theorem KVs.tq {H H' : Hp} {f : Int} {kvs : List (List L2.Key × V)} {al : Al2} (h : KVs H f kvs al) (e : Tq H H') : KVs H' f kvs al := Paired.mapP h fun _ _ z => ⟨z.1, z.2.tq e⟩
/-- at d there was nothing but perhaps a table -/
def NT (H : Hp) (d : Addr) : Prop := ∀ o, H d = some o → ∃ ps, o = .tbl ps
theorem NT.of {H : Hp} {d : Addr} (h : H d = none) : NT H d := fun o e => by rw [h] at e; cases e
theorem Ex.nt {t : TabsAt} {H H' : Hp} {d : Addr} (x : Ex t H H') (h : H' d = none) : NT H d := fun o e => by
  by_cases c : ∃ ps, o = .tbl ps
  · exact c
  · have := x.keep _ _ e fun ps z => c ⟨ps, z⟩
    rw [h] at this; cases this
/-- an own new object that is neither a table nor code may be written -/
theorem Ex.put {t : TabsAt} {H H' : Hp} {d : Addr} {o o' : HO} (x : Ex t H H') (hd : NT H d) (h' : H' d = some o') (n1 : ∀ ps, o' ≠ .tbl ps) (n2 : ∀ φ, o' ≠ .ext φ) : Ex t H (upd H' d o) := by
  have k : ∀ {b u}, H' b = some u → ((∃ ps, u = .tbl ps) ∨ ∃ φ, u = .ext φ) → upd H' d o b = some u := fun {b u} e z => by
    rw [upd_ne fun y => ?_]
    · exact e
    · subst y
      rw [h'] at e
      cases e
      rcases z with ⟨ps, z⟩ | ⟨φ, z⟩
      · exact n1 ps z
      · exact n2 φ z
  refine ⟨fun b u e n => (upd_ne fun z => (by subst z; obtain ⟨ps, q⟩ := hd u e; exact n ps q)).trans (x.keep b u e n), ⟨fun y hy => ?_, fun y hy z hz => ?_⟩⟩
  · obtain ⟨ps, h1, h2⟩ := x.ts.g y hy
    exact ⟨ps, k h1 (.inl ⟨ps, rfl⟩), h2⟩
  · obtain ⟨ps, a1, a2, a3⟩ := x.ts.l y hy z hz
    refine ⟨ps, k a1 (.inl ⟨ps, rfl⟩), a2, fun pos cv hcv => ?_⟩
    obtain ⟨cz, q1, q2⟩ := a3 pos cv hcv
    exact ⟨cz, q1, k q2 (.inr ⟨_, rfl⟩)⟩
theorem lx_sum : ("sum_of_terms" : Str) ∈ lamsL := by decide
theorem gx_sum : ("sum_of_terms" : Str) ∉ gensL := by decide
def lamK : Expr := match rvOf (stN s_sum_of_terms 5) with
  | .Call _ (.Call _ _ (k :: _) _ :: _) _ _ => k.value
  | _ => .Constant .none 0 ⟨0, 0, 0, 0⟩
def laA (e : Expr) : Arguments := match e with
  | .Lambda a _ _ _ => a
  | _ => { posonlyargs := [], args := [], vararg := none, kwonlyargs := [], kw_defaults := [], kwarg := none, defaults := [] }
def laB (e : Expr) : Expr := match e with
  | .Lambda _ b _ _ => b
  | _ => .Constant .none 0 ⟨0, 0, 0, 0⟩
def laS (e : Expr) : Scope := match e with
  | .Lambda _ _ s _ => s
  | _ => { kind := .function, names := [], isGenerator := false, isCoroutine := false }
theorem free_sum_of_terms {env : Env} (h : env.scope = defScope s_sum_of_terms := by rfl) : ∀ y ∈ (laS lamK).names, y.2 = .free → env.kindOf y.1 = some .cell ∨ env.kindOf y.1 = some .free := fun y hy e => by
  have q : ∀ y ∈ (laS lamK).names, y.2 = .free → (defScope s_sum_of_terms).names.lookup y.1 = some .cell := by decide +kernel
  refine .inl ?_
  show env.scope.names.lookup y.1 = _
  rw [h]
  exact q y hy e
theorem walk_itemsT {d : Addr} {o : Obj} {kvs : List (List L2.Key × V)} : Walk (ItiT d o kvs) kvs.length (fun H => H d = some (.frz o (.dT kvs))) (fun i H x H' => ∃ (T q : Addr) (k : List L2.Key) (v : V), kvs[i]? = some (k, v) ∧ x = .ref T ∧ H q = some (.tup (k.map kV)) ∧ H T = none ∧ H' = upd H T (.tup [.ref q, v])) :=
  ⟨fun _ _ hi q => ⟨q, hi⟩, fun _ q => ⟨q, Nat.le_refl _⟩, fun _ _ _ _ _ _ y => y⟩
theorem fold_take (f : Int) (ts : List Tm) (i : Nat) (t : Tm) (h : ts[i]? = some t) : (ts.take (i + 1)).foldl (addT f) [] = addT f ((ts.take i).foldl (addT f) []) t := by
  rw [List.take_add_one, h, Option.toList_some, List.foldl_append]
  rfl
theorem addT_none {f : Int} {al : Al2} {t : Tm} (h : getM al t.2 = none) : addT f al t = putM al t.2 t.1 := by unfold addT; rw [h]
theorem addT_some {f : Int} {al : Al2} {t : Tm} {y : Int × Int} (h : getM al t.2 = some y) : addT f al t = putM al t.2 (addN f y t.1) := by unfold addT; rw [h]
def keepOf (al : Al2) : List Tm := (al.filter fun e => decide (e.2.1 ≠ 0)).map fun e => (e.2, e.1)
theorem keep_step (al : Al2) (i : Nat) (e : List Int × (Int × Int)) (h : al[i]? = some e) : keepOf (al.take (i + 1)) = keepOf (al.take i) ++ (if e.2.1 ≠ 0 then [(e.2, e.1)] else []) := by
  unfold keepOf
  rw [List.take_add_one, h, Option.toList_some, List.filter_append, List.map_append]
  congr 1
  by_cases c : e.2.1 ≠ 0
  · rw [if_pos c, List.filter_cons_of_pos (by simpa using c)]; rfl
  · rw [if_neg c, List.filter_cons_of_neg (by simpa using c)]; rfl
theorem le_codes {n : Nat} {rs : List (List Int)} (a b : V × Tm) : PySem.W.dataLe true (fun b : V × Int => PyData.int b.2) (a.1, codeR n rs a.2.2) (b.1, codeR n rs b.2.2) = geT n rs a.2 b.2 := by
  show (!PySem.W.dataLt (.int (codeR n rs a.2.2)) (.int (codeR n rs b.2.2))) = _
  rw [PySem.W.dataLt_int]
  unfold geT
  by_cases h : codeR n rs a.2.2 < codeR n rs b.2.2
  · rw [decide_eq_true h, decide_eq_false (by omega)]; rfl
  · rw [decide_eq_false h, decide_eq_true (by omega)]; rfl
theorem zip_paired {α β : Type} {F : α → β → Prop} : ∀ {xs : List α} {ys : List β}, Paired F xs ys → (xs.zip ys).map (·.1) = xs ∧ (xs.zip ys).map (·.2) = ys ∧ ∀ c ∈ xs.zip ys, F c.1 c.2
  | [], [], _ => ⟨rfl, rfl, fun _ h => by cases h⟩
  | [], _ :: _, h => by cases h
  | _ :: _, [], h => by cases h
  | x :: xs, y :: ys, h => by
    cases h with
    | cons a b =>
      obtain ⟨q1, q2, q3⟩ := zip_paired b
      refine ⟨by rw [List.zip_cons_cons, List.map_cons, q1], by rw [List.zip_cons_cons, List.map_cons, q2], fun c hc => ?_⟩
      rcases List.mem_cons.mp hc with rfl | hc
      · exact a
      · exact q3 c hc
theorem len_fold (f : Int) (ts : List Tm) (i : Nat) : ((ts.take i).foldl (addT f) []).length ≤ i := by
  have := fold_len f (ts.take i) []
  rw [List.length_take] at this
  simp only [List.length_nil, Nat.zero_add] at this
  omega
theorem paired_at {α β : Type} {F : α → β → Prop} : ∀ {xs : List α} {ys : List β}, Paired F xs ys → ∀ {i : Nat} {x : α}, xs[i]? = some x → ∃ y, ys[i]? = some y ∧ F x y
  | [], [], _, _, _, h => by simp at h
  | [], _ :: _, h, _, _, _ => by cases h
  | _ :: _, [], h, _, _, _ => by cases h
  | _ :: _, _ :: _, h, 0, _, e => by
    cases h with
    | cons a b => simp at e; subst e; exact ⟨_, rfl, a⟩
  | _ :: _, _ :: _, h, i + 1, _, e => by
    cases h with
    | cons a b => exact paired_at b (by simpa using e)
section
variable {P : Program} {w : World} {K : PySem.W.Frag} {mg : Str → Option Value} {base : Heap}
def sp_sum_of_terms (C : Addr) (t : TabsAt) (K : PySem.W.Frag) : Sp := fun vs H Q _ => ∃ (a : Addr) (f : Int) (n : Nat) (rs : List (List Int)) (v : V) (ts : List Tm), vs = [.ref a, v] ∧ n ≤ 4 ∧ RowsOk n rs ∧ IsF f ∧ CodO C K H a n rs ∧ CodF C H a f ∧ PolyV K H f v ts ∧ ts.length ≤ 5000 ∧ (∀ u ∈ ts, TermOk f n u) ∧ SumOk f ts ∧ TS t H ∧
  ∀ v' H', Ex t H H' → PolyV K H' f v' (polyL f n rs ts) → Q v' H'
theorem ok_sum_of_terms (T : Txt K mg) {t : TabsAt} (B : TBs T base t) : FnOk P w K mg base CX0 16 T.sum_of_terms.f T.sum_of_terms.fd P_sum_of_terms (sp_sum_of_terms T.Coding.C t K) := by
  refine okC T.sum_of_terms.F B.h_sum_of_terms sc_sum_of_terms (fun vs H Q E h => ?_) (fun A outer s H vs Q E hr h => ?_)
  · obtain ⟨a, f, n, rs, v, ts, rfl, _⟩ := h; rfl
  · obtain ⟨a, f, n, rs, v, ts, rfl, hn4, hrs, hF, hc, hcf, hp, hlen, hok, hsum, tsH, k⟩ := h
    obtain ⟨pa, vs, rfl, hP, hvl, hT⟩ := id hp
    obtain ⟨dx, fs, c1, cf, _⟩ := id hcf
    refine ⟨_, (pss_cons (ps_set (i := 2) sc_sum_of_terms.nd rfl (Or.inl rfl) (pe_fld (pv 0) rfl))
  (pss_cons (ps_set (i := 3) sc_sum_of_terms.nd rfl (Or.inl rfl) pe_dnewT)
  (pss_cons (ps_for PassesOwn.never rfl (pi_tup (pv 1)) (pg_tup rfl (pgs_cons (pg_name (i := 4) sc_sum_of_terms.nd rfl (Or.inl rfl)) (pgs_cons (pg_name (i := 5) sc_sum_of_terms.nd rfl (Or.inl rfl)) pgs_nil))) (pss_cons (ps_if (pt_cmp (pc_din (Nat.lt_of_le_of_lt (Nat.add_le_add_left (show 1 ≤ 64 by decide) _) hr.units) (pv 5) (pv 3))) (pss_one (ps_set (i := 4) sc_sum_of_terms.nd rfl (Or.inl rfl) (pe_call (ok_add_numbers T) (hr.mono (by decide)) rfl T.add_numbers.g T.add_numbers.F.kp (b_add_numbers T) .nil pass0 (pa_cons (pv 2) (pa_cons (pe_dget (Nat.lt_of_le_of_lt (Nat.add_le_add_left (show 1 ≤ 64 by decide) _) hr.units) (pv 3) (pv 5) (fun _ _ => rfl)) (pa_cons (pv 4) pa_nil)))))) pss_nil)
  (pss_one (ps_dput (Nat.lt_of_le_of_lt (Nat.add_le_add_left (show 1 ≤ 64 by decide) _) hr.units) (pv 3) (pv 5) (pv 4) rfl))))
  (pss_cons (ps_set (i := 6) sc_sum_of_terms.nd rfl (Or.inr rfl) (pe_call (ok_zero_of T) (hr.mono (by decide)) rfl T.zero_of.g T.zero_of.F.kp (b_zero_of T) .nil pass0 (pa_cons (pv 2) pa_nil)))
  (pss_cons (ps_lock (ps_setLc (i := 7) (own := [("monomial", 5), ("number", 4)]) rfl sc_sum_of_terms.nd rfl rfl (sw_true rfl rfl rfl (by decide +kernel)) (pi_itemsT (pv 3)) (blkOk_by (own := [("monomial", 5), ("number", 4)]) (N := N_sum_of_terms) (sc := defScope s_sum_of_terms) (by decide +kernel)) (fun _ _ _ _ _ => (pg_tupK (K := K) (n := 2) rfl rfl (pgs_cons (pg_name (i := 5) sc_sum_of_terms.nd rfl (Or.inl rfl)) (pgs_cons (pg_name (i := 4) sc_sum_of_terms.nd rfl (Or.inl rfl)) pgs_nil)))) (fun _ _ _ _ _ => pts_one (pt_cmpR (r := rNeD K) (op_neD hr.units) (pv 4) (pv 6) (nomark _))) (fun _ _ _ _ _ => (pe_tup (pa_cons (pv 4) (pa_cons (pv 5) pa_nil))))))
  (pss_one (ps_ret (pe_callTy (r := rTupOf K) call_tuple_of rfl T.n_tuple bo_tuple (pa_cons (pe_sortFR hr rfl T.n_sorted bo_sorted (pv 7) (pe_lamF (T := lamT "sum_of_terms" (t.a "sum_of_terms")) B.b_sum_of_terms rfl (List.mem_cons_self) (fun p hp _ => by unfold lamT at hp; rw [List.mem_singleton] at hp; subst hp; rfl) free_sum_of_terms)) pa_nil))))))))), ?_⟩
    walk_at "rd"
    refine ⟨_, _, _, _, _, rfl, c1, T.Coding.cls, T.Coding.n_field, cf, ?_⟩
    walk_at "rd"
    intro d hd
    walk_at "rd"
    refine ⟨⟨vs, Toy.Same.tup (same_upd hd) hP⟩, ?_⟩
    refine for_tup (K := K) (a := pa) (xs := vs) (fun i σ H' => Ex t H H' ∧ (∃ y z, σ = [some (.ref a), some (.ref pa), some (.int f), some (.ref d), y, z, none, none]) ∧ ∃ kvs, H' d = some (.dT kvs) ∧ KVs H' f kvs ((ts.take i).foldl (addT f) []))
      ⟨Ex.of tsH (same_upd hd), ⟨_, _, rfl⟩, [], upd_same, .nil⟩ (fun i σ H' _ q => (tp_ext q.1.keep).sqt hP) (fun i x σ H' hx q => ?_) (fun σ H' q => ?_)
    · obtain ⟨x1, ⟨y, z, rfl⟩, kvs, hkv, hK⟩ := q
      have hi : i < ts.length := by rw [← hvl]; exact (List.getElem?_eq_some_iff.mp hx).1
      obtain ⟨tp, M, nv, rfl, h1, h2, h3⟩ := (hT i x ts[i] hx (List.getElem?_eq_getElem hi)).ex x1.keep
      obtain ⟨o1, o2⟩ := hok _ (List.getElem_mem hi)
      have hkl : kvs.length ≤ i := by rw [kvs_len hK]; exact len_fold f ts i
      have e3 : H' M = some (.tup ((inlK ts[i].2).map kV)) := by rw [inlK_kV]; exact h3
      have stepK : ∀ (v' : V) (x' : Int × Int) (H2 : Hp), Same H' H2 → NumV H2 f v' x' → addT f ((ts.take i).foldl (addT f) []) ts[i] = putM ((ts.take i).foldl (addT f) []) ts[i].2 x' →
          ∃ H4, DPut H2 d (.ref M) v' H4 ∧ Ex t H H4 ∧ ∃ kvs, H4 d = some (.dT kvs) ∧ KVs H4 f kvs ((ts.take (i + 1)).foldl (addT f) []) := fun v' x' H2 s2 nx e => by
        have hd2 := s2 _ _ hkv
        refine ⟨_, DPut.t hd2 (s2 _ _ e3) (by rw [sizeLine_eq]; omega), (x1.same s2).put (NT.of hd) hd2 (fun _ z => by cases z) (fun _ z => by cases z), _, upd_same, ?_⟩
        rw [fold_take f ts i _ (List.getElem?_eq_getElem hi), e]
        have tq : Tq H2 (upd H2 d (.dT (putK kvs (inlK ts[i].2) v'))) := tq_upd hd2 trivial
        exact kvs_put ((hK.tq (tq_same s2)).tq tq) (nx.tq tq)
      walk_at "rd"
      refine ⟨tp, _, rfl, h1, rfl, ?_⟩
      walk_at "rd"
      refine ⟨d, _, rfl, DGet.t hkv e3, _, rfl, ?_⟩
      rcases kvs_get (m := ts[i].2) hK with ⟨g1, g2⟩ | ⟨v0, x0, g1, g2, g3⟩
      · rw [g1]
        refine iteF ?_
        walk_at "rd"
        obtain ⟨H4, q1, q2, q3⟩ := stepK nv ts[i].1 H' (Same.refl _) h2 (addT_none g2)
        exact ⟨d, H4, rfl, q1, q2, ⟨_, _, rfl⟩, q3⟩
      · rw [g1]
        refine iteT ?_
        walk_at "rd"
        refine ⟨d, v0, rfl, ?_, ?_⟩
        · have := DGet.t hkv e3
          rw [g1] at this
          exact this
        walk_at "rd"
        have hmem : ∃ e ∈ (ts.take i).foldl (addT f) [], e.2 = x0 := by
          have go : ∀ {al : Al2} {m : List Int}, getM al m = some x0 → ∃ e ∈ al, e.2 = x0 := by
            intro al m
            induction al with
            | nil => intro z; cases z
            | cons e al ih =>
              intro z
              unfold getM at z
              by_cases he : e.1 = m
              · rw [if_pos he] at z; exact ⟨e, List.mem_cons_self, Option.some.inj z⟩
              · rw [if_neg he] at z
                obtain ⟨e', q1, q2⟩ := ih z
                exact ⟨e', List.mem_cons_of_mem _ q1, q2⟩
          exact go g2
        obtain ⟨e0, m0, rfl⟩ := hmem
        refine ⟨f, v0, nv, e0.2, ts[i].1, rfl, hF, g3, h2, hsum i e0 m0, o1, fun v' H2 nx s2 => ?_⟩
        walk_at "rd"
        obtain ⟨H4, q1, q2, q3⟩ := stepK v' _ H2 s2 nx (addT_some g2)
        exact ⟨d, H4, rfl, q1, q2, ⟨_, _, rfl⟩, q3⟩
    · obtain ⟨x1, ⟨y, z, rfl⟩, kvs, hkv, hK⟩ := q
      rw [hvl, List.take_length] at hK
      walk_at "rd"
      intro zv H2 nz s2
      have hd2 := s2 _ _ hkv
      have hK2 := hK.tq (tq_same s2)
      walk_at "rd"
      refine ⟨d, _, hd2, trivial, fun od => ?_⟩
      obtain ⟨G, eG⟩ : ∃ G, G = upd H2 d (.frz od (.dT kvs)) := ⟨_, rfl⟩
      have Gd : G d = some (.frz od (.dT kvs)) := by rw [eG]; exact upd_same
      have gq : Tq H2 G := by rw [eG]; exact tq_upd hd2 trivial
      rw [← eG]
      walk_at "rd"
      refine ⟨d, od, kvs, rfl, Gd, fun D hD => ?_⟩
      have hKl : kvs.length = (sumL f ts).length := kvs_len hK2
      have hsl : (sumL f ts).length ≤ 5000 := Nat.le_trans (sum_len f ts) hlen
      refine lc_it (walk_itemsT) (fun i H5 => ∃ ys, Same G H5 ∧ H5 D = some (.lst ys) ∧ Paired (fun y u => TermV K H5 f y u) ys (keepOf ((sumL f ts).take i))) ⟨[], same_upd hD, upd_same, .nil⟩ (fun i H5 _ q => by obtain ⟨_, q, _⟩ := q; exact q _ _ Gd) (fun i x H5 H6 hi q y => ?_) (fun H5 q => ?_)
      · obtain ⟨ys, s5, hD5, hp5⟩ := q
        obtain ⟨Tt, q0, ky, v, e1, rfl, e2, e3, rfl⟩ := y
        obtain ⟨em, e4, ⟨e5, e6⟩⟩ := paired_at hK2 e1
        have e5 : ky = inlK em.1 := e5
        have e6 : NumV H2 f v em.2 := e6
        subst e5
        have hm : em ∈ sumL f ts := List.mem_of_getElem? e4
        have oke : NumOk f em.2 := by
          have := hsum ts.length em
          rw [List.take_length] at this
          exact this hm
        have s6 : Same H5 (upd H5 Tt (.tup [.ref q0, v])) := same_upd e3
        refine ⟨Tt, _, rfl, .inl (.inl upd_same), rfl, ?_⟩
        walk_at "rd"
        have nv6 := ((e6.tq gq).tq (tq_same s5)).tq (tq_same s6)
        have nz6 := (((nz).tq gq).tq (tq_same s5)).tq (tq_same s6)
        refine ⟨_, _, nv6.dp, nz6.dp, numD_shaped _ _, numD_shaped _ _, ?_⟩
        rw [numD_zero oke]
        refine ⟨_, rfl, ?_⟩
        refine iteDn (fun g => ?_) (fun g => ?_)
        · walk_at "rd"
          refine ⟨two_line, fun p hp => ?_⟩
          have s7 : Same H5 (upd (upd H5 Tt (.tup [.ref q0, v])) p (.tup [v, .ref q0])) := Same.trans s6 (same_upd hp)
          refine ⟨ys, s7 _ _ hD5, ?_, _, ?_, upd_same, ?_⟩
          · have hl : ys.length = (keepOf ((sumL f ts).take i)).length := Paired.length hp5
            have : (keepOf ((sumL f ts).take i)).length ≤ 5000 := by
              unfold keepOf
              rw [List.length_map]
              refine Nat.le_trans (List.length_filter_le _ _) ?_
              rw [List.length_take]
              omega
            rw [sizeLine_eq]; omega
          · intro b o e
            have nb : b ≠ D := fun z => by
              subst z
              rw [hD] at e; cases e
            exact (upd_ne nb).trans (s7 _ _ (s5 _ _ e))
          · rw [keep_step (sumL f ts) i em e4, if_pos g]
            have tq : Tq H5 (upd (upd (upd H5 Tt (.tup [.ref q0, v])) p (.tup [v, .ref q0])) D (.lst (ys ++ [.ref p]))) := (tq_same s7).trans (tq_upd (s7 _ _ hD5) trivial)
            have t2 : Tq (upd H5 Tt (.tup [.ref q0, v])) (upd (upd (upd H5 Tt (.tup [.ref q0, v])) p (.tup [v, .ref q0])) D (.lst (ys ++ [.ref p]))) := (tq_new hp).trans (tq_upd (s7 _ _ hD5) trivial)
            have nD : p ≠ D := fun z => by
              subst z
              rw [s6 _ _ hD5] at hp; cases hp
            refine paired_app (Paired.mapP hp5 fun _ _ z => z.tq tq) ⟨p, q0, v, rfl, .inl (.inl ((upd_ne nD).trans upd_same)), nv6.tq t2, ?_⟩
            show _ = some (HO.tup (em.1.map V.int))
            rw [← inlK_kV]
            exact (tq _ _).1 e2
        · refine ⟨ys, fun b o e => s6 _ _ (s5 _ _ e), s6 _ _ hD5, ?_⟩
          rw [keep_step (sumL f ts) i em e4, if_neg (by omega), List.append_nil]
          exact Paired.mapP hp5 fun _ _ z => z.tq (tq_same s6)
      · obtain ⟨ys, s5, hD5, hp5⟩ := q
        rw [hKl, List.take_length] at hp5
        have Hd5 := s5 _ _ Gd
        refine ⟨Hd5, ?_⟩
        obtain ⟨U, eU⟩ : ∃ U, U = upd H5 d (.dT kvs) := ⟨_, rfl⟩
        have sU : Same H2 U := fun b o e => by
          rw [eU]
          by_cases hb : b = d
          · subst hb
            rw [hd2] at e
            cases e
            exact upd_same
          · refine (upd_ne hb).trans (s5 _ _ ?_)
            rw [eG]
            exact (upd_ne hb).trans e
        have nDd : D ≠ d := fun z => by
          subst z
          rw [Gd] at hD; cases hD
        have UD : U D = some (.lst ys) := by rw [eU]; exact (upd_ne nDd).trans hD5
        have uq : Tq H5 U := by rw [eU]; exact tq_upd Hd5 trivial
        have xU : Ex t H U := (x1.same s2).same sU
        have hpU : Paired (fun y u => TermV K U f y u) ys (keptL f ts) := Paired.mapP hp5 fun _ _ z => z.tq uq
        rw [← eU]
        walk_at "rd"
        refine ⟨xU.ts.l _ lx_sum, fun g c' H3 kb e3 t3 g1 cc1 => ?_⟩
        have x3 : Ex t U H3 := by
          obtain ⟨ps, q1, _⟩ := xU.ts.l _ lx_sum _ List.mem_cons_self
          exact ⟨e3, xU.ts.lam lx_sum gx_sum kb t3 ⟨ps, q1⟩⟩
        have c3 : CodO T.Coding.C K H3 a n rs := (CodO.ex xU hc).ex x3
        have hp3 : Paired (fun y u => TermV K H3 f y u) ys (keptL f ts) := Paired.mapP hpU fun _ _ z => z.ex x3.keep
        have el : H3 D = some (.lst ys) := e3 _ _ UD fun _ z => nomatch z
        obtain ⟨z1, z2, z3⟩ := zip_paired hp3
        obtain ⟨cs, ecs⟩ : ∃ cs, cs = ys.zip (keptL f ts) := ⟨_, rfl⟩
        rw [← ecs] at z1 z2 z3
        have cok : ∀ c ∈ cs, Mon n c.2.2 := fun c hc => by
          have hm : c.2 ∈ keptL f ts := by rw [← z2]; exact List.mem_map_of_mem hc
          unfold keptL at hm
          obtain ⟨e, he, q⟩ := List.mem_map.mp hm
          have := sum_key (f := f) (p := fun m => Mon n m) (fun u hu => (hok u hu).2) e (List.mem_filter.mp he).1
          rw [← q]
          exact this
        refine ⟨D, g, cs.map fun c => (c.1, codeR n rs c.2.2), rfl, rfl, .inl (.inl ?_), ?_, fun p hp => ?_⟩
        · rw [el, ← z1, List.map_map]
          rfl
        · intro Φ pins t1 Sx I hΦ b hb u ru
          obtain ⟨c, hcc, rfl⟩ := List.mem_map.mp hb
          obtain ⟨tp, M, nv, e0, h1, _, h3⟩ := z3 c hcc
          have ru : RelV c.1 u := ru
          rw [e0] at ru
          obtain rfl : u = Value.ref tp := ru
          obtain ⟨its, rvs, ⟨ot, ot1, ot2⟩, hz⟩ := I.tuple h1
          have eM : its.toArray[1]? = some (Value.ref M) ∧ its.toArray.size ≤ sizeLine := by
            cases rvs with
            | cons r1 t1 =>
              cases t1 with
              | cons r2 t2 =>
                cases t2
                exact ⟨by rw [← (show _ = Value.ref M from r2)]; rfl, two_line⟩
          obtain ⟨⟨pm, ctv, og⟩, _, _⟩ := I.hok g _ g1
          obtain ⟨⟨oc, cvs, tt, o1, o2, o3⟩, _, _⟩ := I.hok c' _ cc1
          have hcell : t1.heap.IsCell (s.heap.objs.size + 1) (some (.ref a)) := by
            obtain ⟨m, _, hl⟩ := I.loc
            obtain ⟨u, ru, lk⟩ := hl 0 "coding" (.ref a) rfl rfl (.inr (.inl rfl))
            obtain rfl : u = Value.ref a := ru
            rcases lk with ⟨z, _⟩ | ⟨_, c0, z1, z2⟩
            · cases z
            · cases z1
              exact z2
          refine pf_lam1 Sx (fun h q => ⟨pm, ctv, hΦ h q _ _ og⟩) (fun h q => ⟨oc, cvs, tt, hΦ h q _ _ o1, o2, o3⟩) rfl rfl rfl (by decide) (x := "term") rfl (fun _ _ => rfl) (Nat.lt_of_le_of_lt (Nat.le_add_right _ (3 * 15 + 5)) hr.dp) fun env ev hsc hcl => ?_
          have cO : ∀ h, Φ h → ∃ dx' mA, ObjM h a dx' T.Coding.C mA ∧ mA ("code" : Str) = Option.none := fun h q => by
            obtain ⟨dx', L', fs', rv', w1, _, _, _, _, _, w7⟩ := c3
            obtain ⟨mA, O, hr', _⟩ := ins_get I.hok w1
            obtain ⟨z1, z2, z3⟩ := O
            exact ⟨dx', mA, ⟨hΦ h q _ _ z1, z2.keeps fun b o e => hΦ h q b o e, z3⟩, RelO.none_of (by rw [← w7]; exact hr' _)⟩
          refine pu_meth (Rs := fun us => us = [Value.ref M]) Sx (pu_free ev (by rw [hsc]; rfl) (by rw [hcl]; rfl) fun h q => hcell.keeps fun b o e => hΦ h q b o e) T.Coding.cls T.Coding.m_code cO (fun pos A' E' s' w1 w2 w3 w4 w5 => wpAny_mono ((pua_cons Sx (pu_ix (j := 1) Sx (pu_name (x := "term") (u := .ref tp) ev (by rw [hsc]; rfl) rfl) pu_int (fun h q => ⟨ot, hΦ h q _ _ ot1, ot2⟩) eM.1 eM.2 (fun _ _ => rfl)) pua_nil) pos A' E' s' w1 w2 w3 w4 w5) (fun us s2 w => ?_) fun _ _ z => z) ?_
          · obtain ⟨⟨u0, v0, e0, e1, e2⟩, w⟩ := w
            exact ⟨by rw [e0, e1, e2], w⟩
          · rintro us rfl
            exact PuG.pos (code_pu T Sx hΦ I.hok I.kIn c3 (.inl (.inl h3)) (unit_mul hn4 hrs (cok _ hcc).1) (by have h := hr.dp; show (A.deeper _).depth + 1 + 8 < recursionLimit; omega) (by have h := hr.un; show (A.deeper _).units + 2 + 3 + 64 < cLine; omega)) Sx (b_Coding_code T) rfl
        · refine ⟨_, _, rfl, .inl ⟨.inl (.inl upd_same), fun l hl => ?_⟩⟩
          have s9 : Same H3 (upd (upd H3 p (.lst ((List.map (fun c => (c.1, codeR n rs c.2.2)) cs).mergeSort (PySem.W.dataLe true fun b => PyData.int b.2) |>.map (·.1)))) l (.tup ((List.map (fun c => (c.1, codeR n rs c.2.2)) cs).mergeSort (PySem.W.dataLe true fun b => PyData.int b.2) |>.map (·.1)))) := Same.trans (same_upd hp) (same_upd hl)
          have e1 : ((cs.map fun c => (c.1, codeR n rs c.2.2)).mergeSort (PySem.W.dataLe true fun b => PyData.int b.2)) = (cs.mergeSort fun a b => geT n rs a.2 b.2).map fun c => (c.1, codeR n rs c.2.2) :=
            (PySem.W.sort_maps (fun c : V × Tm => (c.1, codeR n rs c.2.2)) fun a _ b _ => (le_codes a b).symm).symm
          have e2' : (cs.mergeSort fun a b => geT n rs a.2 b.2).map (·.2) = polyL f n rs ts := by
            unfold polyL
            rw [← z2]
            exact PySem.W.sort_maps (fun c : V × Tm => c.2) fun _ _ _ _ => rfl
          refine k _ _ ((xU.trans x3).same s9) ⟨l, _, rfl, .inl (.inl upd_same), ?_, fun i v u h1 h2 => ?_⟩
          · rw [List.length_map, e1, List.length_map, ← e2', List.length_map]
          · rw [e1, List.map_map, List.getElem?_map] at h1
            rw [← e2', List.getElem?_map] at h2
            obtain ⟨c, hc1, rfl⟩ := Option.map_eq_some_iff.mp h1
            rw [hc1] at h2
            cases h2
            exact (z3 c ((List.mergeSort_perm _ _).mem_iff.mp (List.mem_of_getElem? hc1))).tq (tq_same s9)
end

/-! ### the law's own way to a polynomial -/
/-- the monomials in rising order of their numbers -/
def leM (n : Nat) (o : Ord) (a b : List Int) : Bool := PySem.W.dataLe false (fun m => PyData.int (codeN n o m)) a b
/-- the law's order of keys and monomials is that of the numbers -/
theorem le_same {n : Nat} {o : Ord} {a b : List Int} (ha : Mon n a) (hb : Mon n b) (h1 : 1 ≤ n) (h4 : n ≤ 4) (ho : OrdOk n o) :
    leM n o a b = PySem.W.dataLe false (fun m => PyData.tuple [keyD o m, rD m]) a b := by
  have hl : b.length = a.length := by rw [ha.1.1, hb.1.1]
  have K := ky_two (ky_key hl o) (ky_ints hl)
  show (!PySem.W.dataLt (.int (codeN n o b)) (.int (codeN n o a))) = !PySem.W.dataLt (.tuple [keyD o b, rD b]) (.tuple [keyD o a, rD a])
  rw [K.lt, PySem.W.dataLt_int, lexS_app _ _ _ _ (keyL_len hl o), ← rows_key hb.1.1 ha.1.1 h1 h4 ho]
  have hc := code_cmp hb ha h1 h4 ho
  congr 1
  by_cases h : cmpS n o b a = 0
  · have e := cmp_zero hb.1.1 ha.1.1 h1 h4 ho h
    subst e
    rw [if_pos h, lexS_self]
    simp
  · rw [if_neg h, ← hc]
    unfold sgn
    by_cases g : codeN n o b - codeN n o a = 0
    · rw [if_pos g]; simp; omega
    · rw [if_neg g]
      by_cases g2 : 0 < codeN n o b - codeN n o a
      · rw [if_pos g2]; simp; omega
      · rw [if_neg g2]; simp; omega

theorem perm_pair_eq {α : Type} (c : α → Int) : ∀ {a b : List α}, a.Perm b → a.Pairwise (fun x y => c y ≤ c x) → b.Pairwise (fun x y => c y ≤ c x) → (∀ x ∈ a, ∀ y ∈ a, c x = c y → x = y) → a = b
  | [], b, h, _, _, _ => (List.Perm.nil_eq h)
  | x :: a, [], h, _, _, _ => by cases h.symm.nil_eq
  | x :: a, y :: b, h, ha, hb, inj => by
    rw [List.pairwise_cons] at ha hb
    have hx : x ∈ y :: b := h.mem_iff.mp List.mem_cons_self
    have hy : y ∈ x :: a := h.mem_iff.mpr List.mem_cons_self
    have e : x = y := by
      rcases List.mem_cons.mp hx with e | e
      · exact e
      · rcases List.mem_cons.mp hy with e2 | e2
        · exact e2.symm
        · have h1 := hb.1 x e
          have h2 := ha.1 y e2
          exact inj x List.mem_cons_self y hy (by omega)
    subst e
    rw [perm_pair_eq c h.cons_inv ha.2 hb.2 fun u hu v hv => inj u (List.mem_cons_of_mem _ hu) v (List.mem_cons_of_mem _ hv)]
theorem leM_le (n : Nat) (o : Ord) (a b : List Int) : leM n o a b = decide (codeN n o a ≤ codeN n o b) := by
  show (!PySem.W.dataLt (.int (codeN n o b)) (.int (codeN n o a))) = _
  rw [PySem.W.dataLt_int]
  by_cases h : codeN n o b < codeN n o a
  · rw [decide_eq_true h, decide_eq_false (by omega)]; rfl
  · rw [decide_eq_false h, decide_eq_true (by omega)]; rfl
theorem code_inj {n : Nat} {o : Ord} {a b : List Int} (ha : Mon n a) (hb : Mon n b) (h1 : 1 ≤ n) (h4 : n ≤ 4) (ho : OrdOk n o) (h : codeN n o a = codeN n o b) : a = b := by
  have hc := code_cmp ha hb h1 h4 ho
  rw [h, Int.sub_self] at hc
  exact cmp_zero ha.1.1 hb.1.1 h1 h4 ho (by rw [← hc]; rfl)
/-- terms in falling order -/
def sortT (n : Nat) (o : Ord) (l : List Tm) : List Tm := l.mergeSort (geT n (rowsL n o))
theorem sortT_perm (n : Nat) (o : Ord) (l : List Tm) : (sortT n o l).Perm l := List.mergeSort_perm _ _
theorem sortT_pair (n : Nat) (o : Ord) (l : List Tm) : (sortT n o l).Pairwise fun a b => codeN n o b.2 ≤ codeN n o a.2 := by
  refine List.Pairwise.imp (fun {a b} h => ?_) (List.pairwise_mergeSort (geT_trans n (rowsL n o)) (geT_total n (rowsL n o)) l)
  unfold geT at h
  rw [decide_eq_true_eq] at h
  exact h
/-- the monomials of terms, sorted by the law's keys, backwards -/
theorem keys_sorted {n : Nat} {o : Ord} {l : List Tm} (h1 : 1 ≤ n) (h4 : n ≤ 4) (ho : OrdOk n o) (hm : ∀ u ∈ l, Mon n u.2) : ((l.map (·.2)).mergeSort (leM n o)).reverse = (sortT n o l).map (·.2) := by
  refine perm_pair_eq (codeN n o) ?_ ?_ ?_ ?_
  · exact (List.reverse_perm _).trans ((List.mergeSort_perm _ _).trans ((sortT_perm n o l).map _).symm)
  · rw [List.pairwise_reverse]
    have tr : ∀ a b c : List Int, leM n o a b = true → leM n o b c = true → leM n o a c = true := fun a b c x y => by
      rw [leM_le, decide_eq_true_eq] at *; omega
    have tt : ∀ a b : List Int, (leM n o a b || leM n o b a) = true := fun a b => by
      rw [leM_le, leM_le, Bool.or_eq_true, decide_eq_true_eq, decide_eq_true_eq]; omega
    refine List.Pairwise.imp (fun {a b} h => ?_) (List.pairwise_mergeSort tr tt (l.map (·.2)))
    rw [leM_le, decide_eq_true_eq] at h
    exact h
  · rw [List.pairwise_map]
    exact sortT_pair n o l
  · intro x hx y hy e
    have mem : ∀ {z}, z ∈ ((l.map (·.2)).mergeSort (leM n o)).reverse → Mon n z := fun {z} hz => by
      rw [List.mem_reverse, (List.mergeSort_perm _ _).mem_iff] at hz
      obtain ⟨u, hu, rfl⟩ := List.mem_map.mp hz
      exact hm u hu
    exact code_inj (mem hx) (mem hy) h1 h4 ho e
theorem getM_mem : ∀ {al : Al2}, (al.map (·.1)).Nodup → ∀ {e}, e ∈ al → getM al e.1 = some e.2
  | [], _, _, h => by cases h
  | e0 :: al, hn, e, h => by
    rw [List.map_cons, List.nodup_cons] at hn
    unfold getM
    rcases List.mem_cons.mp h with rfl | h
    · rw [if_pos rfl]
    · rw [if_neg fun z => hn.1 (by rw [z]; exact List.mem_map_of_mem h)]
      exact getM_mem hn.2 h
theorem keep_get {al : Al2} (hn : (al.map (·.1)).Nodup) {u : Tm} (h : u ∈ keepOf al) : getM al u.2 = some u.1 := by
  unfold keepOf at h
  obtain ⟨e, he, rfl⟩ := List.mem_map.mp h
  exact getM_mem hn (List.mem_filter.mp he).1

theorem tOnly_rvD (m : List Int) : tOnly (rvD m) = true := by
  show (true && (tOnly (rD (m.reverse.map fun e => 0 - e)) && true)) = true
  rw [tOnly_rD]; rfl
theorem tOnly_keyD (o : Ord) (m : List Int) : tOnly (keyD o m) = true := by
  cases o with
  | lex => exact tOnly_rD m
  | deglex => show (true && (tOnly (rD m) && true)) = true; rw [tOnly_rD]; rfl
  | drl => exact tOnly_rvD m
  | block k => show (tOnly (rvD (m.take k)) && (tOnly (rvD (m.drop k)) && true)) = true; rw [tOnly_rvD, tOnly_rvD]; rfl
  | wts ws => show (true && (tOnly (rvD m) && true)) = true; rw [tOnly_rvD]; rfl
theorem tOnly_key (o : Ord) (m : List Int) : tOnly (.tuple [keyD o m, rD m]) = true := by
  show (tOnly (keyD o m) && (tOnly (rD m) && true)) = true
  rw [tOnly_keyD, tOnly_rD]; rfl
theorem depthAll_ints : ∀ l : List Int, PyData.depthAll (l.map PyData.int) = 0
  | [] => rfl
  | x :: l => by
    rw [List.map_cons]
    show max 0 (PyData.depthAll (l.map PyData.int)) = 0
    rw [depthAll_ints l]; rfl
theorem depth_rD (a : List Int) : (rD a).depth = 1 := by
  show PyData.depthAll (a.map .int) + 1 = 1
  rw [depthAll_ints]
theorem depth_two (x y : PyData) : (PyData.tuple [x, y]).depth = max x.depth (max y.depth 0) + 1 := rfl
theorem depth_rv (a : List Int) : (rvD a).depth = 2 := by
  unfold rvD
  rw [depth_two, depth_rD]; rfl
theorem depth_key (o : Ord) (a : List Int) : (keyD o a).depth ≤ 3 := by
  cases o with
  | lex => show (rD a).depth ≤ 3; rw [depth_rD]; omega
  | deglex => show (PyData.tuple [.int a.sum, rD a]).depth ≤ 3; rw [depth_two, depth_rD]; show max 0 (max 1 0) + 1 ≤ 3; omega
  | drl => show (rvD a).depth ≤ 3; rw [depth_rv]; omega
  | block k => show (PyData.tuple [rvD (a.take k), rvD (a.drop k)]).depth ≤ 3; rw [depth_two, depth_rv, depth_rv]; omega
  | wts ws => show (PyData.tuple [.int (dotZ ws a), rvD a]).depth ≤ 3; rw [depth_two, depth_rv]; show max 0 (max 2 0) + 1 ≤ 3; omega
/-- a pair of a monomial's key and the monomial -/
def KeyV (K : PySem.W.Frag) (H : Hp) (o : Ord) (v : V) (m : List Int) : Prop := ∃ (a M : Addr) (kv : V), v = .ref a ∧ SqT K H a [kv, .ref M] ∧ Dp K H kv (keyD o m) ∧ H M = some (.tup (m.map V.int))
theorem KeyV.tq {K : PySem.W.Frag} {H H' : Hp} {o : Ord} {v : V} {m : List Int} (h : KeyV K H o v m) (e : Tq H H') : KeyV K H' o v m := by
  obtain ⟨a, M, kv, h1, h2, h3, h4⟩ := h
  exact ⟨a, M, kv, h1, e.tp.sqt h2, Dp.tp e.tp _ _ (tOnly_keyD o m) h3, (e _ _).1 h4⟩
theorem KeyV.dp {K : PySem.W.Frag} {H : Hp} {o : Ord} {v : V} {m : List Int} (h : KeyV K H o v m) : Dp K H v (.tuple [keyD o m, rD m]) := by
  obtain ⟨a, M, kv, rfl, h2, h3, h4⟩ := h
  exact .tup h2 (.cons h3 (.cons (dp_ints (.inl (.inl h4))) .nil))
def MonV (H : Hp) (v : V) (m : List Int) : Prop := ∃ M, v = .ref M ∧ H M = some (.tup (m.map V.int))
theorem MonV.tq {H H' : Hp} {v : V} {m : List Int} (h : MonV H v m) (e : Tq H H') : MonV H' v m := by
  obtain ⟨M, h1, h2⟩ := h
  exact ⟨M, h1, (e _ _).1 h2⟩
theorem keep_mem {al : Al2} {u : Tm} (h : u ∈ keepOf al) : (u.2, u.1) ∈ al := by
  unfold keepOf at h
  obtain ⟨e, he, rfl⟩ := List.mem_map.mp h
  exact (List.mem_filter.mp he).1
theorem keep_len (al : Al2) : (keepOf al).length ≤ al.length := by
  unfold keepOf
  rw [List.length_map]
  exact List.length_filter_le _ _
section
variable {P : Program} {w : World} {K : PySem.W.Frag} {mg : Str → Option Value} {base : Heap}
def sp_law_made (K : PySem.W.Frag) : Sp := fun vs H Q _ => ∃ (f : Int) (n : Nat) (o : Ord) (rv : V) (d : Addr) (kvs : List (List L2.Key × V)) (al : Al2), vs = [rv, .ref d] ∧ RgV K H rv f n o ∧ H d = some (.dT kvs) ∧ KVs H f kvs al ∧ (al.map (·.1)).Nodup ∧ (∀ e ∈ al, Mon n e.1 ∧ NumOk f e.2) ∧ al.length ≤ 5000 ∧
  ∀ v' H', Same H H' → PolyV K H' f v' (sortT n o (keepOf al)) → Q v' H'
theorem ok_law_made (T : Txt K mg) : FnOk P w K mg base CX0 3 T.law_made.f T.law_made.fd P_law_made (sp_law_made K) := by
  refine T.law_made.F.ok sc_law_made (fun vs H Q E h => ?_) (fun cdv A outer s H vs Q E hr h => ?_)
  · obtain ⟨f, n, o, rv, d, kvs, al, rfl, _⟩ := h; rfl
  · obtain ⟨f, n, o, rv, d, kvs, al, rfl, hv, hd, hK, hnd, hok, hal, k⟩ := h
    obtain ⟨ra, ov, rfl, hR, hov⟩ := ring_parts hv.hd
    have hf0 := hv.hf.isF.lt.1
    refine ⟨_, (pss_cons (ps_lock (ps_setLc (i := 2) (own := [("mono", 3)]) rfl sc_law_made.nd rfl rfl (sw_true rfl rfl rfl (by decide +kernel)) (pi_keys (pv 1)) (blkOk_by (own := [("mono", 3)]) (N := N_law_made) (sc := defScope s_law_made) (by decide +kernel)) (fun _ _ _ _ _ => (pg_name (i := 3) sc_law_made.nd rfl (Or.inl rfl))) (fun _ _ _ _ _ => pts_one (pt_cmpR (r := rNeD K) (op_neD hr.units) (pe_dget (Nat.lt_of_le_of_lt (Nat.add_le_add_left (show 1 ≤ 64 by decide) _) hr.units) (pv 1) (pv 3) (fun _ _ => rfl)) (pe_call (ok_law_zero T) (hr.mono (by decide)) rfl T.law_zero.g T.law_zero.F.kp (b_law_zero T) .nil pass0 (pa_cons (pe_ix (r := rIxT K) ix_tup (pv 0) pe_int (fun _ _ => rfl)) pa_nil)) (nomark _))) (fun _ _ _ _ _ => (pv 3))))
  (pss_cons (ps_set (i := 4) sc_law_made.nd rfl (Or.inl rfl) (pe_revL (pe_callB (r := rSortedD K) (cr_sortedD hr.units) rfl T.n_sorted bo_sorted (pa_cons (pe_lc (own := [("mono", 3)]) rfl sc_law_made.nd (pi_list (pv 2)) (blkOk_by (own := [("mono", 3)]) (N := N_law_made) (sc := defScope s_law_made) (by decide +kernel)) (fun _ _ _ _ _ => (pg_name (i := 3) sc_law_made.nd rfl (Or.inl rfl))) (fun _ _ _ _ _ => pts_nil) (fun _ _ _ _ _ => (pe_tup (pa_cons (pe_call (ok_law_key T) (hr.mono (by decide)) rfl T.law_key.g T.law_key.F.kp (b_law_key T) .nil pass0 (pa_cons (pe_ix (r := rIxT K) ix_tup (pv 0) pe_int (fun _ _ => rfl)) (pa_cons (pv 3) pa_nil))) (pa_cons (pv 3) pa_nil))))) pa_nil))))
  (pss_one (ps_ret (pe_callTy (r := rTupOf K) call_tuple_of rfl T.n_tuple bo_tuple (pa_cons (pe_lc (own := [("key", 5), ("mono", 3)]) rfl sc_law_made.nd (pi_list (pv 4)) (blkOk_by (own := [("key", 5), ("mono", 3)]) (N := N_law_made) (sc := defScope s_law_made) (by decide +kernel)) (fun _ _ _ _ _ => (pg_tupK (K := K) (n := 2) rfl rfl (pgs_cons (pg_name (i := 5) sc_law_made.nd rfl (Or.inl rfl)) (pgs_cons (pg_name (i := 3) sc_law_made.nd rfl (Or.inl rfl)) pgs_nil)))) (fun _ _ _ _ _ => pts_nil) (fun _ _ _ _ _ => (pe_tup (pa_cons (pe_dget (Nat.lt_of_le_of_lt (Nat.add_le_add_left (show 1 ≤ 64 by decide) _) hr.units) (pv 1) (pv 3) (fun _ _ => rfl)) (pa_cons (pv 3) pa_nil))))) pa_nil)))))), ?_⟩
    walk_at "rd"
    refine ⟨d, _, hd, trivial, fun od => ?_⟩
    obtain ⟨G, eG⟩ : ∃ G, G = upd H d (.frz od (.dT kvs)) := ⟨_, rfl⟩
    have Gd : G d = some (.frz od (.dT kvs)) := by rw [eG]; exact upd_same
    have gq : Tq H G := by rw [eG]; exact tq_upd hd trivial
    rw [← eG]
    walk_at "rd"
    refine ⟨d, od, rfl, .inr ⟨kvs, Gd, fun D hD => ?_⟩⟩
    refine lc_it (walk_keysT) (fun i H5 => ∃ ys, Same G H5 ∧ H5 D = some (.lst ys) ∧ Paired (fun y u => MonV H5 y u.2) ys (keepOf (al.take i))) ⟨[], same_upd hD, upd_same, .nil⟩ (fun i H5 _ q => by obtain ⟨_, q, _⟩ := q; exact q _ _ Gd) (fun i x H5 H6 hi q y => ?_) (fun H5 q => ?_)
    · obtain ⟨ys, s5, hD5, hp5⟩ := q
      obtain ⟨eH, ky, v, q0, e1, rfl, e2⟩ := y
      rw [eH]
      obtain ⟨em, e4, ⟨e5, e6⟩⟩ := paired_at hK e1
      have e5 : ky = inlK em.1 := e5
      subst e5
      have hm : em ∈ al := List.mem_of_getElem? e4
      have g5 : Tq H H5 := gq.trans (tq_same s5)
      obtain ⟨v1, x1, w1, w2, w3⟩ : ∃ v1 x1, valV kvs (inlK em.1) = some v1 ∧ x1 = em.2 ∧ NumV H f v1 em.2 := by
        have hg := getM_mem hnd hm
        rcases kvs_get (m := em.1) hK with ⟨_, z⟩ | ⟨v1, x1, z1, z2, z3⟩
        · rw [hg] at z; cases z
        · rw [hg] at z2
          cases z2
          exact ⟨v1, em.2, z1, rfl, z3⟩
      have Hd5 := s5 _ _ Gd
      walk_at "rd"
      refine ⟨d, v1, rfl, .inr ⟨kvs, inlK em.1, q0, .inr ⟨od, Hd5⟩, rfl, e2, w1.symm⟩, ?_⟩
      walk_at "rd"
      have hR5 := g5.tp.sqt hR
      refine ⟨_, _, _, _, rfl, rfl, hR5, rfl, ?_⟩
      walk_at "rd"
      refine ⟨hf0, fun zv H6 nz s6 => ?_⟩
      walk_at "rd"
      have nv6 := (w3.tq g5).tq (tq_same s6)
      refine ⟨_, _, nv6.dp, nz.dp, numD_shaped _ _, numD_shaped _ _, ?_⟩
      rw [numD_zero (hok em hm).2]
      refine ⟨_, rfl, ?_⟩
      refine iteDn (fun g => ?_) (fun g => ?_)
      · walk_at "rd"
        have hl : ys.length ≤ 5000 := by
          rw [Paired.length hp5]
          refine Nat.le_trans (keep_len _) ?_
          rw [List.length_take]; omega
        refine ⟨ys, s6 _ _ hD5, by rw [sizeLine_eq]; omega, _, fun b ob e => ?_, upd_same, ?_⟩
        · have nb : b ≠ D := fun z => by
            subst z
            rw [hD] at e; cases e
          exact (upd_ne nb).trans (s6 _ _ (s5 _ _ e))
        · rw [keep_step _ i em e4, if_pos g]
          have tq : Tq H5 (upd H6 D (.lst (ys ++ [.ref q0]))) := (tq_same s6).trans (tq_upd (s6 _ _ hD5) trivial)
          refine paired_app (Paired.mapP hp5 fun _ _ z => z.tq tq) ⟨q0, rfl, (tq _ _).1 ?_⟩
          show _ = some (HO.tup (em.1.map V.int))
          rw [← inlK_kV]
          exact e2
      · refine ⟨ys, fun b ob e => s6 _ _ (s5 _ _ e), s6 _ _ hD5, ?_⟩
        rw [keep_step _ i em e4, if_neg (by omega), List.append_nil]
        exact Paired.mapP hp5 fun _ _ z => z.tq (tq_same s6)
    · obtain ⟨ys, s5, hD5, hp5⟩ := q
      rw [kvs_len hK, List.take_length] at hp5
      have Hd5 := s5 _ _ Gd
      refine ⟨Hd5, ?_⟩
      obtain ⟨U, eU⟩ : ∃ U, U = upd H5 d (.dT kvs) := ⟨_, rfl⟩
      have sU : Same H U := fun b o e => by
        rw [eU]
        by_cases hb : b = d
        · subst hb
          rw [hd] at e
          cases e
          exact upd_same
        · refine (upd_ne hb).trans (s5 _ _ ?_)
          rw [eG]
          exact (upd_ne hb).trans e
      have nDd : D ≠ d := fun z => by
        subst z
        rw [Gd] at hD; cases hD
      have UD : U D = some (.lst ys) := by rw [eU]; exact (upd_ne nDd).trans hD5
      have uq : Tq H5 U := by rw [eU]; exact tq_upd Hd5 trivial
      have hpU : Paired (fun y u => MonV U y u.2) ys (keepOf al) := Paired.mapP hp5 fun _ _ z => z.tq uq
      rw [← eU]
      walk_at "rd"
      have ysl : ys.length ≤ 5000 := by
        rw [Paired.length hpU]
        exact Nat.le_trans (keep_len al) hal
      refine ⟨⟨ys, .inl (.inl UD)⟩, fun D1 hD1 => ?_⟩
      refine lc_list (K := K) (a := D) (xs := ys) (fun j H7 => ∃ zs, Same U H7 ∧ H7 D1 = some (.lst zs) ∧ Paired (fun z u => KeyV K H7 o z u.2) zs ((keepOf al).take j)) ⟨[], same_upd hD1, upd_same, .nil⟩ (fun j H7 _ q7 => by obtain ⟨_, q7, _⟩ := q7; exact .inl (.inl (q7 _ _ UD))) (fun j x H7 hx q7 => ?_) (fun H7 q7 => ?_)
      · obtain ⟨zs, s7, hD7, hp7⟩ := q7
        obtain ⟨u, hu, ⟨M, rfl, hM⟩⟩ := paired_at hpU hx
        have hum := keep_mem (List.mem_of_getElem? hu)
        have hmon := (hok _ hum).1
        have hM7 := s7 _ _ hM
        have sH7 : Same H H7 := Same.trans sU s7
        have hR7 := Toy.Same.tup sH7 hR
        walk_at "rd"
        refine ⟨n, o, ov, M, u.2, rfl, hv.h1, hv.h4, hv.ho, Dp.same sH7 _ _ hov, .inl (.inl hM7), hmon.1.1, hmon.1.2, fun v8 H8 s8 d8 => ?_⟩
        walk_at "rd"
        refine ⟨two_line, fun p hp => ?_⟩
        have s9 : Same H7 (upd H8 p (.tup [v8, .ref M])) := Same.trans s8 (same_upd hp)
        have d9 := s9 _ _ hD7
        have hzl : zs.length ≤ 5000 := by
          rw [Paired.length hp7, List.length_take]
          have := keep_len al
          omega
        have t9 : Tq H7 (upd (upd H8 p (.tup [v8, .ref M])) D1 (.lst (zs ++ [.ref p]))) := (tq_same s9).trans (tq_upd d9 trivial)
        have t8 : Tq H8 (upd (upd H8 p (.tup [v8, .ref M])) D1 (.lst (zs ++ [.ref p]))) := (tq_new hp).trans (tq_upd d9 trivial)
        have npD : p ≠ D1 := fun z => by
          subst z
          rw [s8 _ _ hD7] at hp; cases hp
        refine ⟨zs, d9, by rw [sizeLine_eq]; omega, _, fun b ob e => ?_, upd_same, ?_⟩
        · have nb : b ≠ D1 := fun z => by
            subst z
            rw [hD1] at e; cases e
          exact (upd_ne nb).trans (s9 _ _ (s7 _ _ e))
        · rw [List.take_add_one, hu, Option.toList_some]
          exact paired_app (Paired.mapP hp7 fun _ _ z => z.tq t9) ⟨p, M, v8, rfl, .inl (.inl ((upd_ne npD).trans upd_same)), Dp.tp t8.tp _ _ (tOnly_keyD o _) d8, (t9 _ _).1 hM7⟩
      · obtain ⟨zs, s7, hD7, hp7⟩ := q7
        have hkl : (keepOf al).length = ys.length := (Paired.length hpU).symm
        rw [← hkl, List.take_length] at hp7
        have sH7 : Same H H7 := Same.trans sU s7
        obtain ⟨c1, c2, c3⟩ := zip_paired hp7
        obtain ⟨cs, ecs⟩ : ∃ cs, cs = zs.zip (keepOf al) := ⟨_, rfl⟩
        rw [← ecs] at c1 c2 c3
        have cmon : ∀ c ∈ cs, Mon n c.2.2 := fun c hc => (hok _ (keep_mem (by rw [← c2]; exact List.mem_map_of_mem hc))).1
        walk_at "rd"
        refine ⟨D1, cs.map (fun c => (c.1, PyData.tuple [keyD o c.2.2, rD c.2.2])), rfl, .inl (.inl ?_), ?_, ?_, ?_, ?_, fun p9 hp9 => ?_⟩
        · rw [List.map_map]
          show H7 D1 = some (.lst (cs.map fun z => z.1))
          rw [c1]; exact hD7
        · intro b hb
          obtain ⟨c, hc, rfl⟩ := List.mem_map.mp hb
          exact (c3 c hc).dp
        · intro x hx y hy
          rw [List.map_map] at hx hy
          obtain ⟨z, hz, rfl⟩ := List.mem_map.mp hx
          obtain ⟨z', hz', rfl⟩ := List.mem_map.mp hy
          have hl : z.2.2.length = z'.2.2.length := by rw [(cmon z hz).1.1, (cmon z' hz').1.1]
          exact (ky_two (ky_key hl o) (ky_ints hl)).al
        · refine .inl fun x hx => ?_
          rw [List.map_map] at hx
          obtain ⟨z, hz, rfl⟩ := List.mem_map.mp hx
          exact ⟨_, _, rfl⟩
        · intro b hb
          obtain ⟨z, hz, rfl⟩ := List.mem_map.mp hb
          show (PyData.tuple [keyD o z.2.2, rD z.2.2]).depth ≤ 32
          rw [depth_two, depth_rD]
          have := depth_key o z.2.2
          omega
        obtain ⟨W, eW⟩ : ∃ W, W = cs.mergeSort (fun z z' => PySem.W.dataLe false (fun m => PyData.tuple [keyD o m, rD m]) z.2.2 z'.2.2) := ⟨_, rfl⟩
        have eS : ((cs.map (fun z => (z.1, PyData.tuple [keyD o z.2.2, rD z.2.2]))).mergeSort (PySem.W.dataLe false fun b => b.2)).map (fun b => b.1) = W.map fun z => z.1 := by
          rw [← PySem.W.sort_maps (r := fun z z' => PySem.W.dataLe false (fun m => PyData.tuple [keyD o m, rD m]) z.2.2 z'.2.2) (fun z : V × Tm => (z.1, PyData.tuple [keyD o z.2.2, rD z.2.2])) (fun _ _ _ _ => rfl), ← eW, List.map_map]
          rfl
        have wp : W.Perm cs := by rw [eW]; exact List.mergeSort_perm _ _
        have w2 : W.reverse.map (fun z => z.2.2) = (sortT n o (keepOf al)).map (·.2) := by
          rw [← keys_sorted hv.h1 hv.h4 hv.ho (fun u hu => (hok _ (keep_mem hu)).1), List.map_reverse, eW]
          rw [PySem.W.sort_maps (s := PySem.W.dataLe false (fun m => PyData.tuple [keyD o m, rD m])) (fun z : V × Tm => z.2.2) (fun _ _ _ _ => rfl)]
          have e0 : cs.map (fun z => z.2.2) = (keepOf al).map (·.2) := by rw [← c2, List.map_map]; rfl
          rw [e0]
          congr 1
          refine PySem.W.sort_congr fun a ha b hb => ?_
          obtain ⟨u1, g1, rfl⟩ := List.mem_map.mp ha
          obtain ⟨u2, g2, rfl⟩ := List.mem_map.mp hb
          exact (le_same (hok _ (keep_mem g1)).1 (hok _ (keep_mem g2)).1 hv.h1 hv.h4 hv.ho).symm
        rw [eS]
        have s9 := same_upd (o := .lst (W.map fun z => z.1)) hp9
        refine ⟨p9, _, rfl, .inl (.inl upd_same), fun p10 hp10 => ?_⟩
        obtain ⟨H10, e10⟩ : ∃ H10, H10 = upd (upd H7 p9 (.lst (W.map fun z => z.1))) p10 (.lst (W.map fun z => z.1).reverse) := ⟨_, rfl⟩
        have s10 : Same H7 H10 := by rw [e10]; exact Same.trans s9 (same_upd hp10)
        have hl10 : H10 p10 = some (.lst (W.reverse.map fun z => z.1)) := by rw [e10, upd_same, List.map_reverse]
        rw [← e10]
        have sH10 : Same H H10 := Same.trans sH7 s10
        have wl : W.reverse.length = (sortT n o (keepOf al)).length := by
          have := congrArg List.length w2
          rwa [List.length_map, List.length_map] at this
        have sl5 : (sortT n o (keepOf al)).length ≤ 5000 := by
          rw [(sortT_perm n o _).length_eq]
          exact Nat.le_trans (keep_len al) hal
        walk_at "rd"
        refine ⟨⟨_, .inl (.inl hl10)⟩, fun D2 hD2 => ?_⟩
        refine lc_list (K := K) (a := p10) (xs := W.reverse.map fun z => z.1) (fun j H11 => ∃ us, Same H10 H11 ∧ H11 D2 = some (.lst us) ∧ Paired (fun z u => TermV K H11 f z u) us ((sortT n o (keepOf al)).take j)) ⟨[], same_upd hD2, upd_same, .nil⟩ (fun j H11 _ q => by obtain ⟨_, q, _⟩ := q; exact .inl (.inl (q _ _ hl10))) (fun j x H11 hx q => ?_) (fun H11 q => ?_)
        · obtain ⟨us, s11, hD11, hp11⟩ := q
          rw [List.getElem?_map] at hx
          obtain ⟨z, hz, rfl⟩ := Option.map_eq_some_iff.mp hx
          have hzc : z ∈ cs := wp.mem_iff.mp (List.mem_reverse.mp (List.mem_of_getElem? hz))
          have hj : j < (sortT n o (keepOf al)).length := by
            rw [← wl]
            exact (List.getElem?_eq_some_iff.mp hz).1
          have hu : (sortT n o (keepOf al))[j]? = some (sortT n o (keepOf al))[j] := List.getElem?_eq_getElem hj
          obtain ⟨u, eu⟩ : ∃ u, u = (sortT n o (keepOf al))[j] := ⟨_, rfl⟩
          rw [← eu] at hu
          have ez : z.2.2 = u.2 := by
            have h1 : (W.reverse.map fun z => z.2.2)[j]? = some z.2.2 := by rw [List.getElem?_map, hz]; rfl
            rw [w2, List.getElem?_map, hu] at h1
            exact (Option.some.inj h1).symm
          have huk : u ∈ keepOf al := (sortT_perm n o _).mem_iff.mp (List.mem_of_getElem? hu)
          have hgu := keep_get hnd huk
          obtain ⟨v1, w1, w3⟩ : ∃ v1, valV kvs (inlK u.2) = some v1 ∧ NumV H f v1 u.1 := by
            rcases kvs_get (m := u.2) hK with ⟨_, y⟩ | ⟨v1, x1, y1, y2, y3⟩
            · rw [hgu] at y; cases y
            · rw [hgu] at y2
              cases y2
              exact ⟨v1, y1, y3⟩
          have s711 : Same H7 H11 := Same.trans s10 s11
          obtain ⟨za, M, kv, e0, hT, hkd, hM⟩ := (c3 z hzc).tq (tq_same s711)
          rw [ez] at hM
          have hdd := (Same.trans sH10 s11) _ _ hd
          refine ⟨za, _, e0, hT, rfl, ?_⟩
          walk_at "rd"
          refine ⟨d, v1, rfl, ?_, ?_⟩
          · have := DGet.t hdd (b := M) (k := inlK u.2) (by rw [inlK_kV]; exact hM)
            rw [w1] at this
            exact this
          walk_at "rd"
          refine ⟨two_line, fun p hp => ?_⟩
          have s12 : Same H11 (upd H11 p (.tup [v1, .ref M])) := same_upd hp
          have d12 := s12 _ _ hD11
          have hul : us.length ≤ 5000 := by
            rw [Paired.length hp11, List.length_take]
            omega
          have t12 : Tq H11 (upd (upd H11 p (.tup [v1, .ref M])) D2 (.lst (us ++ [.ref p]))) := (tq_same s12).trans (tq_upd d12 trivial)
          have npD : p ≠ D2 := fun z => by
            subst z
            rw [hD11] at hp; cases hp
          refine ⟨us, d12, by rw [sizeLine_eq]; omega, _, fun b ob e => ?_, upd_same, ?_⟩
          · have nb : b ≠ D2 := fun z => by
              subst z
              rw [hD2] at e; cases e
            exact (upd_ne nb).trans (s12 _ _ (s11 _ _ e))
          · rw [List.take_add_one, hu, Option.toList_some]
            exact paired_app (Paired.mapP hp11 fun _ _ z => z.tq t12) ⟨p, M, v1, rfl, .inl (.inl ((upd_ne npD).trans upd_same)), (w3.tq (tq_same (Same.trans sH10 s11))).tq t12, (t12 _ _).1 hM⟩
        · obtain ⟨us, s11, hD11, hp11⟩ := q
          rw [List.length_map, wl, List.take_length] at hp11
          walk_at "rd"
          refine ⟨_, _, rfl, .inl ⟨.inl (.inl hD11), fun tu htu => ?_⟩⟩
          have s12 := same_upd (o := .tup us) htu
          refine k _ _ (Same.trans sH10 (Same.trans s11 s12)) ⟨tu, us, rfl, .inl (.inl upd_same), Paired.length hp11, fun i v u h1 h2 => ?_⟩
          obtain ⟨u', h3, h4⟩ := paired_at hp11 h1
          rw [h2] at h3
          cases h3
          exact h4.tq (tq_same s12)
end

/-! ### quotients in lowest terms -/
theorem low_spec (n : Int) {d : Int} (hd : d ≠ 0) : 0 < (lowQ n d).2 ∧ Nat.gcd (lowQ n d).1.natAbs (lowQ n d).2.natAbs = 1 ∧ (lowQ n d).1 * d = n * (lowQ n d).2 ∧ (lowQ n d).1.natAbs ≤ n.natAbs ∧ (lowQ n d).2.natAbs ≤ d.natAbs := by
  have hg := sgnG_ne (n := n) hd
  have ha := sgnG_abs n d
  have h1 : sgnG n d ∣ n := Int.natAbs_dvd_natAbs.mp (by rw [ha]; exact Nat.gcd_dvd_left _ _)
  have h2 : sgnG n d ∣ d := Int.natAbs_dvd_natAbs.mp (by rw [ha]; exact Nat.gcd_dvd_right _ _)
  have hs : (d < 0 → sgnG n d < 0) ∧ (0 < d → 0 < sgnG n d) := by
    have hp : 0 < Nat.gcd n.natAbs d.natAbs := Nat.gcd_pos_of_pos_right _ (by omega)
    unfold sgnG
    constructor
    · intro h; rw [if_pos h]; omega
    · intro h; rw [if_neg (by omega)]; omega
  unfold lowQ
  generalize sgnG n d = g at *
  obtain ⟨u, rfl⟩ := h1
  obtain ⟨v, rfl⟩ := h2
  have e1 : (g * u).fdiv g = u := by rw [Int.fdiv_eq_ediv_of_dvd (Int.dvd_mul_right _ _), Int.mul_ediv_cancel_left _ hg]
  have e2 : (g * v).fdiv g = v := by rw [Int.fdiv_eq_ediv_of_dvd (Int.dvd_mul_right _ _), Int.mul_ediv_cancel_left _ hg]
  simp only [e1, e2]
  have hgp : 0 < g.natAbs := by omega
  refine ⟨?_, ?_, by grind, ?_, ?_⟩
  · rcases Int.lt_trichotomy g 0 with h | h | h
    · by_cases hv : 0 < v
      · exact hv
      · exfalso
        by_cases hv0 : v = 0
        · subst hv0; simp at hd
        · have : 0 < g * v := Int.mul_pos_of_neg_of_neg h (by omega)
          have := hs.2 this; omega
    · exact absurd h hg
    · by_cases hv : 0 < v
      · exact hv
      · exfalso
        by_cases hv0 : v = 0
        · subst hv0; simp at hd
        · have : g * v < 0 := Int.mul_neg_of_pos_of_neg h (by omega)
          have := hs.1 this; omega
  · rw [Int.natAbs_mul, Int.natAbs_mul, Nat.gcd_mul_left] at ha
    have : g.natAbs * Nat.gcd u.natAbs v.natAbs = g.natAbs * 1 := by omega
    exact Nat.eq_of_mul_eq_mul_left hgp this
  · rw [Int.natAbs_mul]
    exact Nat.le_mul_of_pos_left _ hgp
  · rw [Int.natAbs_mul]
    exact Nat.le_mul_of_pos_left _ hgp
theorem low_uniq {u v u' v' : Int} (hv : 0 < v) (hv' : 0 < v') (g : Nat.gcd u.natAbs v.natAbs = 1) (g' : Nat.gcd u'.natAbs v'.natAbs = 1) (h : u * v' = u' * v) : (u, v) = (u', v') := by
  have ha : u.natAbs * v'.natAbs = u'.natAbs * v.natAbs := by rw [← Int.natAbs_mul, h, Int.natAbs_mul]
  have d1 : v.natAbs ∣ v'.natAbs := by
    have : v.natAbs ∣ u.natAbs * v'.natAbs := by rw [ha]; exact Nat.dvd_mul_left _ _
    exact (Nat.Coprime.symm g).dvd_of_dvd_mul_left this
  have d2 : v'.natAbs ∣ v.natAbs := by
    have : v'.natAbs ∣ u'.natAbs * v.natAbs := by rw [← ha]; exact Nat.dvd_mul_left _ _
    exact (Nat.Coprime.symm g').dvd_of_dvd_mul_left this
  have e : v = v' := by
    have := Nat.dvd_antisymm d1 d2
    omega
  subst e
  have e2 : u = u' := Int.eq_of_mul_eq_mul_right (by omega) h
  rw [e2]
/-- one number for one quotient -/
theorem low_eq {n d m l : Int} (hd : d ≠ 0) (hl : l ≠ 0) (h : n * l = m * d) : lowQ n d = lowQ m l := by
  obtain ⟨a1, a2, a3, _⟩ := low_spec n hd
  obtain ⟨b1, b2, b3, _⟩ := low_spec m hl
  generalize lowQ n d = p at *
  generalize lowQ m l = q at *
  obtain ⟨u, v⟩ := p
  obtain ⟨u', v'⟩ := q
  refine low_uniq a1 b1 a2 b2 ?_
  have hdl : d * l ≠ 0 := Int.mul_ne_zero hd hl
  refine Int.eq_of_mul_eq_mul_right hdl ?_
  simp only at a3 b3
  grind

/-! ### sums of small numbers; sums in another order -/
def NumS2 (f : Int) (x : Int × Int) : Prop := NumOk f x ∧ (f = 0 → x.1.natAbs ≤ 4 ∧ x.2.natAbs ≤ 3)
/-- a number of at most 24 k sixths -/
def Sm (f : Int) (k : Nat) (x : Int × Int) : Prop := NumOk f x ∧ (f = 0 → ∃ N : Int, N.natAbs ≤ 24 * k ∧ x = lowQ N 6)
theorem numOk_q {x : Int × Int} : NumOk 0 x ↔ x.1.natAbs < NBn ∧ 0 < x.2 ∧ x.2.natAbs < NBn ∧ Nat.gcd x.1.natAbs x.2.natAbs = 1 := by
  unfold NumOk; rw [if_pos rfl]
theorem numOk_m {f : Int} (h : f ≠ 0) {x : Int × Int} : NumOk f x ↔ 0 ≤ x.1 ∧ x.1 < f ∧ x.2 = 1 := by
  unfold NumOk; rw [if_neg h]
theorem low_self {x : Int × Int} (h : 0 < x.2) (g : Nat.gcd x.1.natAbs x.2.natAbs = 1) : lowQ x.1 x.2 = x := by
  obtain ⟨a1, a2, a3, _⟩ := low_spec x.1 (d := x.2) (by omega)
  exact low_uniq a1 h a2 g a3
theorem nb_big : 24 * 1000000 < NBn ∧ 6 < NBn := by decide +kernel
theorem sm_ok {N : Int} {k : Nat} (h : N.natAbs ≤ 24 * k) (hk : k ≤ 1000000) : NumOk 0 (lowQ N 6) := by
  obtain ⟨a1, a2, a3, a4, a5⟩ := low_spec N (d := 6) (by decide)
  have := nb_big
  refine numOk_q.2 ⟨by omega, a1, ?_, a2⟩
  have : (6 : Int).natAbs = 6 := rfl
  omega
theorem sm_of {f : Int} {x : Int × Int} (h : NumS2 f x) : Sm f 1 x := by
  refine ⟨h.1, fun hf => ?_⟩
  subst hf
  obtain ⟨h1, h2⟩ := h.2 rfl
  obtain ⟨_, g1, _, g2⟩ := numOk_q.1 h.1
  have e := low_self g1 g2
  obtain ⟨n, d⟩ := x
  simp only at *
  have hd : d = 1 ∨ d = 2 ∨ d = 3 := by omega
  rcases hd with rfl | rfl | rfl
  · exact ⟨6 * n, by omega, by rw [← e]; exact low_eq (by decide) (by decide) (by omega)⟩
  · exact ⟨3 * n, by omega, by rw [← e]; exact low_eq (by decide) (by decide) (by omega)⟩
  · exact ⟨2 * n, by omega, by rw [← e]; exact low_eq (by decide) (by decide) (by omega)⟩
theorem sm_le {f : Int} {j k : Nat} {x : Int × Int} (hjk : j ≤ k) (h : Sm f j x) : Sm f k x := ⟨h.1, fun hf => by
  obtain ⟨N, h1, h2⟩ := h.2 hf
  exact ⟨N, by omega, h2⟩⟩
theorem sm_add {f : Int} (hF : IsF f) {j k : Nat} {a b : Int × Int} (ha : Sm f j a) (hb : Sm f k b) (hk : j + k ≤ 1000000) : Sm f (j + k) (addN f a b) := by
  by_cases hf : f = 0
  · subst hf
    obtain ⟨N, n1, rfl⟩ := ha.2 rfl
    obtain ⟨M, m1, rfl⟩ := hb.2 rfl
    obtain ⟨a1, a2, a3, _⟩ := low_spec N (d := 6) (by decide)
    obtain ⟨b1, b2, b3, _⟩ := low_spec M (d := 6) (by decide)
    have e : addN 0 (lowQ N 6) (lowQ M 6) = lowQ (N + M) 6 := by
      unfold addN
      rw [if_pos rfl]
      generalize lowQ N 6 = p at *
      generalize lowQ M 6 = q at *
      obtain ⟨u, v⟩ := p
      obtain ⟨u', v'⟩ := q
      simp only at *
      refine low_eq (Int.mul_ne_zero (by omega) (by omega)) (by decide) ?_
      grind
    rw [e]
    have hN : (N + M).natAbs ≤ 24 * (j + k) := by omega
    exact ⟨sm_ok hN hk, fun _ => ⟨N + M, hN, rfl⟩⟩
  · refine ⟨?_, fun z => absurd z hf⟩
    have h2 := hF.pos hf
    unfold addN
    rw [if_neg hf]
    exact (numOk_m hf).2 ⟨Int.emod_nonneg _ (by omega), Int.emod_lt_of_pos _ (by omega), rfl⟩
theorem addN_zero {f : Int} {x : Int × Int} (h : NumOk f x) : addN f (0, 1) x = x := by
  by_cases hf : f = 0
  · subst hf
    obtain ⟨_, g1, _, g2⟩ := numOk_q.1 h
    unfold addN
    rw [if_pos rfl]
    have e1 : (0 : Int) * x.2 + x.1 * 1 = x.1 := by omega
    have e2 : (1 : Int) * x.2 = x.2 := by omega
    show lowQ (0 * x.2 + x.1 * 1) (1 * x.2) = x
    rw [e1, e2, low_self g1 g2]
  · obtain ⟨h1, h2, h3⟩ := (numOk_m hf).1 h
    unfold addN
    rw [if_neg hf]
    show ((0 + x.1) % f, 1) = x
    rw [Int.zero_add, Int.emod_eq_of_lt h1 h2, ← h3]
/-- the law's step is the program's -/
theorem law_step {f : Int} {al : Al2} {x : Int × Int} {m : List Int} (h : NumOk f x) : putM al m (addN f ((getM al m).getD (0, 1)) x) = addT f al (x, m) := by
  unfold addT
  show putM al m _ = putM al m _
  cases hg : getM al m with
  | none => show putM al m (addN f (0, 1) x) = _; rw [addN_zero h]
  | some y => rfl
theorem mem_getM : ∀ {al : Al2} {m : List Int} {x : Int × Int}, getM al m = some x → (m, x) ∈ al
  | [], _, _, h => by cases h
  | e :: al, m, x, h => by
    unfold getM at h
    by_cases c : e.1 = m
    · rw [if_pos c] at h
      rw [← c, ← Option.some.inj h]
      exact List.mem_cons_self
    · rw [if_neg c] at h
      exact List.mem_cons_of_mem _ (mem_getM h)
theorem fold_sm {f : Int} (hF : IsF f) : ∀ (ts : List Tm) (al : Al2) (j : Nat), (∀ e ∈ al, Sm f j e.2) → (∀ t ∈ ts, Sm f 1 t.1) → j + ts.length ≤ 1000000 → ∀ e ∈ ts.foldl (addT f) al, Sm f (j + ts.length) e.2
  | [], al, j, h, _, _ => h
  | t :: ts, al, j, h, g, hk => by
    rw [List.length_cons] at hk ⊢
    have := fold_sm hF ts (addT f al t) (j + 1) (fun e he => ?_) (fun u hu => g u (List.mem_cons_of_mem _ hu)) (by omega)
    · intro e he
      have := this e he
      rwa [show j + 1 + ts.length = j + (ts.length + 1) by omega] at this
    · rcases mem_putM he with h1 | rfl
      · exact sm_le (by omega) (h e h1)
      · cases hg : getM al t.2 with
        | none => exact sm_le (by omega) (g t List.mem_cons_self)
        | some y => exact sm_add hF (h _ (mem_getM hg)) (g t List.mem_cons_self) (by omega)
theorem sumOk_sm {f : Int} (hF : IsF f) {ts : List Tm} (g : ∀ t ∈ ts, Sm f 1 t.1) (hl : ts.length ≤ 1000) : SumOk f ts := fun k e he =>
  (fold_sm hF (ts.take k) [] 0 (by simp) (fun t ht => g t (List.mem_of_mem_take ht)) (by rw [List.length_take]; omega) e he).1
/-! distinct monomials -/
def swT (u : Tm) : List Int × (Int × Int) := (u.2, u.1)
theorem fold_dist (f : Int) : ∀ (ts : List Tm) (al : Al2), (al.map (·.1) ++ ts.map (·.2)).Nodup → ts.foldl (addT f) al = al ++ ts.map swT
  | [], al, _ => by simp
  | t :: ts, al, h => by
    have hn : getM al t.2 = none := by
      cases hg : getM al t.2 with
      | none => rfl
      | some y =>
        exfalso
        rw [List.map_cons, List.nodup_append] at h
        exact h.2.2 _ (List.mem_map_of_mem (f := (·.1)) (mem_getM hg)) _ List.mem_cons_self rfl
    have e : addT f al t = al ++ [swT t] := by
      rw [addT_none hn]
      unfold putM
      rw [getM_any, hn]
      rfl
    rw [List.foldl_cons, e, fold_dist f ts]
    · simp
    · rw [List.map_append]
      simpa [swT] using h
theorem sum_dist {f : Int} {ts : List Tm} (h : (ts.map (·.2)).Nodup) : sumL f ts = ts.map swT := by
  unfold sumL
  rw [fold_dist f ts [] (by simpa using h), List.nil_append]
theorem sumOk_dist {f : Int} {ts : List Tm} (h : (ts.map (·.2)).Nodup) (g : ∀ t ∈ ts, NumOk f t.1) : SumOk f ts := fun k e he => by
  rw [fold_dist f (ts.take k) [] ?_, List.nil_append] at he
  · obtain ⟨t, ht, rfl⟩ := List.mem_map.mp he
    exact g t (List.mem_of_mem_take ht)
  · simp only [List.map_nil, List.nil_append]
    exact h.sublist ((List.take_sublist k ts).map _)
theorem keep_dist {f : Int} {ts : List Tm} (h : (ts.map (·.2)).Nodup) (g : ∀ t ∈ ts, t.1.1 ≠ 0) : keepOf (sumL f ts) = ts := by
  rw [sum_dist h]
  unfold keepOf
  rw [List.filter_eq_self.mpr, List.map_map]
  · exact (List.map_congr_left fun t _ => rfl).trans (List.map_id ts)
  · intro e he
    obtain ⟨t, ht, rfl⟩ := List.mem_map.mp he
    exact decide_eq_true (g t ht)
/-! sorted lists -/
theorem sort_same {n : Nat} {o : Ord} {a b : List Tm} (h1 : 1 ≤ n) (h4 : n ≤ 4) (ho : OrdOk n o) (hp : a.Perm b) (hm : ∀ u ∈ a, Mon n u.2) (hd : (a.map (·.2)).Nodup) : sortT n o a = sortT n o b := by
  refine perm_pair_eq (fun u : Tm => codeN n o u.2) ((sortT_perm n o a).trans (hp.trans (sortT_perm n o b).symm)) (sortT_pair n o a) (sortT_pair n o b) fun x hx y hy e => ?_
  have hx := (sortT_perm n o a).mem_iff.mp hx
  have hy := (sortT_perm n o a).mem_iff.mp hy
  have e2 : x.2 = y.2 := code_inj (hm x hx) (hm y hy) h1 h4 ho e
  obtain ⟨i, hi, ei⟩ := List.getElem_of_mem hx
  obtain ⟨j, hj, ej⟩ := List.getElem_of_mem hy
  have hij : i = j := by
    have q1 : (a.map (·.2))[i]'(by rw [List.length_map]; exact hi) = x.2 := by rw [List.getElem_map, ei]
    have q2 : (a.map (·.2))[j]'(by rw [List.length_map]; exact hj) = y.2 := by rw [List.getElem_map, ej]
    exact (List.getElem_inj hd).mp (q1.trans (e2.trans q2.symm))
  subst hij
  rw [← ei, ← ej]
theorem sort_idem {n : Nat} {o : Ord} {a : List Tm} (h1 : 1 ≤ n) (h4 : n ≤ 4) (ho : OrdOk n o) (hm : ∀ u ∈ a, Mon n u.2) (hd : (a.map (·.2)).Nodup) {b : List Tm} (hb : b.Perm a) : sortT n o b = sortT n o a :=
  (sort_same h1 h4 ho hb.symm hm hd).symm
/-- what keeps terms: sums are polynomials -/
theorem kept_ok {f : Int} {n : Nat} {al : Al2} (hok : ∀ e ∈ al, Mon n e.1 ∧ NumOk f e.2) : ∀ u ∈ keepOf al, TermOk f n u ∧ u.1.1 ≠ 0 := fun u hu => by
  unfold keepOf at hu
  obtain ⟨e, he, rfl⟩ := List.mem_map.mp hu
  have hm := List.mem_filter.mp he
  have := hok e hm.1
  exact ⟨⟨this.2, this.1⟩, of_decide_eq_true hm.2⟩
theorem keep_nodup {al : Al2} (h : (al.map (·.1)).Nodup) : ((keepOf al).map (·.2)).Nodup := by
  unfold keepOf
  rw [List.map_map]
  exact ((List.filter_sublist (l := al) (p := fun e => decide (e.2.1 ≠ 0))).map _).nodup h
theorem poly_ok {f : Int} {n : Nat} {o : Ord} {l : List Tm} (h1 : 1 ≤ n) (h4 : n ≤ 4) (ho : OrdOk n o) (hl : l.length ≤ 500) (hok : ∀ u ∈ l, TermOk f n u ∧ u.1.1 ≠ 0) (hd : (l.map (·.2)).Nodup) : PolyOk f n (rowsL n o) (sortT n o l) := by
  have hp := sortT_perm n o l
  refine ⟨by rw [hp.length_eq]; exact hl, fun t ht => hok t (hp.mem_iff.mp ht), fun i t u a b => ?_⟩
  have hpair := sortT_pair n o l
  have hi := (List.getElem?_eq_some_iff.mp a).1
  have hj := (List.getElem?_eq_some_iff.mp b).1
  have e1 := (List.getElem?_eq_some_iff.mp a).2
  have e2 := (List.getElem?_eq_some_iff.mp b).2
  have hle : codeN n o u.2 ≤ codeN n o t.2 := by
    have := List.pairwise_iff_getElem.mp hpair i (i + 1) hi hj (by omega)
    rwa [e1, e2] at this
  have hne : codeN n o u.2 ≠ codeN n o t.2 := fun e => by
    have htm := hok t (hp.mem_iff.mp (List.mem_of_getElem? a))
    have hum := hok u (hp.mem_iff.mp (List.mem_of_getElem? b))
    have e3 : u.2 = t.2 := code_inj hum.1.2 htm.1.2 h1 h4 ho e
    have hdn : ((sortT n o l).map (·.2)).Nodup := (hp.map _).nodup_iff.mpr hd
    have q1 : ((sortT n o l).map (·.2))[i]'(by rw [List.length_map]; exact hi) = t.2 := by rw [List.getElem_map, e1]
    have q2 : ((sortT n o l).map (·.2))[i + 1]'(by rw [List.length_map]; exact hj) = u.2 := by rw [List.getElem_map, e2]
    have := (List.getElem_inj hdn).mp (q1.trans (e3.symm.trans q2.symm))
    omega
  show codeN n o u.2 < codeN n o t.2
  omega

section
variable {P : Program} {w : World} {K : PySem.W.Frag} {mg : Str → Option Value} {base : Heap}
/-- all but the row and the tables stays; the row is a row, the tables are in order -/
structure LK (t : TabsAt) (K : PySem.W.Frag) (r sa : Addr) (ns : List Int) (H H' : Hp) : Prop where
  keep : ∀ b o, b ≠ r → H b = some o → (∀ ps, o ≠ .tbl ps) → H' b = some o
  row : RowAt K H' r sa ns
  ts : TS t H'
theorem LK.trans {t : TabsAt} {r sa : Addr} {ns : List Int} {H H1 H2 : Hp} (a : LK t K r sa ns H H1) (b : LK t K r sa ns H1 H2) : LK t K r sa ns H H2 := ⟨fun c o n e q => b.keep c o n (a.keep c o n e q) q, b.row, b.ts⟩
theorem tabG_but {r p : Addr} {H H' : Hp} {xs : List V} (h : GxR.TabG H p) (hr : H r = some (.lst xs)) (k : KeepBut r H H') : GxR.TabG H' p := by
  obtain ⟨ps, p1, p2⟩ := h
  exact ⟨ps, k _ _ (fun z => by rw [z, hr] at p1; cases p1) p1, p2⟩
theorem TS.rk {t : TabsAt} {r : Addr} {H H' : Hp} {xs : List V} (h : TS t H) (hr : H r = some (.lst xs)) (k : KeepBut r H H') : TS t H' := by
  refine ⟨fun x hx => tabG_but (h.g x hx) hr k, fun x hx z hz => ?_⟩
  obtain ⟨ps, a1, a2, a3⟩ := h.l x hx z hz
  refine ⟨ps, k _ _ (fun e => by rw [e, hr] at a1; cases a1) a1, a2, fun pos cv hcv => ?_⟩
  obtain ⟨cz, q1, q2⟩ := a3 pos cv hcv
  refine ⟨cz, q1, k _ _ (fun e => ?_) q2⟩
  rw [e, hr] at q2
  unfold LamX.CodeO at q2
  cases q2
theorem LK.rk {t : TabsAt} {r sa : Addr} {ns : List Int} {H H' : Hp} (h : RowAt K H r sa ns) (ht : TS t H) (k : RK K r sa ns H H') : LK t K r sa ns H H' := by
  obtain ⟨xs, hr⟩ := row_lst h
  exact ⟨fun b o n e _ => k.keep b o n e, k.row, ht.rk hr k.keep⟩
theorem RowAt.ext {r sa : Addr} {ns : List Int} {H H' : Hp} (h : RowAt K H r sa ns) (s : LamX.ExtN H H') : RowAt K H' r sa ns := by
  obtain ⟨p, sd, e, hrow, hS, hb⟩ := h
  refine ⟨p, sd, e, s _ _ hrow (fun ps z => by cases z), ?_, hb⟩
  rcases hS with ⟨q | ⟨u, q⟩, n⟩ | q
  · exact .inl ⟨.inl (s _ _ q (fun ps z => by cases z)), n⟩
  · exact .inl ⟨.inr ⟨u, s _ _ q (fun ps z => by cases z)⟩, n⟩
  · exact .inr q
theorem LK.ex {t : TabsAt} {r sa : Addr} {ns : List Int} {H H' : Hp} (h : RowAt K H r sa ns) (x : Ex t H H') : LK t K r sa ns H H' := ⟨fun b o _ e n => x.keep b o e n, h.ext x.keep, x.ts⟩
theorem LK.same {t : TabsAt} {r sa : Addr} {ns : List Int} {H H' : Hp} (h : RowAt K H r sa ns) (ht : TS t H) (s : Same H H') : LK t K r sa ns H H' := ⟨fun b o _ e _ => s b o e, h.sm s, ht.same s⟩
theorem LK.tp {t : TabsAt} {r sa : Addr} {ns : List Int} {H H' : Hp} (h : RowAt K H r sa ns) (a : LK t K r sa ns H H') : Tp H H' := fun b xs q => by
  obtain ⟨ys, hr⟩ := row_lst h
  have n : b ≠ r := fun e => by
    subst e
    rcases q with q | ⟨o, q⟩
    · rw [hr] at q; cases q
    · rw [hr] at q; cases q
  rcases q with q | ⟨o, q⟩
  · exact .inl (a.keep _ _ n q fun ps z => by cases z)
  · exact .inr ⟨o, a.keep _ _ n q fun ps z => by cases z⟩
theorem LK.tq {t : TabsAt} {r sa : Addr} {ns : List Int} {H H' : Hp} (h : RowAt K H r sa ns) (a : LK t K r sa ns H H') : Tq H H' := fun b xs => by
  obtain ⟨ys, hr⟩ := row_lst h
  have n : ∀ {u}, H b = some u → (∀ zs, u ≠ .lst zs) → b ≠ r := fun {u} e z y => by
    subst y
    rw [hr] at e
    cases e
    exact z _ rfl
  exact ⟨fun q => a.keep _ _ (n q fun _ z => by cases z) q fun ps z => (by cases z), fun o q => a.keep _ _ (n q fun _ z => by cases z) q fun ps z => by cases z⟩
end

/-! ### nested values of a bounded depth -/
def Sz : Nat → PyData → Prop
  | 0, d => (∃ i, d = .int i) ∨ d = .none
  | k + 1, d => (∃ i, d = .int i) ∨ d = .none ∨ ∃ ds, d = .tuple ds ∧ ds.length ≤ 100000 ∧ ∀ e ∈ ds, Sz k e
theorem sz_up : ∀ {k : Nat} {d : PyData}, Sz k d → Sz (k + 1) d
  | 0, _, h => by
    rcases h with ⟨i, rfl⟩ | rfl
    · exact .inl ⟨i, rfl⟩
    · exact .inr (.inl rfl)
  | k + 1, _, h => by
    rcases h with ⟨i, rfl⟩ | rfl | ⟨ds, rfl, h1, h2⟩
    · exact .inl ⟨i, rfl⟩
    · exact .inr (.inl rfl)
    · exact .inr (.inr ⟨ds, rfl, h1, fun e he => sz_up (h2 e he)⟩)
theorem sz_le {k j : Nat} {d : PyData} (hk : k ≤ j) (h : Sz k d) : Sz j d := by
  induction hk with
  | refl => exact h
  | step _ ih => exact sz_up ih
theorem sz_int (k : Nat) (i : Int) : Sz k (.int i) := by
  cases k with
  | zero => exact .inl ⟨i, rfl⟩
  | succ k => exact .inl ⟨i, rfl⟩
theorem sz_tup {k : Nat} {ds : List PyData} (h1 : ds.length ≤ 100000) (h2 : ∀ e ∈ ds, Sz k e) : Sz (k + 1) (.tuple ds) := .inr (.inr ⟨ds, rfl, h1, h2⟩)
theorem sz_rD {m : List Int} (h : m.length ≤ 100000) : Sz 1 (rD m) := sz_tup (by rw [List.length_map]; exact h) fun e he => by
  obtain ⟨i, _, rfl⟩ := List.mem_map.mp he
  exact sz_int 0 i
theorem sz_num (f : Int) (x : Int × Int) : Sz 1 (numD f x) := by
  unfold numD
  split
  · refine sz_tup (by show 2 ≤ 100000; decide) fun e he => ?_
    simp only [List.mem_cons, List.not_mem_nil, or_false] at he
    rcases he with rfl | rfl <;> exact sz_int 0 _
  · exact sz_int 1 _
theorem sz_lay : ∀ {k : Nat} {d : PyData}, Sz k d → d.canLay0 = true ∧ d.depth ≤ k
  | 0, _, h => by
    rcases h with ⟨i, rfl⟩ | rfl
    · exact ⟨rfl, Nat.le_refl _⟩
    · exact ⟨rfl, Nat.le_refl _⟩
  | k + 1, _, h => by
    rcases h with ⟨i, rfl⟩ | rfl | ⟨ds, rfl, h1, h2⟩
    · exact ⟨rfl, Nat.zero_le _⟩
    · exact ⟨rfl, Nat.zero_le _⟩
    · have go : ∀ ds : List PyData, (∀ e ∈ ds, Sz k e) → PyData.canLayAll0 ds = true ∧ PyData.depthAll ds ≤ k := by
        intro ds
        induction ds with
        | nil => intro _; exact ⟨rfl, Nat.zero_le _⟩
        | cons e ds ih =>
          intro h
          obtain ⟨q1, q2⟩ := sz_lay (h e List.mem_cons_self)
          obtain ⟨q3, q4⟩ := ih fun e he => h e (List.mem_cons_of_mem _ he)
          exact ⟨by simp [PyData.canLayAll0, q1, q3], by simp only [PyData.depthAll]; omega⟩
      obtain ⟨q1, q2⟩ := go ds h2
      exact ⟨q1, Nat.succ_le_succ q2⟩
theorem sz_shaped {k : Nat} {d : PyData} (h : Sz k d) (hk : k ≤ 64) : SeqAt.shaped d = true := by
  obtain ⟨q1, q2⟩ := sz_lay h
  show (d.canLay0 && decide (d.depth ≤ 64)) = true
  rw [q1, decide_eq_true (by omega)]; rfl
theorem dpAll_ix {K : PySem.W.Frag} {H : Hp} : ∀ {xs : List V} {ds : List PyData}, DpAll K H xs ds → ∀ {i : Nat} {x : V}, xs[i]? = some x → ∃ d, ds[i]? = some d ∧ Dp K H x d
  | [], _, _, _, _, h => by simp at h
  | _ :: _, [], h, _, _, _ => by cases h
  | x :: xs, d :: ds, h, 0, _, e => by
    cases h with
    | cons a b => simp at e; subst e; exact ⟨d, rfl, a⟩
  | x :: xs, d :: ds, h, i + 1, _, e => by
    cases h with
    | cons a b => exact dpAll_ix b (by simpa using e)
/-- two values with the same data are equal -/
theorem al_dp {K : PySem.W.Frag} : ∀ (k : Nat) {d : PyData} {x y : V} {H : Hp}, Sz k d → Dp K H x d → Dp K H y d → Al K k H x y
  | 0, _, x, y, H, h, hx, hy => by
    rcases h with ⟨i, rfl⟩ | rfl
    · cases hx; cases hy; exact .int _ _ _
    · cases hx; cases hy; exact .non _ _
  | k + 1, _, x, y, H, h, hx, hy => by
    rcases h with ⟨i, rfl⟩ | rfl | ⟨ds, rfl, h1, h2⟩
    · cases hx; cases hy; exact .int _ _ _
    · cases hx; cases hy; exact .non _ _
    · cases hx with
      | @tup a xs _ ha hxs =>
      cases hy with
      | @tup b ys _ hb hys =>
      have l1 := Toy.DpAll.len hxs
      have l2 := Toy.DpAll.len hys
      refine .tup ha hb (by omega) (by omega) fun i u v e1 e2 H' s => ?_
      obtain ⟨d1, g1, g2⟩ := dpAll_ix hxs e1
      obtain ⟨d2, g3, g4⟩ := dpAll_ix hys e2
      rw [g1] at g3
      cases g3
      exact al_dp k (h2 d1 (List.mem_of_getElem? g1)) (Dp.same s _ _ g2) (Dp.same s _ _ g4)
def termD (f : Int) (u : Tm) : PyData := .tuple [numD f u.1, rD u.2]
def polyD (f : Int) (ts : List Tm) : PyData := .tuple (ts.map (termD f))
theorem TermV.dp {K : PySem.W.Frag} {H : Hp} {f : Int} {v : V} {u : Tm} (h : TermV K H f v u) : Dp K H v (termD f u) := by
  obtain ⟨tp, M, nv, rfl, h1, h2, h3⟩ := h
  exact .tup h1 (.cons h2.dp (.cons (dp_ints (.inl (.inl h3))) .nil))
theorem dpAll_mk {K : PySem.W.Frag} {H : Hp} : ∀ {xs : List V} {ds : List PyData}, xs.length = ds.length → (∀ (i : Nat) (x : V) (d : PyData), xs[i]? = some x → ds[i]? = some d → Dp K H x d) → DpAll K H xs ds
  | [], [], _, _ => .nil
  | [], _ :: _, h, _ => by simp at h
  | _ :: _, [], h, _ => by simp at h
  | x :: xs, d :: ds, h, g => .cons (g 0 x d rfl rfl) (dpAll_mk (by simpa using h) fun i x d e1 e2 => g (i + 1) x d (by simpa using e1) (by simpa using e2))
theorem PolyV.dp {K : PySem.W.Frag} {H : Hp} {f : Int} {v : V} {ts : List Tm} (h : PolyV K H f v ts) : Dp K H v (polyD f ts) := by
  obtain ⟨pa, vs, rfl, h1, h2, h3⟩ := h
  refine .tup h1 (dpAll_mk (by rw [List.length_map]; exact h2) fun i x d e1 e2 => ?_)
  rw [List.getElem?_map] at e2
  obtain ⟨u, e3, rfl⟩ := Option.map_eq_some_iff.mp e2
  exact (h3 i x u e1 e3).dp
theorem sz_term {f : Int} {u : Tm} (h : u.2.length ≤ 100000) : Sz 2 (termD f u) := sz_tup (by show 2 ≤ 100000; decide) fun e he => by
  simp only [List.mem_cons, List.not_mem_nil, or_false] at he
  rcases he with rfl | rfl
  · exact sz_num f _
  · exact sz_rD h
theorem sz_poly {f : Int} {ts : List Tm} (h : ts.length ≤ 100000) (hm : ∀ u ∈ ts, u.2.length ≤ 100000) : Sz 3 (polyD f ts) := sz_tup (by rw [List.length_map]; exact h) fun e he => by
  obtain ⟨u, hu, rfl⟩ := List.mem_map.mp he
  exact sz_term (hm u hu)

/-- the list pv holds the terms ts -/
def PolyL (K : PySem.W.Frag) (H : Hp) (f : Int) (pv : V) (ts : List Tm) : Prop := ∃ (pa : Addr) (vs : List V), pv = .ref pa ∧ H pa = some (.lst vs) ∧ vs.length = ts.length ∧ ∀ (i : Nat) (v : V) (t : Tm), vs[i]? = some v → ts[i]? = some t → TermV K H f v t
section
variable {P : Program} {w : World} {K : PySem.W.Frag} {mg : Str → Option Value} {base : Heap}
def sp_sum_of_list (C : Addr) (t : TabsAt) (K : PySem.W.Frag) : Sp := fun vs H Q _ => ∃ (a : Addr) (f : Int) (n : Nat) (rs : List (List Int)) (v : V) (ts : List Tm), vs = [.ref a, v] ∧ n ≤ 4 ∧ RowsOk n rs ∧ IsF f ∧ CodO C K H a n rs ∧ CodF C H a f ∧ PolyL K H f v ts ∧ ts.length ≤ 5000 ∧ (∀ u ∈ ts, TermOk f n u) ∧ SumOk f ts ∧ TS t H ∧
  ∀ v' H', Ex t H H' → PolyV K H' f v' (polyL f n rs ts) → Q v' H'
theorem ok_sum_of_list (T : Txt K mg) {t : TabsAt} (B : TBs T base t) : FnOk P w K mg base CX0 16 T.sum_of_terms.f T.sum_of_terms.fd P_sum_of_terms (sp_sum_of_list T.Coding.C t K) := by
  refine okC T.sum_of_terms.F B.h_sum_of_terms sc_sum_of_terms (fun vs H Q E h => ?_) (fun A outer s H vs Q E hr h => ?_)
  · obtain ⟨a, f, n, rs, v, ts, rfl, _⟩ := h; rfl
  · obtain ⟨a, f, n, rs, v, ts, rfl, hn4, hrs, hF, hc, hcf, hp, hlen, hok, hsum, tsH, k⟩ := h
    obtain ⟨pa, vs, rfl, hP, hvl, hT⟩ := id hp
    obtain ⟨dx, fs, c1, cf, _⟩ := id hcf
    refine ⟨_, (pss_cons (ps_set (i := 2) sc_sum_of_terms.nd rfl (Or.inl rfl) (pe_fld (pv 0) rfl))
  (pss_cons (ps_set (i := 3) sc_sum_of_terms.nd rfl (Or.inl rfl) pe_dnewT)
  (pss_cons (ps_for PassesOwn.never rfl (pi_list (pv 1)) (pg_tup rfl (pgs_cons (pg_name (i := 4) sc_sum_of_terms.nd rfl (Or.inl rfl)) (pgs_cons (pg_name (i := 5) sc_sum_of_terms.nd rfl (Or.inl rfl)) pgs_nil))) (pss_cons (ps_if (pt_cmp (pc_din (Nat.lt_of_le_of_lt (Nat.add_le_add_left (show 1 ≤ 64 by decide) _) hr.units) (pv 5) (pv 3))) (pss_one (ps_set (i := 4) sc_sum_of_terms.nd rfl (Or.inl rfl) (pe_call (ok_add_numbers T) (hr.mono (by decide)) rfl T.add_numbers.g T.add_numbers.F.kp (b_add_numbers T) .nil pass0 (pa_cons (pv 2) (pa_cons (pe_dget (Nat.lt_of_le_of_lt (Nat.add_le_add_left (show 1 ≤ 64 by decide) _) hr.units) (pv 3) (pv 5) (fun _ _ => rfl)) (pa_cons (pv 4) pa_nil)))))) pss_nil)
  (pss_one (ps_dput (Nat.lt_of_le_of_lt (Nat.add_le_add_left (show 1 ≤ 64 by decide) _) hr.units) (pv 3) (pv 5) (pv 4) rfl))))
  (pss_cons (ps_set (i := 6) sc_sum_of_terms.nd rfl (Or.inr rfl) (pe_call (ok_zero_of T) (hr.mono (by decide)) rfl T.zero_of.g T.zero_of.F.kp (b_zero_of T) .nil pass0 (pa_cons (pv 2) pa_nil)))
  (pss_cons (ps_lock (ps_setLc (i := 7) (own := [("monomial", 5), ("number", 4)]) rfl sc_sum_of_terms.nd rfl rfl (sw_true rfl rfl rfl (by decide +kernel)) (pi_itemsT (pv 3)) (blkOk_by (own := [("monomial", 5), ("number", 4)]) (N := N_sum_of_terms) (sc := defScope s_sum_of_terms) (by decide +kernel)) (fun _ _ _ _ _ => (pg_tupK (K := K) (n := 2) rfl rfl (pgs_cons (pg_name (i := 5) sc_sum_of_terms.nd rfl (Or.inl rfl)) (pgs_cons (pg_name (i := 4) sc_sum_of_terms.nd rfl (Or.inl rfl)) pgs_nil)))) (fun _ _ _ _ _ => pts_one (pt_cmpR (r := rNeD K) (op_neD hr.units) (pv 4) (pv 6) (nomark _))) (fun _ _ _ _ _ => (pe_tup (pa_cons (pv 4) (pa_cons (pv 5) pa_nil))))))
  (pss_one (ps_ret (pe_callTy (r := rTupOf K) call_tuple_of rfl T.n_tuple bo_tuple (pa_cons (pe_sortFR hr rfl T.n_sorted bo_sorted (pv 7) (pe_lamF (T := lamT "sum_of_terms" (t.a "sum_of_terms")) B.b_sum_of_terms rfl (List.mem_cons_self) (fun p hp _ => by unfold lamT at hp; rw [List.mem_singleton] at hp; subst hp; rfl) free_sum_of_terms)) pa_nil))))))))), ?_⟩
    walk_at "rd"
    refine ⟨_, _, _, _, _, rfl, c1, T.Coding.cls, T.Coding.n_field, cf, ?_⟩
    walk_at "rd"
    intro d hd
    walk_at "rd"
    refine ⟨⟨vs, .inl (.inl (same_upd hd _ _ hP))⟩, ?_⟩
    refine for_list (K := K) (a := pa) (xs := vs) (fun i σ H' => Ex t H H' ∧ (∃ y z, σ = [some (.ref a), some (.ref pa), some (.int f), some (.ref d), y, z, none, none]) ∧ ∃ kvs, H' d = some (.dT kvs) ∧ KVs H' f kvs ((ts.take i).foldl (addT f) []))
      ⟨Ex.of tsH (same_upd hd), ⟨_, _, rfl⟩, [], upd_same, .nil⟩ (fun i σ H' _ q => (.inl (.inl (q.1.keep _ _ hP fun ps z => by cases z)))) (fun i x σ H' hx q => ?_) (fun σ H' q => ?_)
    · obtain ⟨x1, ⟨y, z, rfl⟩, kvs, hkv, hK⟩ := q
      have hi : i < ts.length := by rw [← hvl]; exact (List.getElem?_eq_some_iff.mp hx).1
      obtain ⟨tp, M, nv, rfl, h1, h2, h3⟩ := (hT i x ts[i] hx (List.getElem?_eq_getElem hi)).ex x1.keep
      obtain ⟨o1, o2⟩ := hok _ (List.getElem_mem hi)
      have hkl : kvs.length ≤ i := by rw [kvs_len hK]; exact len_fold f ts i
      have e3 : H' M = some (.tup ((inlK ts[i].2).map kV)) := by rw [inlK_kV]; exact h3
      have stepK : ∀ (v' : V) (x' : Int × Int) (H2 : Hp), Same H' H2 → NumV H2 f v' x' → addT f ((ts.take i).foldl (addT f) []) ts[i] = putM ((ts.take i).foldl (addT f) []) ts[i].2 x' →
          ∃ H4, DPut H2 d (.ref M) v' H4 ∧ Ex t H H4 ∧ ∃ kvs, H4 d = some (.dT kvs) ∧ KVs H4 f kvs ((ts.take (i + 1)).foldl (addT f) []) := fun v' x' H2 s2 nx e => by
        have hd2 := s2 _ _ hkv
        refine ⟨_, DPut.t hd2 (s2 _ _ e3) (by rw [sizeLine_eq]; omega), (x1.same s2).put (NT.of hd) hd2 (fun _ z => by cases z) (fun _ z => by cases z), _, upd_same, ?_⟩
        rw [fold_take f ts i _ (List.getElem?_eq_getElem hi), e]
        have tq : Tq H2 (upd H2 d (.dT (putK kvs (inlK ts[i].2) v'))) := tq_upd hd2 trivial
        exact kvs_put ((hK.tq (tq_same s2)).tq tq) (nx.tq tq)
      walk_at "rd"
      refine ⟨tp, _, rfl, h1, rfl, ?_⟩
      walk_at "rd"
      refine ⟨d, _, rfl, DGet.t hkv e3, _, rfl, ?_⟩
      rcases kvs_get (m := ts[i].2) hK with ⟨g1, g2⟩ | ⟨v0, x0, g1, g2, g3⟩
      · rw [g1]
        refine iteF ?_
        walk_at "rd"
        obtain ⟨H4, q1, q2, q3⟩ := stepK nv ts[i].1 H' (Same.refl _) h2 (addT_none g2)
        exact ⟨d, H4, rfl, q1, q2, ⟨_, _, rfl⟩, q3⟩
      · rw [g1]
        refine iteT ?_
        walk_at "rd"
        refine ⟨d, v0, rfl, ?_, ?_⟩
        · have := DGet.t hkv e3
          rw [g1] at this
          exact this
        walk_at "rd"
        have hmem : ∃ e ∈ (ts.take i).foldl (addT f) [], e.2 = x0 := by
          have go : ∀ {al : Al2} {m : List Int}, getM al m = some x0 → ∃ e ∈ al, e.2 = x0 := by
            intro al m
            induction al with
            | nil => intro z; cases z
            | cons e al ih =>
              intro z
              unfold getM at z
              by_cases he : e.1 = m
              · rw [if_pos he] at z; exact ⟨e, List.mem_cons_self, Option.some.inj z⟩
              · rw [if_neg he] at z
                obtain ⟨e', q1, q2⟩ := ih z
                exact ⟨e', List.mem_cons_of_mem _ q1, q2⟩
          exact go g2
        obtain ⟨e0, m0, rfl⟩ := hmem
        refine ⟨f, v0, nv, e0.2, ts[i].1, rfl, hF, g3, h2, hsum i e0 m0, o1, fun v' H2 nx s2 => ?_⟩
        walk_at "rd"
        obtain ⟨H4, q1, q2, q3⟩ := stepK v' _ H2 s2 nx (addT_some g2)
        exact ⟨d, H4, rfl, q1, q2, ⟨_, _, rfl⟩, q3⟩
    · obtain ⟨x1, ⟨y, z, rfl⟩, kvs, hkv, hK⟩ := q
      rw [hvl, List.take_length] at hK
      walk_at "rd"
      intro zv H2 nz s2
      have hd2 := s2 _ _ hkv
      have hK2 := hK.tq (tq_same s2)
      walk_at "rd"
      refine ⟨d, _, hd2, trivial, fun od => ?_⟩
      obtain ⟨G, eG⟩ : ∃ G, G = upd H2 d (.frz od (.dT kvs)) := ⟨_, rfl⟩
      have Gd : G d = some (.frz od (.dT kvs)) := by rw [eG]; exact upd_same
      have gq : Tq H2 G := by rw [eG]; exact tq_upd hd2 trivial
      rw [← eG]
      walk_at "rd"
      refine ⟨d, od, kvs, rfl, Gd, fun D hD => ?_⟩
      have hKl : kvs.length = (sumL f ts).length := kvs_len hK2
      have hsl : (sumL f ts).length ≤ 5000 := Nat.le_trans (sum_len f ts) hlen
      refine lc_it (walk_itemsT) (fun i H5 => ∃ ys, Same G H5 ∧ H5 D = some (.lst ys) ∧ Paired (fun y u => TermV K H5 f y u) ys (keepOf ((sumL f ts).take i))) ⟨[], same_upd hD, upd_same, .nil⟩ (fun i H5 _ q => by obtain ⟨_, q, _⟩ := q; exact q _ _ Gd) (fun i x H5 H6 hi q y => ?_) (fun H5 q => ?_)
      · obtain ⟨ys, s5, hD5, hp5⟩ := q
        obtain ⟨Tt, q0, ky, v, e1, rfl, e2, e3, rfl⟩ := y
        obtain ⟨em, e4, ⟨e5, e6⟩⟩ := paired_at hK2 e1
        have e5 : ky = inlK em.1 := e5
        have e6 : NumV H2 f v em.2 := e6
        subst e5
        have hm : em ∈ sumL f ts := List.mem_of_getElem? e4
        have oke : NumOk f em.2 := by
          have := hsum ts.length em
          rw [List.take_length] at this
          exact this hm
        have s6 : Same H5 (upd H5 Tt (.tup [.ref q0, v])) := same_upd e3
        refine ⟨Tt, _, rfl, .inl (.inl upd_same), rfl, ?_⟩
        walk_at "rd"
        have nv6 := ((e6.tq gq).tq (tq_same s5)).tq (tq_same s6)
        have nz6 := (((nz).tq gq).tq (tq_same s5)).tq (tq_same s6)
        refine ⟨_, _, nv6.dp, nz6.dp, numD_shaped _ _, numD_shaped _ _, ?_⟩
        rw [numD_zero oke]
        refine ⟨_, rfl, ?_⟩
        refine iteDn (fun g => ?_) (fun g => ?_)
        · walk_at "rd"
          refine ⟨two_line, fun p hp => ?_⟩
          have s7 : Same H5 (upd (upd H5 Tt (.tup [.ref q0, v])) p (.tup [v, .ref q0])) := Same.trans s6 (same_upd hp)
          refine ⟨ys, s7 _ _ hD5, ?_, _, ?_, upd_same, ?_⟩
          · have hl : ys.length = (keepOf ((sumL f ts).take i)).length := Paired.length hp5
            have : (keepOf ((sumL f ts).take i)).length ≤ 5000 := by
              unfold keepOf
              rw [List.length_map]
              refine Nat.le_trans (List.length_filter_le _ _) ?_
              rw [List.length_take]
              omega
            rw [sizeLine_eq]; omega
          · intro b o e
            have nb : b ≠ D := fun z => by
              subst z
              rw [hD] at e; cases e
            exact (upd_ne nb).trans (s7 _ _ (s5 _ _ e))
          · rw [keep_step (sumL f ts) i em e4, if_pos g]
            have tq : Tq H5 (upd (upd (upd H5 Tt (.tup [.ref q0, v])) p (.tup [v, .ref q0])) D (.lst (ys ++ [.ref p]))) := (tq_same s7).trans (tq_upd (s7 _ _ hD5) trivial)
            have t2 : Tq (upd H5 Tt (.tup [.ref q0, v])) (upd (upd (upd H5 Tt (.tup [.ref q0, v])) p (.tup [v, .ref q0])) D (.lst (ys ++ [.ref p]))) := (tq_new hp).trans (tq_upd (s7 _ _ hD5) trivial)
            have nD : p ≠ D := fun z => by
              subst z
              rw [s6 _ _ hD5] at hp; cases hp
            refine paired_app (Paired.mapP hp5 fun _ _ z => z.tq tq) ⟨p, q0, v, rfl, .inl (.inl ((upd_ne nD).trans upd_same)), nv6.tq t2, ?_⟩
            show _ = some (HO.tup (em.1.map V.int))
            rw [← inlK_kV]
            exact (tq _ _).1 e2
        · refine ⟨ys, fun b o e => s6 _ _ (s5 _ _ e), s6 _ _ hD5, ?_⟩
          rw [keep_step (sumL f ts) i em e4, if_neg (by omega), List.append_nil]
          exact Paired.mapP hp5 fun _ _ z => z.tq (tq_same s6)
      · obtain ⟨ys, s5, hD5, hp5⟩ := q
        rw [hKl, List.take_length] at hp5
        have Hd5 := s5 _ _ Gd
        refine ⟨Hd5, ?_⟩
        obtain ⟨U, eU⟩ : ∃ U, U = upd H5 d (.dT kvs) := ⟨_, rfl⟩
        have sU : Same H2 U := fun b o e => by
          rw [eU]
          by_cases hb : b = d
          · subst hb
            rw [hd2] at e
            cases e
            exact upd_same
          · refine (upd_ne hb).trans (s5 _ _ ?_)
            rw [eG]
            exact (upd_ne hb).trans e
        have nDd : D ≠ d := fun z => by
          subst z
          rw [Gd] at hD; cases hD
        have UD : U D = some (.lst ys) := by rw [eU]; exact (upd_ne nDd).trans hD5
        have uq : Tq H5 U := by rw [eU]; exact tq_upd Hd5 trivial
        have xU : Ex t H U := (x1.same s2).same sU
        have hpU : Paired (fun y u => TermV K U f y u) ys (keptL f ts) := Paired.mapP hp5 fun _ _ z => z.tq uq
        rw [← eU]
        walk_at "rd"
        refine ⟨xU.ts.l _ lx_sum, fun g c' H3 kb e3 t3 g1 cc1 => ?_⟩
        have x3 : Ex t U H3 := by
          obtain ⟨ps, q1, _⟩ := xU.ts.l _ lx_sum _ List.mem_cons_self
          exact ⟨e3, xU.ts.lam lx_sum gx_sum kb t3 ⟨ps, q1⟩⟩
        have c3 : CodO T.Coding.C K H3 a n rs := (CodO.ex xU hc).ex x3
        have hp3 : Paired (fun y u => TermV K H3 f y u) ys (keptL f ts) := Paired.mapP hpU fun _ _ z => z.ex x3.keep
        have el : H3 D = some (.lst ys) := e3 _ _ UD fun _ z => nomatch z
        obtain ⟨z1, z2, z3⟩ := zip_paired hp3
        obtain ⟨cs, ecs⟩ : ∃ cs, cs = ys.zip (keptL f ts) := ⟨_, rfl⟩
        rw [← ecs] at z1 z2 z3
        have cok : ∀ c ∈ cs, Mon n c.2.2 := fun c hc => by
          have hm : c.2 ∈ keptL f ts := by rw [← z2]; exact List.mem_map_of_mem hc
          unfold keptL at hm
          obtain ⟨e, he, q⟩ := List.mem_map.mp hm
          have := sum_key (f := f) (p := fun m => Mon n m) (fun u hu => (hok u hu).2) e (List.mem_filter.mp he).1
          rw [← q]
          exact this
        refine ⟨D, g, cs.map fun c => (c.1, codeR n rs c.2.2), rfl, rfl, .inl (.inl ?_), ?_, fun p hp => ?_⟩
        · rw [el, ← z1, List.map_map]
          rfl
        · intro Φ pins t1 Sx I hΦ b hb u ru
          obtain ⟨c, hcc, rfl⟩ := List.mem_map.mp hb
          obtain ⟨tp, M, nv, e0, h1, _, h3⟩ := z3 c hcc
          have ru : RelV c.1 u := ru
          rw [e0] at ru
          obtain rfl : u = Value.ref tp := ru
          obtain ⟨its, rvs, ⟨ot, ot1, ot2⟩, hz⟩ := I.tuple h1
          have eM : its.toArray[1]? = some (Value.ref M) ∧ its.toArray.size ≤ sizeLine := by
            cases rvs with
            | cons r1 t1 =>
              cases t1 with
              | cons r2 t2 =>
                cases t2
                exact ⟨by rw [← (show _ = Value.ref M from r2)]; rfl, two_line⟩
          obtain ⟨⟨pm, ctv, og⟩, _, _⟩ := I.hok g _ g1
          obtain ⟨⟨oc, cvs, tt, o1, o2, o3⟩, _, _⟩ := I.hok c' _ cc1
          have hcell : t1.heap.IsCell (s.heap.objs.size + 1) (some (.ref a)) := by
            obtain ⟨m, _, hl⟩ := I.loc
            obtain ⟨u, ru, lk⟩ := hl 0 "coding" (.ref a) rfl rfl (.inr (.inl rfl))
            obtain rfl : u = Value.ref a := ru
            rcases lk with ⟨z, _⟩ | ⟨_, c0, z1, z2⟩
            · cases z
            · cases z1
              exact z2
          refine pf_lam1 Sx (fun h q => ⟨pm, ctv, hΦ h q _ _ og⟩) (fun h q => ⟨oc, cvs, tt, hΦ h q _ _ o1, o2, o3⟩) rfl rfl rfl (by decide) (x := "term") rfl (fun _ _ => rfl) (Nat.lt_of_le_of_lt (Nat.le_add_right _ (3 * 15 + 5)) hr.dp) fun env ev hsc hcl => ?_
          have cO : ∀ h, Φ h → ∃ dx' mA, ObjM h a dx' T.Coding.C mA ∧ mA ("code" : Str) = Option.none := fun h q => by
            obtain ⟨dx', L', fs', rv', w1, _, _, _, _, _, w7⟩ := c3
            obtain ⟨mA, O, hr', _⟩ := ins_get I.hok w1
            obtain ⟨z1, z2, z3⟩ := O
            exact ⟨dx', mA, ⟨hΦ h q _ _ z1, z2.keeps fun b o e => hΦ h q b o e, z3⟩, RelO.none_of (by rw [← w7]; exact hr' _)⟩
          refine pu_meth (Rs := fun us => us = [Value.ref M]) Sx (pu_free ev (by rw [hsc]; rfl) (by rw [hcl]; rfl) fun h q => hcell.keeps fun b o e => hΦ h q b o e) T.Coding.cls T.Coding.m_code cO (fun pos A' E' s' w1 w2 w3 w4 w5 => wpAny_mono ((pua_cons Sx (pu_ix (j := 1) Sx (pu_name (x := "term") (u := .ref tp) ev (by rw [hsc]; rfl) rfl) pu_int (fun h q => ⟨ot, hΦ h q _ _ ot1, ot2⟩) eM.1 eM.2 (fun _ _ => rfl)) pua_nil) pos A' E' s' w1 w2 w3 w4 w5) (fun us s2 w => ?_) fun _ _ z => z) ?_
          · obtain ⟨⟨u0, v0, e0, e1, e2⟩, w⟩ := w
            exact ⟨by rw [e0, e1, e2], w⟩
          · rintro us rfl
            exact PuG.pos (code_pu T Sx hΦ I.hok I.kIn c3 (.inl (.inl h3)) (unit_mul hn4 hrs (cok _ hcc).1) (by have h := hr.dp; show (A.deeper _).depth + 1 + 8 < recursionLimit; omega) (by have h := hr.un; show (A.deeper _).units + 2 + 3 + 64 < cLine; omega)) Sx (b_Coding_code T) rfl
        · refine ⟨_, _, rfl, .inl ⟨.inl (.inl upd_same), fun l hl => ?_⟩⟩
          have s9 : Same H3 (upd (upd H3 p (.lst ((List.map (fun c => (c.1, codeR n rs c.2.2)) cs).mergeSort (PySem.W.dataLe true fun b => PyData.int b.2) |>.map (·.1)))) l (.tup ((List.map (fun c => (c.1, codeR n rs c.2.2)) cs).mergeSort (PySem.W.dataLe true fun b => PyData.int b.2) |>.map (·.1)))) := Same.trans (same_upd hp) (same_upd hl)
          have e1 : ((cs.map fun c => (c.1, codeR n rs c.2.2)).mergeSort (PySem.W.dataLe true fun b => PyData.int b.2)) = (cs.mergeSort fun a b => geT n rs a.2 b.2).map fun c => (c.1, codeR n rs c.2.2) :=
            (PySem.W.sort_maps (fun c : V × Tm => (c.1, codeR n rs c.2.2)) fun a _ b _ => (le_codes a b).symm).symm
          have e2' : (cs.mergeSort fun a b => geT n rs a.2 b.2).map (·.2) = polyL f n rs ts := by
            unfold polyL
            rw [← z2]
            exact PySem.W.sort_maps (fun c : V × Tm => c.2) fun _ _ _ _ => rfl
          refine k _ _ ((xU.trans x3).same s9) ⟨l, _, rfl, .inl (.inl upd_same), ?_, fun i v u h1 h2 => ?_⟩
          · rw [List.length_map, e1, List.length_map, ← e2', List.length_map]
          · rw [e1, List.map_map, List.getElem?_map] at h1
            rw [← e2', List.getElem?_map] at h2
            obtain ⟨c, hc1, rfl⟩ := Option.map_eq_some_iff.mp h1
            rw [hc1] at h2
            cases h2
            exact (z3 c ((List.mergeSort_perm _ _).mem_iff.mp (List.mem_of_getElem? hc1))).tq (tq_same s9)
end

/-! ### polynomials by integer terms: a polynomial is l / B -/
def mulN (f : Int) (a b : Int × Int) : Int × Int := if f = 0 then lowQ (a.1 * b.1) (a.2 * b.2) else ((a.1 * b.1) % f, 1)
abbrev IT := List (Int × List Int)
def coefI (l : IT) (m : List Int) : Int := (l.map fun t => if t.2 = m then t.1 else 0).sum
theorem coefI_nil (m : List Int) : coefI [] m = 0 := rfl
theorem coefI_cons (t : Int × List Int) (l : IT) (m : List Int) : coefI (t :: l) m = (if t.2 = m then t.1 else 0) + coefI l m := rfl
theorem coefI_app (a b : IT) (m : List Int) : coefI (a ++ b) m = coefI a m + coefI b m := by
  unfold coefI
  rw [List.map_append, List.sum_append]
theorem coefI_zero {l : IT} {m : List Int} (h : ∀ t ∈ l, t.2 ≠ m) : coefI l m = 0 := by
  induction l with
  | nil => rfl
  | cons t l ih =>
    rw [coefI_cons, if_neg (h t List.mem_cons_self), ih fun u hu => h u (List.mem_cons_of_mem _ hu)]; rfl
/-- a number in its only form, of any size -/
def NumN (f : Int) (x : Int × Int) : Prop := (f = 0 ∧ 0 < x.2 ∧ Nat.gcd x.1.natAbs x.2.natAbs = 1) ∨ (f ≠ 0 ∧ 0 ≤ x.1 ∧ x.1 < f ∧ x.2 = 1)
theorem NumOk.n {f : Int} {x : Int × Int} (h : NumOk f x) : NumN f x := by
  by_cases hf : f = 0
  · subst hf
    obtain ⟨_, h1, _, h2⟩ := numOk_q.1 h
    exact .inl ⟨rfl, h1, h2⟩
  · obtain ⟨h1, h2, h3⟩ := (numOk_m hf).1 h
    exact .inr ⟨hf, h1, h2, h3⟩
/-- x is c / B -/
def NIs (f : Int) (x : Int × Int) (c B : Int) : Prop := f ∣ x.1 * B - c * x.2
theorem nis_uniq {f : Int} {x y : Int × Int} {c d B C : Int} (hx : NumN f x) (hy : NumN f y) (hB : 0 < B) (hC : 0 < C) (hf1 : f ≠ 0 → B = 1 ∧ C = 1) (h1 : NIs f x c B) (h2 : NIs f y d C) (h : f ∣ c * C - d * B) : x = y := by
  unfold NIs at h1 h2
  rcases hx with ⟨hf, x1, x2⟩ | ⟨hf, x1, x2, x3⟩
  · subst hf
    rcases hy with ⟨_, y1, y2⟩ | ⟨z, _⟩
    · have e1 := Int.zero_dvd.mp h1
      have e2 := Int.zero_dvd.mp h2
      have e3 := Int.zero_dvd.mp h
      refine low_uniq x1 y1 x2 y2 ?_
      have hBC : B * C ≠ 0 := Int.mul_ne_zero (by omega) (by omega)
      refine Int.eq_of_mul_eq_mul_right hBC ?_
      grind
    · exact absurd rfl z
  · rcases hy with ⟨z, _⟩ | ⟨_, y1, y2, y3⟩
    · exact absurd z hf
    · obtain ⟨rfl, rfl⟩ := hf1 hf
      obtain ⟨u, v⟩ := x
      obtain ⟨u', v'⟩ := y
      simp only at *
      subst x3 y3
      have h3 : f ∣ u - u' := by
        have : u - u' = (u * 1 - c * 1) - (u' * 1 - d * 1) + (c * 1 - d * 1) := by omega
        rw [this]
        exact Int.dvd_add (Int.dvd_sub h1 h2) h
      have h4 : u - u' = 0 := by
        obtain ⟨k, hk⟩ := h3
        have hfp : 0 < f := by omega
        rcases Int.lt_trichotomy k 0 with h | h | h
        · have : f * k ≤ f * (-1) := Int.mul_le_mul_of_nonneg_left (by omega) (by omega)
          omega
        · rw [hk, h]; simp
        · have : f * 1 ≤ f * k := Int.mul_le_mul_of_nonneg_left (by omega) (by omega)
          omega
      have : u = u' := by omega
      rw [this]
theorem nis_zero {f B : Int} : NIs f (0, 1) 0 B := by
  unfold NIs
  simp
theorem nis_dvd {f : Int} {x : Int × Int} {c d B : Int} (h1 : NIs f x c B) (h : f ∣ c - d) : NIs f x d B := by
  unfold NIs at *
  have : x.1 * B - d * x.2 = (x.1 * B - c * x.2) + (c - d) * x.2 := by grind
  rw [this]
  exact Int.dvd_add h1 (Int.dvd_trans h (Int.dvd_mul_right _ _))
theorem addN_n {f : Int} (hF : IsF f) {x y : Int × Int} (hx : NumN f x) (hy : NumN f y) : NumN f (addN f x y) := by
  unfold addN
  rcases hx with ⟨hf, x1, x2⟩ | ⟨hf, x1, x2, x3⟩
  · subst hf
    rw [if_pos rfl]
    rcases hy with ⟨_, y1, y2⟩ | ⟨z, _⟩
    · obtain ⟨a1, a2, _⟩ := low_spec (x.1 * y.2 + y.1 * x.2) (d := x.2 * y.2) (Int.mul_ne_zero (by omega) (by omega))
      exact .inl ⟨rfl, a1, a2⟩
    · exact absurd rfl z
  · have := hF.pos hf
    rw [if_neg hf]
    exact .inr ⟨hf, Int.emod_nonneg _ (by omega), Int.emod_lt_of_pos _ (by omega), rfl⟩
theorem addN_is {f : Int} {x y : Int × Int} {c d B : Int} (hx : NumN f x) (hy : NumN f y) (hB : f ≠ 0 → B = 1) (h1 : NIs f x c B) (h2 : NIs f y d B) : NIs f (addN f x y) (c + d) B := by
  unfold NIs at *
  unfold addN
  rcases hx with ⟨hf, x1, x2⟩ | ⟨hf, x1, x2, x3⟩
  · subst hf
    rw [if_pos rfl]
    rcases hy with ⟨_, y1, y2⟩ | ⟨z, _⟩
    · have e1 := Int.zero_dvd.mp h1
      have e2 := Int.zero_dvd.mp h2
      have hne : x.2 * y.2 ≠ 0 := Int.mul_ne_zero (by omega) (by omega)
      obtain ⟨a1, a2, a3, _⟩ := low_spec (x.1 * y.2 + y.1 * x.2) (d := x.2 * y.2) hne
      generalize lowQ (x.1 * y.2 + y.1 * x.2) (x.2 * y.2) = z at *
      refine Int.zero_dvd.mpr ?_
      have e : (z.1 * B - (c + d) * z.2) * (x.2 * y.2) = 0 := by grind
      rcases Int.mul_eq_zero.mp e with e | e
      · exact e
      · exact absurd e hne
    · exact absurd rfl z
  · rcases hy with ⟨z, _⟩ | ⟨_, y1, y2, y3⟩
    · exact absurd z hf
    · rw [if_neg hf]
      have hB1 := hB hf
      subst hB1
      simp only
      rw [x3] at h1
      rw [y3] at h2
      have e : (x.1 + y.1) % f * 1 - (c + d) * 1 = ((x.1 * 1 - c * 1) + (y.1 * 1 - d * 1)) - f * ((x.1 + y.1) / f) := by
        have := Int.emod_add_mul_ediv (x.1 + y.1) f
        omega
      rw [e]
      exact Int.dvd_sub (Int.dvd_add h1 h2) (Int.dvd_mul_right _ _)
/-- terms and integer terms alike -/
def T2 (f : Int) (B : Int) (ts : List Tm) (l : IT) : Prop := Paired (fun t e => t.2 = e.2 ∧ NumN f t.1 ∧ NIs f t.1 e.1 B) ts l
def lookA (al : Al2) (m : List Int) : Int × Int := (getM al m).getD (0, 1)
theorem numN_zero {f : Int} (hF : IsF f) : NumN f (0, 1) := by
  by_cases hf : f = 0
  · exact .inl ⟨hf, by decide, by decide⟩
  · have := hF.pos hf
    exact .inr ⟨hf, by decide, by show 0 < f; omega, rfl⟩
theorem addN_zero' {f : Int} {x : Int × Int} (h : NumN f x) : addN f (0, 1) x = x := by
  rcases h with ⟨hf, g1, g2⟩ | ⟨hf, h1, h2, h3⟩
  · subst hf
    unfold addN
    rw [if_pos rfl]
    have e1 : (0 : Int) * x.2 + x.1 * 1 = x.1 := by omega
    have e2 : (1 : Int) * x.2 = x.2 := by omega
    show lowQ (0 * x.2 + x.1 * 1) (1 * x.2) = x
    rw [e1, e2, low_self g1 g2]
  · unfold addN
    rw [if_neg hf]
    show ((0 + x.1) % f, 1) = x
    rw [Int.zero_add, Int.emod_eq_of_lt h1 h2, ← h3]
theorem look_add {f : Int} {al : Al2} {t : Tm} (hn : NumN f t.1) (m : List Int) : lookA (addT f al t) m = if m = t.2 then addN f (lookA al t.2) t.1 else lookA al m := by
  have e : addT f al t = putM al t.2 (addN f (lookA al t.2) t.1) := by
    unfold addT lookA
    cases hg : getM al t.2 with
    | none => show putM al t.2 t.1 = putM al t.2 (addN f (0, 1) t.1); rw [addN_zero' hn]
    | some y => rfl
  unfold lookA
  rw [e, getM_put]
  by_cases c : m = t.2
  · rw [if_pos c, if_pos c]; rfl
  · rw [if_neg c, if_neg c]
theorem fold_is {f : Int} (hF : IsF f) {B : Int} (hB : f ≠ 0 → B = 1) : ∀ (ts : List Tm) (l : IT) (al : Al2) (c : List Int → Int), T2 f B ts l → (∀ m, NumN f (lookA al m) ∧ NIs f (lookA al m) (c m) B) →
    ∀ m, NumN f (lookA (ts.foldl (addT f) al) m) ∧ NIs f (lookA (ts.foldl (addT f) al) m) (c m + coefI l m) B
  | [], [], al, c, _, h, m => by
    rw [coefI_nil, Int.add_zero]; exact h m
  | [], _ :: _, _, _, h, _, _ => by cases h
  | _ :: _, [], _, _, h, _, _ => by cases h
  | t :: ts, e :: l, al, c, h, g, m => by
    obtain ⟨⟨h1, h2, h3⟩, hr⟩ : (t.2 = e.2 ∧ NumN f t.1 ∧ NIs f t.1 e.1 B) ∧ T2 f B ts l := by
      cases h with
      | cons a b => exact ⟨a, b⟩
    have := fold_is hF hB ts l (addT f al t) (fun m => c m + (if e.2 = m then e.1 else 0)) hr (fun m => ?_) m
    · rw [List.foldl_cons, coefI_cons]
      rw [show c m + ((if e.2 = m then e.1 else 0) + coefI l m) = c m + (if e.2 = m then e.1 else 0) + coefI l m by omega]
      exact this
    · rw [look_add h2]
      by_cases hm : m = t.2
      · rw [if_pos hm, if_pos (by rw [hm, h1])]
        obtain ⟨g1, g2⟩ := g m
        rw [hm] at g1 g2
        rw [hm]
        exact ⟨addN_n hF g1 h2, addN_is g1 h2 hB g2 h3⟩
      · rw [if_neg hm, if_neg (fun z => hm (by rw [h1, z])), Int.add_zero]
        exact g m
theorem sum_is {f : Int} (hF : IsF f) {B : Int} (hB : f ≠ 0 → B = 1) {ts : List Tm} {l : IT} (h : T2 f B ts l) (m : List Int) : NumN f (lookA (sumL f ts) m) ∧ NIs f (lookA (sumL f ts) m) (coefI l m) B := by
  have := fold_is hF hB ts l [] (fun _ => 0) h (fun m => ⟨numN_zero hF, nis_zero⟩) m
  rwa [Int.zero_add] at this

/-! ### products and derivatives of integer terms -/
def addM (a b : List Int) : List Int := List.zipWith (· + ·) a b
def subM (a b : List Int) : List Int := List.zipWith (· - ·) a b
def IL (n : Nat) (l : IT) : Prop := ∀ t ∈ l, t.2.length = n
theorem addM_len {n : Nat} {a b : List Int} (ha : a.length = n) (hb : b.length = n) : (addM a b).length = n := by
  unfold addM; rw [List.length_zipWith]; omega
theorem subM_len {n : Nat} {a b : List Int} (ha : a.length = n) (hb : b.length = n) : (subM a b).length = n := by
  unfold subM; rw [List.length_zipWith]; omega
theorem add_sub : ∀ {a b m : List Int}, a.length = m.length → b.length = m.length → (addM a b = m ↔ a = subM m b)
  | [], [], [], _, _ => by simp [addM, subM]
  | [], _, _ :: _, h, _ => by simp at h
  | _ :: _, _, [], h, _ => by simp at h
  | [], _ :: _, [], _, h => by simp at h
  | _ :: _, [], _ :: _, _, h => by simp at h
  | x :: a, y :: b, z :: m, ha, hb => by
    have ih := add_sub (a := a) (b := b) (m := m) (by simpa using ha) (by simpa using hb)
    show (x + y) :: addM a b = z :: m ↔ x :: a = (z - y) :: subM m b
    rw [List.cons.injEq, List.cons.injEq, ih]
    constructor <;> rintro ⟨h1, h2⟩ <;> exact ⟨by omega, h2⟩
theorem addM_comm : ∀ (a b : List Int), addM a b = addM b a
  | [], [] => rfl
  | [], _ :: _ => rfl
  | _ :: _, [] => rfl
  | x :: a, y :: b => by
    show (x + y) :: addM a b = (y + x) :: addM b a
    rw [addM_comm a b, Int.add_comm]
theorem subM_swap : ∀ (m a b : List Int), subM (subM m a) b = subM (subM m b) a
  | [], _, _ => by cases ‹List Int› <;> simp [subM]
  | _ :: _, [], [] => rfl
  | _ :: _, [], _ :: _ => rfl
  | _ :: _, _ :: _, [] => rfl
  | z :: m, x :: a, y :: b => by
    show (z - x - y) :: subM (subM m a) b = (z - y - x) :: subM (subM m b) a
    rw [subM_swap m a b]
    congr 1
    omega
def mulT1 (t : Int × List Int) (b : IT) : IT := b.map fun u => (t.1 * u.1, addM t.2 u.2)
def mulI (a b : IT) : IT := a.flatMap fun t => mulT1 t b
theorem mulI_nil (b : IT) : mulI [] b = [] := rfl
theorem mulI_cons (t : Int × List Int) (a b : IT) : mulI (t :: a) b = mulT1 t b ++ mulI a b := rfl
theorem il_mul {n : Nat} {a b : IT} (ha : IL n a) (hb : IL n b) : IL n (mulI a b) := fun t ht => by
  unfold mulI at ht
  obtain ⟨u, hu, h⟩ := List.mem_flatMap.mp ht
  obtain ⟨v, hv, rfl⟩ := List.mem_map.mp h
  exact addM_len (ha u hu) (hb v hv)
theorem coef_mulT1 {n : Nat} {t : Int × List Int} (ht : t.2.length = n) {m : List Int} (hm : m.length = n) : ∀ {b : IT}, IL n b → coefI (mulT1 t b) m = t.1 * coefI b (subM m t.2)
  | [], _ => by show (0 : Int) = t.1 * 0; omega
  | u :: b, hb => by
    have ih := coef_mulT1 ht hm (b := b) fun v hv => hb v (List.mem_cons_of_mem _ hv)
    show coefI ((t.1 * u.1, addM t.2 u.2) :: mulT1 t b) m = _
    rw [coefI_cons, coefI_cons, ih]
    have hu := hb u List.mem_cons_self
    have e : (addM t.2 u.2 = m) ↔ u.2 = subM m t.2 := by rw [addM_comm]; exact add_sub (by omega) (by omega)
    by_cases c : u.2 = subM m t.2
    · rw [if_pos c, if_pos (e.2 c)]; grind
    · rw [if_neg c, if_neg (fun z => c (e.1 z))]; grind
/-- the sum over the first factor -/
theorem coef_mul {n : Nat} {m : List Int} (hm : m.length = n) {b : IT} (hb : IL n b) : ∀ {a : IT}, IL n a → coefI (mulI a b) m = (a.map fun t => t.1 * coefI b (subM m t.2)).sum
  | [], _ => rfl
  | t :: a, ha => by
    rw [mulI_cons, coefI_app, coef_mulT1 (ha t List.mem_cons_self) hm hb, coef_mul hm hb fun v hv => ha v (List.mem_cons_of_mem _ hv)]
    rfl
theorem sum_mapZ {α : Type} (f g : α → Int) : ∀ (l : List α), (l.map fun x => f x + g x).sum = (l.map f).sum + (l.map g).sum
  | [] => rfl
  | x :: l => by
    rw [List.map_cons, List.map_cons, List.map_cons, List.sum_cons, List.sum_cons, List.sum_cons, sum_mapZ f g l]
    omega
theorem sum_mulZ {α : Type} (c : Int) (f : α → Int) : ∀ (l : List α), (l.map fun x => c * f x).sum = c * (l.map f).sum
  | [] => by show (0 : Int) = c * 0; omega
  | x :: l => by
    rw [List.map_cons, List.map_cons, List.sum_cons, List.sum_cons, sum_mulZ c f l]
    grind
theorem sum_zero {α : Type} : ∀ (l : List α), (l.map fun _ => (0 : Int)).sum = 0
  | [] => rfl
  | x :: l => by rw [List.map_cons, List.sum_cons, sum_zero l]; rfl
theorem sum_swap {α β : Type} (F : α → β → Int) : ∀ (a : List α) (b : List β), (a.map fun x => (b.map fun y => F x y).sum).sum = (b.map fun y => (a.map fun x => F x y).sum).sum
  | [], b => (sum_zero b).symm
  | x :: a, b => by
    rw [List.map_cons, List.sum_cons, sum_swap F a b, ← sum_mapZ]
    rfl
theorem sum_congr {α : Type} {f g : α → Int} {l : List α} (h : ∀ x ∈ l, f x = g x) : (l.map f).sum = (l.map g).sum := by rw [List.map_congr_left h]
theorem coef_ind (b : IT) (m : List Int) : coefI b m = (b.map fun u => u.1 * (if u.2 = m then 1 else 0)).sum := by
  unfold coefI
  exact sum_congr fun u _ => by split <;> grind
theorem mul_comm_c {n : Nat} {a b : IT} (ha : IL n a) (hb : IL n b) {m : List Int} (hm : m.length = n) : coefI (mulI a b) m = coefI (mulI b a) m := by
  rw [coef_mul hm hb ha, coef_mul hm ha hb]
  have e1 : ∀ t ∈ a, t.1 * coefI b (subM m t.2) = (b.map fun u => t.1 * u.1 * (if addM t.2 u.2 = m then 1 else 0)).sum := fun t ht => by
    rw [coef_ind, ← sum_mulZ]
    refine sum_congr fun u hu => ?_
    have e : (addM t.2 u.2 = m) ↔ u.2 = subM m t.2 := by rw [addM_comm]; exact add_sub (by have := hb u hu; omega) (by have := ha t ht; omega)
    by_cases c : u.2 = subM m t.2
    · rw [if_pos c, if_pos (e.2 c)]; grind
    · rw [if_neg c, if_neg (fun z => c (e.1 z))]; grind
  have e2 : ∀ u ∈ b, u.1 * coefI a (subM m u.2) = (a.map fun t => t.1 * u.1 * (if addM t.2 u.2 = m then 1 else 0)).sum := fun u hu => by
    rw [coef_ind, ← sum_mulZ]
    refine sum_congr fun t ht => ?_
    have e : (addM t.2 u.2 = m) ↔ t.2 = subM m u.2 := add_sub (by have := ha t ht; omega) (by have := hb u hu; omega)
    by_cases c : t.2 = subM m u.2
    · rw [if_pos c, if_pos (e.2 c)]; grind
    · rw [if_neg c, if_neg (fun z => c (e.1 z))]; omega
  rw [sum_congr e1, sum_congr e2]
  exact sum_swap _ a b
theorem mul_swap_c {n : Nat} {a b c : IT} (ha : IL n a) (hb : IL n b) (hc : IL n c) {m : List Int} (hm : m.length = n) : coefI (mulI (mulI a b) c) m = coefI (mulI (mulI a c) b) m := by
  have e : ∀ {b c : IT}, IL n b → IL n c → coefI (mulI (mulI a b) c) m = (c.map fun v => (b.map fun u => v.1 * u.1 * coefI a (subM (subM m v.2) u.2)).sum).sum := fun {b c} hb hc => by
    rw [mul_comm_c (il_mul ha hb) hc hm, coef_mul hm (il_mul ha hb) hc]
    refine sum_congr fun v hv => ?_
    have hmv := subM_len hm (hc v hv)
    rw [mul_comm_c ha hb hmv, coef_mul hmv ha hb, ← sum_mulZ]
    exact sum_congr fun u _ => by grind
  rw [e hb hc, e hc hb, sum_swap]
  refine sum_congr fun u _ => sum_congr fun v _ => ?_
  rw [subM_swap]
  grind
/-- what is the same in the second factor -/
theorem mul_same {n : Nat} {f : Int} {a b c : IT} {k j : Int} (ha : IL n a) (hb : IL n b) (hc : IL n c) (h : ∀ m, m.length = n → f ∣ coefI b m * k - coefI c m * j) {m : List Int} (hm : m.length = n) : f ∣ coefI (mulI a b) m * k - coefI (mulI a c) m * j := by
  rw [coef_mul hm hb ha, coef_mul hm hc ha]
  have e : (a.map fun t => t.1 * coefI b (subM m t.2)).sum * k - (a.map fun t => t.1 * coefI c (subM m t.2)).sum * j = (a.map fun t => t.1 * (coefI b (subM m t.2) * k - coefI c (subM m t.2) * j)).sum := by
    rw [Int.mul_comm _ k, Int.mul_comm _ j, ← sum_mulZ, ← sum_mulZ]
    have : ∀ l : List (Int × List Int), (l.map fun t => k * (t.1 * coefI b (subM m t.2))).sum - (l.map fun t => j * (t.1 * coefI c (subM m t.2))).sum = (l.map fun t => t.1 * (coefI b (subM m t.2) * k - coefI c (subM m t.2) * j)).sum := by
      intro l
      induction l with
      | nil => rfl
      | cons t l ih =>
        simp only [List.map_cons, List.sum_cons]
        rw [← ih]
        grind
    exact this a
  rw [e]
  have : ∀ l : List (Int × List Int), (∀ t ∈ l, t.2.length = n) → f ∣ (l.map fun t => t.1 * (coefI b (subM m t.2) * k - coefI c (subM m t.2) * j)).sum := by
    intro l
    induction l with
    | nil => intro _; exact Int.dvd_zero _
    | cons t l ih =>
      intro hl
      simp only [List.map_cons, List.sum_cons]
      exact Int.dvd_add (Int.dvd_trans (h _ (subM_len hm (hl t List.mem_cons_self))) (Int.dvd_mul_left _ _)) (ih fun u hu => hl u (List.mem_cons_of_mem _ hu))
  exact this a ha
/-! derivatives -/
def atM (m : List Int) (i : Nat) : Int := m.getD i 0
def movM (m : List Int) (i : Nat) (by_ : Int) : List Int := m.set i (atM m i + by_)
theorem movM_len (m : List Int) (i : Nat) (k : Int) : (movM m i k).length = m.length := List.length_set
theorem atM_mov {m : List Int} {i : Nat} (h : i < m.length) (k : Int) : atM (movM m i k) i = atM m i + k := by
  unfold movM atM
  rw [List.getD_eq_getElem?_getD, List.getElem?_set_self h]; rfl
theorem atM_mov_ne {m : List Int} {i j : Nat} (h : i ≠ j) (k : Int) : atM (movM m i k) j = atM m j := by
  unfold movM atM
  rw [List.getD_eq_getElem?_getD, List.getElem?_set_ne h, List.getD_eq_getElem?_getD]
theorem mov_mov {m : List Int} {i : Nat} (h : i < m.length) (k j : Int) (e : k + j = 0) : movM (movM m i k) i j = m := by
  unfold movM
  rw [List.set_set]
  have : atM (m.set i (atM m i + k)) i = atM m i + k := atM_mov h k
  rw [this]
  have e2 : atM m i + k + j = atM m i := by omega
  rw [e2]
  unfold atM
  rw [List.getD_eq_getElem?_getD, List.getElem?_eq_getElem h]
  simp
theorem mov_eq {t m : List Int} {i : Nat} (ht : i < t.length) (hm : i < m.length) : movM t i (-1) = m ↔ t = movM m i 1 := by
  constructor
  · rintro rfl
    exact (mov_mov ht (-1) 1 (by omega)).symm
  · rintro rfl
    exact mov_mov hm 1 (-1) (by omega)
def derI (i : Nat) (l : IT) : IT := l.map fun t => (t.1 * atM t.2 i, movM t.2 i (-1))
theorem il_der {n i : Nat} {l : IT} (h : IL n l) : IL n (derI i l) := fun t ht => by
  obtain ⟨u, hu, rfl⟩ := List.mem_map.mp ht
  rw [movM_len]; exact h u hu
theorem coef_der {n i : Nat} (hi : i < n) {m : List Int} (hm : m.length = n) : ∀ {l : IT}, IL n l → coefI (derI i l) m = (atM m i + 1) * coefI l (movM m i 1)
  | [], _ => by show (0 : Int) = _ * 0; omega
  | t :: l, h => by
    have ih := coef_der hi hm (l := l) fun v hv => h v (List.mem_cons_of_mem _ hv)
    show coefI ((t.1 * atM t.2 i, movM t.2 i (-1)) :: derI i l) m = _
    rw [coefI_cons, coefI_cons, ih]
    have ht := h t List.mem_cons_self
    have e := mov_eq (t := t.2) (m := m) (i := i) (by omega) (by omega)
    by_cases c : t.2 = movM m i 1
    · rw [if_pos c, if_pos (e.2 c)]
      have : atM t.2 i = atM m i + 1 := by rw [c]; exact atM_mov (by omega) 1
      rw [this]; grind
    · rw [if_neg c, if_neg (fun z => c (e.1 z))]; grind
theorem mov_add : ∀ {a b : List Int} {i : Nat} {k : Int}, a.length = b.length → movM (addM a b) i k = addM (movM a i k) b
  | [], [], _, _, _ => rfl
  | [], _ :: _, _, _, h => by simp at h
  | _ :: _, [], _, _, h => by simp at h
  | x :: a, y :: b, 0, k, _ => by
    show (x + y + k) :: addM a b = (x + k + y) :: addM a b
    congr 1; omega
  | x :: a, y :: b, i + 1, k, h => by
    have ih := mov_add (a := a) (b := b) (i := i) (k := k) (by simpa using h)
    show (x + y) :: movM (addM a b) i k = (x + y) :: addM (movM a i k) b
    rw [ih]
theorem at_add : ∀ {a b : List Int} {i : Nat}, a.length = b.length → atM (addM a b) i = atM a i + atM b i
  | [], [], _, _ => rfl
  | [], _ :: _, _, h => by simp at h
  | _ :: _, [], _, h => by simp at h
  | x :: a, y :: b, 0, _ => rfl
  | x :: a, y :: b, i + 1, h => at_add (a := a) (b := b) (i := i) (by simpa using h)
theorem der_app (i : Nat) (a b : IT) : derI i (a ++ b) = derI i a ++ derI i b := List.map_append
/-- the rule of products -/
theorem der_mul {n i : Nat} {b : IT} (hb : IL n b) (m : List Int) : ∀ {a : IT}, IL n a → coefI (derI i (mulI a b)) m = coefI (mulI (derI i a) b) m + coefI (mulI a (derI i b)) m
  | [], _ => rfl
  | t :: a, ha => by
    have ih := der_mul (i := i) hb m (a := a) fun v hv => ha v (List.mem_cons_of_mem _ hv)
    have one : ∀ {b : IT}, IL n b → coefI (derI i (mulT1 t b)) m = coefI (mulT1 (t.1 * atM t.2 i, movM t.2 i (-1)) b) m + coefI (mulT1 t (derI i b)) m := by
      intro b
      induction b with
      | nil => intro _; rfl
      | cons u b ih =>
        intro hb
        have ih := ih fun v hv => hb v (List.mem_cons_of_mem _ hv)
        have hl : t.2.length = u.2.length := by rw [ha t List.mem_cons_self, hb u List.mem_cons_self]
        show coefI ((t.1 * u.1 * atM (addM t.2 u.2) i, movM (addM t.2 u.2) i (-1)) :: derI i (mulT1 t b)) m = coefI ((t.1 * atM t.2 i * u.1, addM (movM t.2 i (-1)) u.2) :: mulT1 (t.1 * atM t.2 i, movM t.2 i (-1)) b) m + coefI ((t.1 * (u.1 * atM u.2 i), addM t.2 (movM u.2 i (-1))) :: mulT1 t (derI i b)) m
        rw [coefI_cons, coefI_cons, coefI_cons, ih, at_add hl, mov_add hl]
        have e2 : addM t.2 (movM u.2 i (-1)) = addM (movM t.2 i (-1)) u.2 := by
          rw [addM_comm, ← mov_add hl.symm, addM_comm, mov_add hl]
        rw [e2]
        by_cases c : addM (movM t.2 i (-1)) u.2 = m
        · rw [if_pos c, if_pos c, if_pos c]; grind
        · rw [if_neg c, if_neg c, if_neg c]; omega
    show coefI (derI i (mulT1 t b ++ mulI a b)) m = coefI (mulT1 (t.1 * atM t.2 i, movM t.2 i (-1)) b ++ mulI (derI i a) b) m + coefI (mulT1 t (derI i b) ++ mulI a (derI i b)) m
    rw [der_app, coefI_app, coefI_app, coefI_app, ih, one hb]
    omega
theorem der_der {n i j : Nat} (hi : i < n) (hj : j < n) {l : IT} (h : IL n l) {m : List Int} (hm : m.length = n) : coefI (derI i (derI j l)) m = coefI (derI j (derI i l)) m := by
  rw [coef_der hi hm (il_der h), coef_der hj (by rw [movM_len]; exact hm) h, coef_der hj hm (il_der h), coef_der hi (by rw [movM_len]; exact hm) h]
  by_cases c : i = j
  · subst c; rfl
  · have e : movM (movM m i 1) j 1 = movM (movM m j 1) i 1 := by
      unfold movM
      have h1 : atM (m.set i (atM m i + 1)) j = atM m j := atM_mov_ne c 1
      have h2 : atM (m.set j (atM m j + 1)) i = atM m i := atM_mov_ne (fun z => c z.symm) 1
      rw [h1, h2, List.set_comm _ _ c]
    rw [e, atM_mov_ne c, atM_mov_ne (fun z => c z.symm)]
    grind
/-! powers -/
def oneI (n : Nat) : IT := [(1, List.replicate n 0)]
def powI (n : Nat) (l : IT) : Nat → IT
  | 0 => oneI n
  | k + 1 => mulI (powI n l k) l
theorem il_pow {n : Nat} {l : IT} (h : IL n l) : ∀ k, IL n (powI n l k)
  | 0 => fun t ht => by
    rw [powI, oneI, List.mem_singleton] at ht
    rw [ht, List.length_replicate]
  | k + 1 => il_mul (il_pow h k) h
theorem der_pow {n i : Nat} (hi : i < n) {l : IT} (h : IL n l) : ∀ (k : Nat) {m : List Int}, m.length = n → coefI (derI i (powI n l (k + 1))) m = (k + 1 : Int) * coefI (mulI (powI n l k) (derI i l)) m
  | 0, m, hm => by
    show coefI (derI i (mulI (oneI n) l)) m = _
    rw [der_mul (a := oneI n) h m (il_pow h 0)]
    have e : coefI (mulI (derI i (oneI n)) l) m = 0 := by
      rw [coef_mul (a := derI i (oneI n)) hm h (il_der (l := oneI n) (il_pow h 0))]
      have ea : atM (List.replicate n 0) i = 0 := by
        unfold atM
        rw [List.getD_eq_getElem?_getD, List.getElem?_replicate, if_pos hi]; rfl
      show ((1 * atM (List.replicate n 0) i) * _ + 0 : Int) = 0
      rw [ea]; omega
    rw [e]
    show 0 + coefI (mulI (oneI n) (derI i l)) m = (0 + 1 : Int) * coefI (mulI (oneI n) (derI i l)) m
    omega
  | k + 1, m, hm => by
    show coefI (derI i (mulI (powI n l (k + 1)) l)) m = _
    have hp := il_pow h (k + 1)
    have hpk := il_pow h k
    rw [der_mul h m hp]
    have e : coefI (mulI (derI i (powI n l (k + 1))) l) m = (k + 1 : Int) * coefI (mulI (powI n l (k + 1)) (derI i l)) m := by
      rw [mul_comm_c (il_der hp) h hm, coef_mul hm (il_der hp) h]
      have e1 : ∀ t ∈ l, t.1 * coefI (derI i (powI n l (k + 1))) (subM m t.2) = (k + 1 : Int) * (t.1 * coefI (mulI (powI n l k) (derI i l)) (subM m t.2)) := fun t ht => by
        rw [der_pow hi h k (subM_len hm (h t ht))]
        grind
      rw [sum_congr e1, sum_mulZ, ← coef_mul hm (il_mul hpk (il_der h)) h, ← mul_comm_c (il_mul hpk (il_der h)) h hm]
      rw [mul_swap_c hpk (il_der h) h hm]
      rfl
    rw [e]
    have : ((k + 1 : Nat) : Int) = (k : Int) + 1 := by omega
    rw [this]
    grind

/-! ### polynomials in their only form, and the integer terms they stand for -/
structure Can (f : Int) (n : Nat) (o : Ord) (P : List Tm) : Prop where
  ok : ∀ u ∈ P, TermOk f n u ∧ u.1.1 ≠ 0
  nd : (P.map (·.2)).Nodup
  pr : P.Pairwise fun a b => codeN n o b.2 ≤ codeN n o a.2
theorem can_sort {f : Int} {n : Nat} {o : Ord} {l : List Tm} (hok : ∀ u ∈ l, TermOk f n u ∧ u.1.1 ≠ 0) (hd : (l.map (·.2)).Nodup) : Can f n o (sortT n o l) :=
  ⟨fun u hu => hok u ((sortT_perm n o l).mem_iff.mp hu), ((sortT_perm n o l).map (·.2)).nodup_iff.mpr hd, sortT_pair n o l⟩
theorem Can.same {f : Int} {n : Nat} {o : Ord} {P : List Tm} (h : Can f n o P) (h1 : 1 ≤ n) (h4 : n ≤ 4) (ho : OrdOk n o) : sortT n o P = P := by
  refine perm_pair_eq (fun u : Tm => codeN n o u.2) (sortT_perm n o P) (sortT_pair n o P) h.pr fun x hx y hy e => ?_
  have hx' := (sortT_perm n o P).mem_iff.mp hx
  have hy' := (sortT_perm n o P).mem_iff.mp hy
  have e2 := code_inj (h.ok x hx').1.2 (h.ok y hy').1.2 h1 h4 ho e
  have := getM_mem (al := P.map swT) (by rw [List.map_map]; exact h.nd) (e := swT x) (List.mem_map_of_mem hx')
  have t := getM_mem (al := P.map swT) (by rw [List.map_map]; exact h.nd) (e := swT y) (List.mem_map_of_mem hy')
  have : some x.1 = some y.1 := by rw [← (show getM (P.map swT) x.2 = some x.1 from this), ← (show getM (P.map swT) y.2 = some y.1 from t), e2]
  exact Prod.ext (Option.some.inj this) e2
theorem Can.poly {f : Int} {n : Nat} {o : Ord} {P : List Tm} (h : Can f n o P) (h1 : 1 ≤ n) (h4 : n ≤ 4) (ho : OrdOk n o) (hl : P.length ≤ 500) : PolyOk f n (rowsL n o) P := by
  rw [← h.same h1 h4 ho]
  exact poly_ok h1 h4 ho hl h.ok h.nd
abbrev lk (P : List Tm) (m : List Int) : Int × Int := lookA (P.map swT) m
theorem lk_mem {P : List Tm} (h : (P.map (·.2)).Nodup) {u : Tm} (hu : u ∈ P) : lk P u.2 = u.1 := by
  have := getM_mem (al := P.map swT) (by rw [List.map_map]; exact h) (e := swT u) (List.mem_map_of_mem hu)
  unfold lk lookA
  rw [show getM (P.map swT) u.2 = some u.1 from this]
  rfl
theorem lk_none {P : List Tm} {m : List Int} (h : ∀ u ∈ P, u.2 ≠ m) : lk P m = (0, 1) := by
  unfold lk lookA
  cases e : getM (P.map swT) m with
  | none => rfl
  | some x =>
    obtain ⟨u, hu, q⟩ := List.mem_map.mp (mem_getM e)
    unfold swT at q
    exact absurd (Prod.mk.inj q).1 (h u hu)
theorem lk_cases {P : List Tm} (h : (P.map (·.2)).Nodup) (m : List Int) : (∃ u ∈ P, u.2 = m ∧ lk P m = u.1) ∨ ((∀ u ∈ P, u.2 ≠ m) ∧ lk P m = (0, 1)) := by
  by_cases c : ∃ u ∈ P, u.2 = m
  · obtain ⟨u, hu, rfl⟩ := c
    exact .inl ⟨u, hu, rfl, lk_mem h hu⟩
  · have : ∀ u ∈ P, u.2 ≠ m := fun u hu z => c ⟨u, hu, z⟩
    exact .inr ⟨this, lk_none this⟩
theorem nd_map {α β : Type} {g : α → β} {l : List α} (h : (l.map g).Nodup) : l.Nodup := (List.pairwise_map.mp h).imp fun h z => h (by rw [z])
theorem can_uniq {f : Int} {n : Nat} {o : Ord} {P Q : List Tm} (h1 : 1 ≤ n) (h4 : n ≤ 4) (ho : OrdOk n o) (hP : Can f n o P) (hQ : Can f n o Q) (h : ∀ m, m.length = n → lk P m = lk Q m) : P = Q := by
  have one : ∀ {P Q : List Tm}, Can f n o P → Can f n o Q → (∀ m, m.length = n → lk P m = lk Q m) → ∀ u ∈ P, u ∈ Q := fun {P Q} hP hQ h u hu => by
    have e := h u.2 (hP.ok u hu).1.2.1.1
    rw [lk_mem hP.nd hu] at e
    rcases lk_cases hQ.nd u.2 with ⟨v, hv, a, b⟩ | ⟨_, b⟩
    · have : u = v := Prod.ext (by rw [e, b]) a.symm
      rw [this]; exact hv
    · rw [b] at e
      exact absurd (by rw [e]) (hP.ok u hu).2
  have ndP : P.Nodup := nd_map hP.nd
  have ndQ : Q.Nodup := nd_map hQ.nd
  have pm : P.Perm Q := (List.perm_ext_iff_of_nodup ndP ndQ).2 fun u => ⟨one hP hQ h u, one hQ hP (fun m hm => (h m hm).symm) u⟩
  rw [← hP.same h1 h4 ho, ← hQ.same h1 h4 ho]
  exact sort_same h1 h4 ho pm (fun u hu => (hP.ok u hu).1.2) hP.nd
theorem numN_lk {f : Int} (hF : IsF f) {n : Nat} {P : List Tm} (hd : (P.map (·.2)).Nodup) (h : ∀ u ∈ P, NumN f u.1) (m : List Int) : NumN f (lk P m) := by
  rcases lk_cases hd m with ⟨u, hu, _, b⟩ | ⟨_, b⟩
  · rw [b]; exact h u hu
  · rw [b]; exact numN_zero hF
/-- P is l / B -/
def Rep (f : Int) (n : Nat) (B : Int) (P : List Tm) (l : IT) : Prop := IL n l ∧ ∀ m, m.length = n → NIs f (lk P m) (coefI l m) B
theorem rep_uniq {f : Int} (hF : IsF f) {n : Nat} {o : Ord} {P Q : List Tm} {l k : IT} {B C : Int} (h1 : 1 ≤ n) (h4 : n ≤ 4) (ho : OrdOk n o) (hP : Can f n o P) (hQ : Can f n o Q) (hB : 0 < B) (hC : 0 < C) (hf : f ≠ 0 → B = 1 ∧ C = 1)
    (rP : Rep f n B P l) (rQ : Rep f n C Q k) (h : ∀ m, m.length = n → f ∣ coefI l m * C - coefI k m * B) : P = Q :=
  can_uniq h1 h4 ho hP hQ fun m hm => nis_uniq (numN_lk (n := n) hF hP.nd (fun u hu => (hP.ok u hu).1.1.n) m) (numN_lk (n := n) hF hQ.nd (fun u hu => (hQ.ok u hu).1.1.n) m) hB hC hf (rP.2 m hm) (rQ.2 m hm) (h m hm)
theorem rep_dvd {f : Int} {n : Nat} {P : List Tm} {l k : IT} {B : Int} (r : Rep f n B P l) (hk : IL n k) (h : ∀ m, m.length = n → f ∣ coefI l m - coefI k m) : Rep f n B P k :=
  ⟨hk, fun m hm => nis_dvd (r.2 m hm) (h m hm)⟩
/-- the denominators divide B -/
theorem nis_den {f : Int} {x : Int × Int} {c B : Int} (hx : NumN f x) (h : NIs f x c B) : x.2 ∣ B := by
  rcases hx with ⟨rfl, x1, x2⟩ | ⟨_, _, _, x3⟩
  · unfold NIs at h
    have e := Int.zero_dvd.mp h
    have h2 : x.2 ∣ x.1 * B := ⟨c, by grind⟩
    have cop : Nat.Coprime x.2.natAbs x.1.natAbs := by
      show Nat.gcd _ _ = 1
      rw [Nat.gcd_comm]; exact x2
    have h3 : x.2.natAbs ∣ x.1.natAbs * B.natAbs := by
      rw [← Int.natAbs_mul]
      exact Int.natAbs_dvd_natAbs.mpr h2
    exact Int.natAbs_dvd_natAbs.mp (cop.dvd_of_dvd_mul_left h3)
  · rw [x3]
    exact Int.one_dvd B
/-- a polynomial's own integer terms -/
def ownI (B : Int) (P : List Tm) : IT := P.map fun t => (t.1.1 * (B / t.1.2), t.2)
theorem il_own {f : Int} {n : Nat} {B : Int} {P : List Tm} (h : ∀ u ∈ P, TermOk f n u) : IL n (ownI B P) := fun t ht => by
  obtain ⟨u, hu, rfl⟩ := List.mem_map.mp ht
  exact (h u hu).2.1.1
theorem nis_own {f : Int} {x : Int × Int} {B : Int} (hd : x.2 ∣ B) (h0 : x.2 ≠ 0) : NIs f x (x.1 * (B / x.2)) B := by
  unfold NIs
  obtain ⟨k, rfl⟩ := hd
  rw [Int.mul_ediv_cancel_left _ h0]
  have : x.1 * (x.2 * k) - x.1 * k * x.2 = 0 := by grind
  rw [this]
  exact Int.dvd_zero f
theorem NumN.pos {f : Int} {x : Int × Int} (h : NumN f x) : 0 < x.2 := by
  rcases h with ⟨_, h, _⟩ | ⟨_, _, _, h⟩ <;> omega
theorem t2_own {f : Int} {B : Int} : ∀ {P : List Tm}, (∀ u ∈ P, NumN f u.1 ∧ u.1.2 ∣ B) → T2 f B P (ownI B P)
  | [], _ => .nil
  | u :: P, h => .cons ⟨rfl, (h u List.mem_cons_self).1, nis_own (h u List.mem_cons_self).2 (by have := (h u List.mem_cons_self).1.pos; omega)⟩ (t2_own fun v hv => h v (List.mem_cons_of_mem _ hv))
theorem coef_own {B : Int} : ∀ {P : List Tm}, (P.map (·.2)).Nodup → ∀ m, coefI (ownI B P) m = (lk P m).1 * (B / (lk P m).2)
  | [], _, m => by
    show (0 : Int) = 0 * _
    omega
  | u :: P, h, m => by
    have hd : (P.map (·.2)).Nodup := (List.nodup_cons.mp h).2
    have ih := coef_own (B := B) hd m
    show coefI ((u.1.1 * (B / u.1.2), u.2) :: ownI B P) m = _
    rw [coefI_cons, ih]
    by_cases c : u.2 = m
    · rw [if_pos c]
      have e1 : lk (u :: P) m = u.1 := by rw [← c]; exact lk_mem h List.mem_cons_self
      have e2 : lk P m = (0, 1) := lk_none fun v hv z => (List.nodup_cons.mp h).1 (by show u.2 ∈ _; rw [c, ← z]; exact List.mem_map_of_mem (f := fun x : Tm => x.2) hv)
      rw [e1, e2]
      show _ + 0 * _ = _
      omega
    · rw [if_neg c]
      have e1 : lk (u :: P) m = lk P m := by
        unfold lk lookA
        rw [List.map_cons]
        show (if u.2 = m then _ else _ : Option (Int × Int)).getD _ = _
        rw [if_neg c]
      rw [e1]
      omega
/-- what a polynomial stands for is what its own terms say -/
theorem rep_own {f : Int} {n : Nat} {o : Ord} (hF : IsF f) {P : List Tm} {l : IT} {B : Int} (hP : Can f n o P) (r : Rep f n B P l) (hB : f ≠ 0 → B = 1) : (∀ u ∈ P, u.1.2 ∣ B) ∧ ∀ m, m.length = n → f ∣ coefI (ownI B P) m - coefI l m := by
  refine ⟨fun u hu => ?_, fun m hm => ?_⟩
  · have := r.2 u.2 (hP.ok u hu).1.2.1.1
    rw [lk_mem hP.nd hu] at this
    exact nis_den (hP.ok u hu).1.1.n this
  · have hn := numN_lk (n := n) hF hP.nd (fun u hu => (hP.ok u hu).1.1.n) m
    have := r.2 m hm
    rw [coef_own hP.nd]
    obtain ⟨k, hk⟩ := nis_den hn this
    unfold NIs at this
    have p := hn.pos
    rcases hn with ⟨rfl, _, _⟩ | ⟨hf, _, _, x3⟩
    · have e := Int.zero_dvd.mp this
      refine Int.zero_dvd.mpr ?_
      rw [hk, Int.mul_ediv_cancel_left _ (by omega)]
      rw [hk] at e
      have : ((lk P m).1 * k - coefI l m) * (lk P m).2 = 0 := by grind
      rcases Int.mul_eq_zero.mp this with h | h
      · exact h
      · omega
    · have b1 := hB hf
      rw [x3, b1] at this
      rw [x3, b1]
      simpa using this
theorem own_rep {f : Int} {n : Nat} {o : Ord} {P : List Tm} {B : Int} (hP : Can f n o P) (hd : ∀ u ∈ P, u.1.2 ∣ B) : Rep f n B P (ownI B P) := by
  refine ⟨il_own fun u hu => (hP.ok u hu).1, fun m hm => ?_⟩
  rw [coef_own hP.nd]
  rcases lk_cases hP.nd m with ⟨u, hu, _, b⟩ | ⟨_, b⟩
  · rw [b]; exact nis_own (hd u hu) (by have := (hP.ok u hu).1.1.n.pos; omega)
  · rw [b]; exact nis_own (Int.one_dvd _) (by decide)

/-! ### sums of integer terms: what they need, what they give -/
def bd (l : IT) : Nat := (l.map fun t => t.1.natAbs).sum
theorem bd_cons (t : Int × List Int) (l : IT) : bd (t :: l) = t.1.natAbs + bd l := rfl
theorem bd_app (a b : IT) : bd (a ++ b) = bd a + bd b := by
  unfold bd
  rw [List.map_append, List.sum_append]
theorem coef_bd : ∀ (l : IT) (m : List Int), (coefI l m).natAbs ≤ bd l
  | [], _ => Nat.le_refl _
  | t :: l, m => by
    have := coef_bd l m
    rw [coefI_cons, bd_cons]
    split <;> omega
theorem bd_take : ∀ (l : IT) (k : Nat), bd (l.take k) ≤ bd l
  | [], k => by rw [List.take_nil]; exact Nat.le_refl _
  | t :: l, 0 => Nat.zero_le _
  | t :: l, k + 1 => by
    have := bd_take l k
    rw [List.take_succ_cons, bd_cons, bd_cons]
    omega
theorem bd_mulT1 (t : Int × List Int) : ∀ (b : IT), bd (mulT1 t b) = t.1.natAbs * bd b
  | [] => rfl
  | u :: b => by
    have := bd_mulT1 t b
    show bd ((t.1 * u.1, addM t.2 u.2) :: mulT1 t b) = _
    rw [bd_cons, bd_cons, this, Int.natAbs_mul, Nat.mul_add]
theorem bd_mul (b : IT) : ∀ (a : IT), bd (mulI a b) = bd a * bd b
  | [] => by show 0 = 0 * _; omega
  | t :: a => by rw [mulI_cons, bd_app, bd_mulT1, bd_mul b a, bd_cons, Nat.add_mul]
theorem numOk_of {f : Int} {x : Int × Int} {c B : Int} (hx : NumN f x) (h : NIs f x c B) (hB : 0 < B) (h1 : c.natAbs < NBn) (h2 : B.natAbs < NBn) : NumOk f x := by
  have hd := nis_den hx h
  have hp := hx.pos
  rcases hx with ⟨rfl, x1, x2⟩ | ⟨hf, x1, x2, x3⟩
  · refine numOk_q.2 ⟨?_, x1, ?_, x2⟩
    · obtain ⟨k, rfl⟩ := hd
      have e := Int.zero_dvd.mp h
      have e2 : (x.1 * k - c) * x.2 = 0 := by grind
      have e3 : x.1 * k = c := by
        rcases Int.mul_eq_zero.mp e2 with h | h
        · omega
        · omega
      have k0 : k ≠ 0 := fun z => by rw [z] at hB; omega
      have : x.1.natAbs ≤ c.natAbs := by
        rw [← e3, Int.natAbs_mul]
        exact Nat.le_mul_of_pos_right _ (by omega)
      omega
    · have := Int.natAbs_dvd_natAbs.mpr hd
      have := Nat.le_of_dvd (by omega) this
      omega
  · exact (numOk_m hf).2 ⟨x1, x2, x3⟩
theorem t2_take {f B : Int} : ∀ {ts : List Tm} {l : IT} (k : Nat), T2 f B ts l → T2 f B (ts.take k) (l.take k)
  | [], [], k, _ => by rw [List.take_nil, List.take_nil]; exact .nil
  | [], _ :: _, _, h => by cases h
  | _ :: _, [], _, h => by cases h
  | t :: ts, e :: l, 0, _ => .nil
  | t :: ts, e :: l, k + 1, h => by
    cases h with
    | cons a b => exact .cons a (t2_take k b)
theorem t2_len {f B : Int} {ts : List Tm} {l : IT} (h : T2 f B ts l) : ts.length = l.length := Paired.length h
theorem look_of {al : Al2} (hn : (al.map (·.1)).Nodup) {e : List Int × (Int × Int)} (h : e ∈ al) : lookA al e.1 = e.2 := by
  unfold lookA
  rw [getM_mem hn h]
  rfl
theorem sumOk_t2 {f : Int} (hF : IsF f) {B : Int} (hB : f ≠ 0 → B = 1) (hp : 0 < B) (hb : B.natAbs < NBn) {ts : List Tm} {l : IT} (h : T2 f B ts l) (hl : bd l < NBn) : SumOk f ts := fun k e he => by
  have nd : (((ts.take k).foldl (addT f) []).map (·.1)).Nodup := sum_nodup f (ts.take k)
  obtain ⟨a, b⟩ := sum_is hF hB (t2_take k h) e.1
  rw [show lookA (sumL f (ts.take k)) e.1 = e.2 from look_of nd he] at a b
  exact numOk_of a b hp (Nat.lt_of_le_of_lt (coef_bd _ _) (Nat.lt_of_le_of_lt (bd_take l k) hl)) hb
theorem numOk_zero {f : Int} {x : Int × Int} (h : NumOk f x) (z : x.1 = 0) : x = (0, 1) := by
  by_cases hf : f = 0
  · subst hf
    obtain ⟨_, h1, _, h2⟩ := numOk_q.1 h
    rw [z] at h2
    have : Nat.gcd (Int.natAbs 0) x.2.natAbs = x.2.natAbs := Nat.gcd_zero_left _
    rw [this] at h2
    exact Prod.ext z (by show x.2 = 1; omega)
  · obtain ⟨_, _, h3⟩ := (numOk_m hf).1 h
    exact Prod.ext z h3
theorem lk_perm {P Q : List Tm} (h : P.Perm Q) (hd : (P.map (·.2)).Nodup) (m : List Int) : lk P m = lk Q m := by
  have hq : (Q.map (·.2)).Nodup := (h.map (·.2)).nodup_iff.mp hd
  rcases lk_cases hd m with ⟨u, hu, a, b⟩ | ⟨a, b⟩
  · rw [b, ← a, lk_mem hq (h.mem_iff.mp hu)]
  · rw [b, lk_none fun u hu => a u (h.mem_iff.mpr hu)]
theorem lk_keep {f : Int} {al : Al2} (hn : (al.map (·.1)).Nodup) (hk : ∀ e ∈ al, NumOk f e.2) (m : List Int) : lk (keepOf al) m = lookA al m := by
  rcases lk_cases (keep_nodup hn) m with ⟨u, hu, a, b⟩ | ⟨a, b⟩
  · rw [b, ← a]
    unfold lookA
    rw [keep_get hn hu]
    rfl
  · rw [b]
    unfold lookA
    cases e : getM al m with
    | none => rfl
    | some x =>
      have hm := mem_getM e
      by_cases z : x.1 = 0
      · have : x = (0, 1) := numOk_zero (hk _ hm) z
        rw [this]; rfl
      · refine absurd rfl (a (x, m) ?_)
        unfold keepOf
        exact List.mem_map.mpr ⟨(m, x), List.mem_filter.mpr ⟨hm, decide_eq_true z⟩, rfl⟩
theorem keepOf_len (al : Al2) : (keepOf al).length ≤ al.length := by
  unfold keepOf
  rw [List.length_map]
  exact List.length_filter_le _ _
/-- a sum of terms -/
theorem rep_sum {f : Int} (hF : IsF f) {n : Nat} {o : Ord} (h1 : 1 ≤ n) (h4 : n ≤ 4) (ho : OrdOk n o) {B : Int} (hB : f ≠ 0 → B = 1) (hp : 0 < B) (hb : B.natAbs < NBn) {ts : List Tm} {l : IT} (h : T2 f B ts l) (hl : bd l < NBn) (hm : ∀ u ∈ ts, Mon n u.2) :
    SumOk f ts ∧ Can f n o (polyL f n (rowsL n o) ts) ∧ Rep f n B (polyL f n (rowsL n o) ts) l ∧ (polyL f n (rowsL n o) ts).length ≤ ts.length := by
  have sk := sumOk_t2 hF hB hp hb h hl
  have sk' : ∀ e ∈ sumL f ts, NumOk f e.2 := fun e he => by
    have := sk ts.length e
    rw [List.take_length] at this
    exact this he
  have nd := sum_nodup f ts
  have key := sum_key (f := f) (p := fun m => Mon n m) hm
  have can : Can f n o (polyL f n (rowsL n o) ts) := can_sort (kept_ok fun e he => ⟨key e he, sk' e he⟩) (keep_nodup nd)
  refine ⟨sk, can, ⟨?_, fun m hmn => ?_⟩, ?_⟩
  · have : ∀ {ts : List Tm} {l : IT}, T2 f B ts l → (∀ u ∈ ts, Mon n u.2) → IL n l := fun {ts l} h => by
      induction h with
      | nil => intro _ t ht; cases ht
      | cons a b ih =>
        intro hm t ht
        rcases List.mem_cons.mp ht with rfl | ht
        · rw [← a.1]; exact (hm _ List.mem_cons_self).1.1
        · exact ih (fun u hu => hm u (List.mem_cons_of_mem _ hu)) t ht
    exact this h hm
  · have e : lk (polyL f n (rowsL n o) ts) m = lookA (sumL f ts) m := by
      rw [lk_perm (poly_perm f n (rowsL n o) ts) can.nd m]
      exact lk_keep nd sk' m
    rw [e]
    exact (sum_is hF hB h m).2
  · rw [(poly_perm f n (rowsL n o) ts).length_eq]
    exact Nat.le_trans (keepOf_len _) (sum_len f ts)
/-! numbers -/
theorem powM_one {f : Int} (hf : 2 ≤ f) : ∀ k, powM 1 f k = 1
  | 0 => rfl
  | k + 1 => by
    show powM 1 f k * 1 % f = 1
    rw [powM_one hf k]
    exact Int.emod_eq_of_lt (by omega) (by omega)
theorem mkN_n {f : Int} (hF : IsF f) {c D : Int} (hD : D ≠ 0) : NumN f (mkN f c D) := by
  unfold mkN
  by_cases hf : f = 0
  · rw [if_pos hf]
    obtain ⟨a1, a2, _⟩ := low_spec c hD
    exact .inl ⟨hf, a1, a2⟩
  · have := hF.pos hf
    rw [if_neg hf]
    exact .inr ⟨hf, Int.emod_nonneg _ (by omega), Int.emod_lt_of_pos _ (by omega), rfl⟩
theorem mkN_is {f : Int} (hF : IsF f) {c D : Int} (hD : D ≠ 0) (h1 : f ≠ 0 → D = 1) : NIs f (mkN f c D) c D := by
  unfold mkN NIs
  by_cases hf : f = 0
  · rw [if_pos hf]
    obtain ⟨_, _, a3, _⟩ := low_spec c hD
    subst hf
    refine Int.zero_dvd.mpr ?_
    omega
  · have hp := hF.pos hf
    rw [if_neg hf, h1 hf]
    have e : invP (1 % f) f = 1 := by
      unfold invP
      rw [Int.emod_eq_of_lt (by omega) (by omega)]
      exact powM_one hp _
    rw [e]
    show f ∣ c * 1 % f * 1 - c * 1
    have := Int.emod_add_mul_ediv (c * 1) f
    exact ⟨-(c * 1 / f), by grind⟩
theorem mulN_n {f : Int} (hF : IsF f) {x y : Int × Int} (hx : NumN f x) (hy : NumN f y) : NumN f (mulN f x y) := by
  unfold mulN
  by_cases hf : f = 0
  · rw [if_pos hf]
    obtain ⟨a1, a2, _⟩ := low_spec (x.1 * y.1) (d := x.2 * y.2) (Int.mul_ne_zero (by have := hx.pos; omega) (by have := hy.pos; omega))
    exact .inl ⟨hf, a1, a2⟩
  · have := hF.pos hf
    rw [if_neg hf]
    exact .inr ⟨hf, Int.emod_nonneg _ (by omega), Int.emod_lt_of_pos _ (by omega), rfl⟩
theorem mulN_is {f : Int} {x y : Int × Int} {c d B C : Int} (hx : NumN f x) (hy : NumN f y) (hB : f ≠ 0 → B = 1 ∧ C = 1) (h1 : NIs f x c B) (h2 : NIs f y d C) : NIs f (mulN f x y) (c * d) (B * C) := by
  unfold NIs at *
  unfold mulN
  by_cases hf : f = 0
  · subst hf
    rw [if_pos rfl]
    have e1 := Int.zero_dvd.mp h1
    have e2 := Int.zero_dvd.mp h2
    have hne : x.2 * y.2 ≠ 0 := Int.mul_ne_zero (by have := hx.pos; omega) (by have := hy.pos; omega)
    obtain ⟨_, _, a3, _⟩ := low_spec (x.1 * y.1) (d := x.2 * y.2) hne
    generalize lowQ (x.1 * y.1) (x.2 * y.2) = z at *
    refine Int.zero_dvd.mpr ?_
    have e : (z.1 * (B * C) - c * d * z.2) * (x.2 * y.2) = 0 := by
      have a : z.1 * (x.2 * y.2) * (B * C) = x.1 * y.1 * z.2 * (B * C) := by rw [a3]
      have b : x.1 * B = c * x.2 := by omega
      have b2 : y.1 * C = d * y.2 := by omega
      have c1 : x.1 * y.1 * z.2 * (B * C) = (x.1 * B) * (y.1 * C) * z.2 := by grind
      rw [b, b2] at c1
      grind
    rcases Int.mul_eq_zero.mp e with e | e
    · exact e
    · exact absurd e hne
  · obtain ⟨rfl, rfl⟩ := hB hf
    rw [if_neg hf]
    have x2 : x.2 = 1 := by
      rcases hx with ⟨z, _⟩ | ⟨_, _, _, q⟩
      · exact absurd z hf
      · exact q
    have y2 : y.2 = 1 := by
      rcases hy with ⟨z, _⟩ | ⟨_, _, _, q⟩
      · exact absurd z hf
      · exact q
    rw [x2] at h1
    rw [y2] at h2
    simp only [Int.mul_one] at *
    show f ∣ x.1 * y.1 % f - c * d
    have e : x.1 * y.1 % f - c * d = (x.1 - c) * y.1 + c * (y.1 - d) - f * (x.1 * y.1 / f) := by
      have := Int.emod_add_mul_ediv (x.1 * y.1) f
      grind
    rw [e]
    exact Int.dvd_sub (Int.dvd_add (Int.dvd_trans h1 (Int.dvd_mul_right _ _)) (Int.dvd_trans h2 (Int.dvd_mul_left _ _))) (Int.dvd_mul_right _ _)

/-! ### the law's own polynomials and derivatives -/
section
variable {P : Program} {w : World} {K : PySem.W.Frag} {mg : Str → Option Value} {base : Heap}
theorem RK.tq {H H' : Hp} {r sa : Addr} {ns : List Int} (h : RowAt K H r sa ns) (a : RK K r sa ns H H') : Tq H H' := fun b xs => by
  obtain ⟨ys, hr⟩ := row_lst h
  have n : ∀ {u}, H b = some u → (∀ zs, u ≠ .lst zs) → b ≠ r := fun {u} e z y => by
    subst y
    rw [hr] at e
    cases e
    exact z _ rfl
  exact ⟨fun q => a.keep _ _ (n q fun _ z => by cases z) q, fun o q => a.keep _ _ (n q fun _ z => by cases z) q⟩
theorem RgV.tp' {H H' : Hp} {v : V} {f : Int} {n : Nat} {o : Ord} (h : RgV K H v f n o) (e : Tp H H') : RgV K H' v f n o :=
  ⟨h.hf, h.h1, h.h4, h.ho, Dp.tp e _ _ (by simp [rgD, tOnly, tOnlyAll, tOnly_ord]) h.hd⟩
/-- a drawn polynomial -/
structure PolyS (f : Int) (n : Nat) (o : Ord) (k : Nat) (m : Int) (P : List Tm) : Prop where
  can : Can f n o P
  len : P.length ≤ k
  num : ∀ u ∈ P, f = 0 → u.1.1.natAbs ≤ 4 ∧ u.1.2.natAbs ≤ 3
  deg : ∀ u ∈ P, u.2.sum ≤ m
def AlS (f : Int) (n : Nat) (k : Nat) (m : Int) (al : Al2) : Prop := (al.map (·.1)).Nodup ∧ al.length ≤ k ∧ ∀ e ∈ al, MonD n m e.1 ∧ NumS f e.2
theorem als_put {f : Int} {n k : Nat} {m : Int} {al : Al2} {e : List Int} {x : Int × Int} (h : AlS f n k m al) (he : MonD n m e) (hx : NumS f x) : AlS f n (k + 1) m (putM al e x) :=
  ⟨putM_nodup h.1 e x, Nat.le_trans (putM_len al e x) (Nat.add_le_add_right h.2.1 1), fun y hy => by
    rcases mem_putM hy with hy | rfl
    · exact h.2.2 y hy
    · exact ⟨he, hx⟩⟩
theorem le_sum : ∀ {l : List Int}, (∀ e ∈ l, 0 ≤ e) → ∀ e ∈ l, e ≤ l.sum
  | [], _, e, he => by cases he
  | x :: l, h, e, he => by
    have ih := le_sum (l := l) fun y hy => h y (List.mem_cons_of_mem _ hy)
    have s0 : ∀ {l : List Int}, (∀ e ∈ l, 0 ≤ e) → 0 ≤ l.sum := fun {l} => by
      induction l with
      | nil => intro _; exact Int.le_refl _
      | cons y l ih => intro h; rw [List.sum_cons]; have := ih fun e he => h e (List.mem_cons_of_mem _ he); have := h y List.mem_cons_self; omega
    have h0 := s0 fun y hy => h y (List.mem_cons_of_mem _ hy)
    rw [List.sum_cons]
    rcases List.mem_cons.mp he with rfl | he
    · omega
    · have := ih e he
      have := h x List.mem_cons_self
      omega
theorem monD_mon {n : Nat} {m : Int} {e : List Int} (h : MonD n m e) (hm : m ≤ 60) : Mon n e :=
  ⟨⟨h.1, fun x hx => ⟨h.2.1 x hx, by have := le_sum h.2.1 x hx; have := h.2.2; omega⟩⟩, by have := h.2.2; omega⟩
theorem als_poly {f : Int} {n k : Nat} {o : Ord} {m : Int} {al : Al2} (h : AlS f n k m al) (hm : m ≤ 60) : PolyS f n o k m (sortT n o (keepOf al)) := by
  have hin : ∀ u ∈ sortT n o (keepOf al), (u.2, u.1) ∈ al := fun u hu => by
    have := (sortT_perm n o _).mem_iff.mp hu
    unfold keepOf at this
    obtain ⟨e, he, rfl⟩ := List.mem_map.mp this
    exact (List.mem_filter.mp he).1
  refine ⟨can_sort (kept_ok fun e he => ⟨monD_mon (h.2.2 e he).1 hm, (h.2.2 e he).2.1⟩) (keep_nodup h.1), ?_, fun u hu hf => (h.2.2 _ (hin u hu)).2.2 hf, fun u hu => (h.2.2 _ (hin u hu)).1.2.2⟩
  rw [(sortT_perm n o _).length_eq]
  exact Nat.le_trans (keepOf_len al) h.2.1
def sp_law_poly (K : PySem.W.Frag) : Sp := fun vs H Q _ => ∃ (r sa : Addr) (ns : List Int) (f : Int) (n : Nat) (o : Ord) (rv : V) (k : Nat) (m : Int), vs = [.ref r, rv, .int k, .int m] ∧ RgV K H rv f n o ∧ RowAt K H r sa ns ∧ k ≤ 20 ∧ 0 ≤ m ∧ m ≤ 60 ∧
  ∀ v' ps H', PolyV K H' f v' ps → PolyS f n o k m ps → RK K r sa ns H H' → Q v' H'
theorem ok_law_poly (T : Txt K mg) : FnOk P w K mg base CX0 4 T.law_poly.f T.law_poly.fd P_law_poly (sp_law_poly K) := by
  refine T.law_poly.F.ok sc_law_poly (fun vs H Q E h => ?_) (fun cdv A outer s H vs Q E hr h => ?_)
  · obtain ⟨r, sa, ns, f, n, o, rv, kk, m, rfl, _⟩ := h; rfl
  · obtain ⟨r, sa, ns, f, n, o, rv, kk, m, rfl, hv, hrow, hk, hm0, hm, k⟩ := h
    obtain ⟨ra, ov, rfl, hR, hov⟩ := ring_parts hv.hd
    refine ⟨_, (pss_cons (ps_set (i := 4) sc_law_poly.nd rfl (Or.inl rfl) pe_dnewT)
  (pss_cons (ps_for PassesOwn.never rfl (pi_range1 rfl T.n_range (pa_cons (pe_call (ok_law_taken T) (hr.mono (by decide)) rfl T.law_taken.g T.law_taken.F.kp (b_law_taken T) .nil pass0 (pa_cons (pv 0) (pa_cons (pe_op op_add (pv 2) pe_int) pa_nil))) pa_nil)) (pg_name (i := 5) sc_law_poly.nd rfl (Or.inl rfl)) (pss_one (ps_dput (Nat.lt_of_le_of_lt (Nat.add_le_add_left (show 1 ≤ 64 by decide) _) hr.units) (pv 4) (pe_call (ok_law_mono T) (hr.mono (by decide)) rfl T.law_mono.g T.law_mono.F.kp (b_law_mono T) .nil pass0 (pa_cons (pv 0) (pa_cons (pe_ix (r := rIxT K) ix_tup (pv 1) pe_int (fun _ _ => rfl)) (pa_cons (pv 3) pa_nil)))) (pe_call (ok_law_number T) (hr.mono (by decide)) rfl T.law_number.g T.law_number.F.kp (b_law_number T) .nil pass0 (pa_cons (pv 0) (pa_cons (pe_ix (r := rIxT K) ix_tup (pv 1) pe_int (fun _ _ => rfl)) pa_nil))) rfl)))
  (pss_one (ps_ret (pe_call (ok_law_made T) (hr.mono (by decide)) rfl T.law_made.g T.law_made.F.kp (b_law_made T) .nil pass0 (pa_cons (pv 1) (pa_cons (pv 4) pa_nil))))))), ?_⟩
    walk_at "rd"
    intro d hd
    have s1 := same_upd (o := .dT []) hd
    walk_at "rd"
    refine ⟨r, sa, ns, kk + 1, rfl, hrow.sm s1, by omega, by omega, fun c H1 c0 c1 row1 b1 => ?_⟩
    have rk1 : RK K r sa ns H H1 := (RK.of hrow s1).trans (.draw row1 b1)
    have ndr : d ≠ r := new_ne hrow hd
    obtain ⟨c, rfl⟩ := Int.eq_ofNat_of_zero_le c0
    walk_at "rd"
    refine ⟨by omega, by omega, for_range (lo := 0) (n := c) (fun i σ Hx => (RK K r sa ns H Hx ∧ ∃ kvs al, Hx d = some (.dT kvs) ∧ KVs Hx f kvs al ∧ AlS f n i m al) ∧ ∃ y, σ = [some (.ref r), some (.ref ra), some (.int (kk : Int)), some (.int m), some (.ref d), y]) ⟨⟨rk1, [], [], (b1 d ndr).trans upd_same, .nil, .nil, Nat.le_refl _, fun e he => by cases he⟩, none, rfl⟩ ?_ ?_⟩
    · rintro i σ Hx hi ⟨⟨rk2, kvs, al, hkv, hK, hA⟩, y, rfl⟩
      walk_at "rd"
      refine ⟨ra, _, _, _, rfl, rfl, (rk2.tp hrow).sqt hR, rfl, ?_⟩
      walk_at "rd"
      refine ⟨r, sa, ns, f, rfl, hv.hf, rk2.row, fun nv x H3 hn hx rk3 => ?_⟩
      walk_at "rd"
      have rk23 := rk2.trans rk3
      refine ⟨ra, _, _, _, rfl, rfl, (rk23.tp hrow).sqt hR, rfl, ?_⟩
      walk_at "rd"
      refine ⟨r, sa, ns, n, m, rfl, hv.h1, hv.h4, hm0, hm, rk23.row, fun es p H4 he rk4 hp => ?_⟩
      have tq := (rk3.trans rk4).tq rk2.row
      have hd4 : H4 d = some (.dT kvs) := (rk3.trans rk4).keep _ _ ndr hkv
      have e3 : H4 p = some (.tup ((inlK es).map kV)) := by rw [inlK_kV]; exact hp
      have kl : kvs.length ≤ i := by rw [kvs_len hK]; exact hA.2.1
      have tu : Tq H4 (upd H4 d (.dT (putK kvs (inlK es) nv))) := tq_upd hd4 trivial
      refine ⟨d, _, rfl, DPut.t hd4 e3 (by rw [sizeLine_eq]; omega), ⟨(rk23.trans rk4).upd_new hrow hd, _, _, upd_same, kvs_put ((hK.tq tq).tq tu) ((hn.tq (rk4.tq rk23.row)).tq tu), als_put hA he hx⟩, _, rfl⟩
    · rintro σ Hx ⟨⟨rk2, kvs, al, hkv, hK, hA⟩, y, rfl⟩
      walk_at "rd"
      refine ⟨f, n, o, .ref ra, d, kvs, al, rfl, hv.tp' (rk2.tp hrow), hkv, hK, hA.1, fun e he => ⟨monD_mon (hA.2.2 e he).1 hm, (hA.2.2 e he).2.1⟩, by have := hA.2.1; omega, fun v' H5 s5 p5 => ?_⟩
      refine k v' _ H5 p5 (als_poly ⟨hA.1, by have := hA.2.1; omega, hA.2.2⟩ hm) (rk2.trans (.of rk2.row s5))
end

/-! ### the reader of texts: the mathematics -/
inductive RR (α : Type) where
  | ok (x : α) (p : Nat)
  | err (s : Nat)
def spc : List Nat → Nat
  | [] => 0
  | c :: r => if c = 32 then spc r + 1 else 0
def digB (c : Nat) : Bool := decide (48 ≤ c) && decide (c ≤ 57)
def figs : List Nat → Nat
  | [] => 0
  | c :: r => if digB c = true then figs r + 1 else 0
/-- behind spaces; behind figures -/
def skp (T : List Nat) (p : Nat) : Nat := p + spc (T.drop p)
def fgs (T : List Nat) (p : Nat) : Nat := p + figs (T.drop p)
def ltrs (n : Nat) : List Nat := [120, 121, 122, 119].take n
def figL (T : List Nat) (p : Nat) : List Nat := (T.drop p).take (figs (T.drop p))
def okI (ds : List Nat) : Bool := decide (ds ≠ []) && !(decide (1 < ds.length) && decide (ds.head? = some 48)) && decide (ds.length ≤ 60)
def intR (T : List Nat) (p : Nat) : RR (Nat × Nat) :=
  if okI (figL T (skp T p)) = true then .ok (skp T p, NumText.digitsVal (figL T (skp T p))) (fgs T (skp T p)) else .err (skp T p)
def pasB (T : List Nat) (p c : Nat) : Bool := decide (T[skp T p]? = some c)
def pasP (T : List Nat) (p c : Nat) : Nat := if pasB T p c = true then skp T p + 1 else skp T p
def expR (T : List Nat) (p : Nat) : RR Nat := match intR T p with
  | .err s => .err s
  | .ok (s, n) e => if 60 < n then .err s else .ok n e
def isZ0 (f d : Int) : Bool := if f = 0 then decide (d = 0) else decide (d % f = 0)
def quoR (f : Int) (T : List Nat) (p : Nat) : RR (Nat × Nat) := match intR T p with
  | .err s => .err s
  | .ok (_, n) e => if pasB T e 47 = true then (match intR T (pasP T e 47) with
    | .err s => .err s
    | .ok (s, d) e' => if isZ0 f d = true then .err s else .ok (n, d) e') else .ok (n, 1) (pasP T e 47)
def addE (es : List Int) (i : Nat) (e : Nat) : List Int := es.set i (es.getD i 0 + (e : Int))
def powR (T : List Nat) (p i : Nat) (es : List Int) : RR (List Int) :=
  if pasB T (p + 1) 94 = true then (match expR T (pasP T (p + 1) 94) with
    | .err s => .err s
    | .ok e q => if 60 < (addE es i e).sum then .err p else .ok (addE es i e) q)
  else if 60 < (addE es i 1).sum then .err p else .ok (addE es i 1) (pasP T (p + 1) 94)
abbrev St3 := Int × Int × List Int
def lttI (n : Nat) (T : List Nat) (p : Nat) : Option Nat := (T[p]?).bind fun c => (ltrs n).findIdx? fun x => decide (x = c)
def facR (f : Int) (n : Nat) (T : List Nat) (p : Nat) (st : St3) : RR St3 :=
  match lttI n T (skp T p) with
  | some i => (match powR T (skp T p) i st.2.2 with
    | .err s => .err s
    | .ok es q => .ok (st.1, st.2.1, es) q)
  | none => (match quoR f T (skp T p) with
    | .err s => .err s
    | .ok (u, l) q => .ok (st.1 * (u : Int), st.2.1 * (l : Int), st.2.2) q)
def termR (f : Int) (n : Nat) (T : List Nat) : Nat → Nat → St3 → RR St3
  | 0, p, _ => .err p
  | g + 1, p, st => match facR f n T p st with
    | .err s => .err s
    | .ok st' q => if pasB T q 42 = true then termR f n T g (pasP T q 42) st' else .ok st' (pasP T q 42)
def sgnB (T : List Nat) (p : Nat) : Bool := pasB T p 45
def sgnP (T : List Nat) (p : Nat) : Nat := if pasB T p 45 = true then pasP T p 45 else pasP T (pasP T p 45) 43
def st0 (n : Nat) (b : Bool) : St3 := (if b = true then -1 else 1, 1, List.replicate n 0)
def oneR (f : Int) (n : Nat) (T : List Nat) (p : Nat) : RR St3 := termR f n T (T.length + 1) (sgnP T p) (st0 n (sgnB T p))
/-- the terms behind the first -/
def moreR (f : Int) (n : Nat) (T : List Nat) : Nat → Nat → List St3 → RR (List St3)
  | 0, p, _ => .err p
  | g + 1, p, l => if T[skp T p]? = none then .ok l (skp T p)
    else if T[skp T p]? = some 43 ∨ T[skp T p]? = some 45 then (match oneR f n T (skp T p) with
      | .err s => .err s
      | .ok st q => moreR f n T g q (l ++ [st]))
    else .err (skp T p)
def termsR (f : Int) (n : Nat) (T : List Nat) : RR (List St3) := match oneR f n T 0 with
  | .err s => .err s
  | .ok st q => moreR f n T (T.length + 1) q [st]
/-! #### places -/
theorem spc_le : ∀ l : List Nat, spc l ≤ l.length
  | [] => Nat.le_refl _
  | c :: r => by unfold spc; have := spc_le r; split <;> simp <;> omega
theorem figs_le : ∀ l : List Nat, figs l ≤ l.length
  | [] => Nat.le_refl _
  | c :: r => by unfold figs; have := figs_le r; split <;> simp <;> omega
theorem skp_ge (T : List Nat) (p : Nat) : p ≤ skp T p := Nat.le_add_right _ _
theorem skp_le {T : List Nat} {p : Nat} (h : p ≤ T.length) : skp T p ≤ T.length := by
  unfold skp
  have := spc_le (T.drop p)
  rw [List.length_drop] at this
  omega
theorem fgs_ge (T : List Nat) (p : Nat) : p ≤ fgs T p := Nat.le_add_right _ _
theorem fgs_le {T : List Nat} {p : Nat} (h : p ≤ T.length) : fgs T p ≤ T.length := by
  unfold fgs
  have := figs_le (T.drop p)
  rw [List.length_drop] at this
  omega
theorem drop_at {T : List Nat} {p c : Nat} (h : T[p]? = some c) : T.drop p = c :: T.drop (p + 1) := by
  obtain ⟨hp, e⟩ := List.getElem?_eq_some_iff.mp h
  rw [List.drop_eq_getElem_cons hp, e]
theorem drop_none {T : List Nat} {p : Nat} (h : T[p]? = none) : T.drop p = [] := List.drop_eq_nil_of_le (List.getElem?_eq_none_iff.mp h)
theorem skp_step {T : List Nat} {p : Nat} (h : T[p]? = some 32) : skp T p = skp T (p + 1) := by
  unfold skp
  rw [drop_at h]
  show p + (if (32 : Nat) = 32 then _ else _) = _
  rw [if_pos rfl]
  omega
theorem skp_stop {T : List Nat} {p : Nat} (h : T[p]? ≠ some 32) : skp T p = p := by
  unfold skp
  cases e : T[p]? with
  | none => rw [drop_none e]; rfl
  | some c =>
    rw [drop_at e]
    show p + (if c = 32 then _ else _) = _
    rw [if_neg fun z => h (by rw [e, z])]
    rfl
theorem skp_at (T : List Nat) (p : Nat) : T[skp T p]? ≠ some 32 := by
  have key : ∀ l : List Nat, l[spc l]? ≠ some 32 := by
    intro l
    induction l with
    | nil => simp
    | cons c r ih =>
      unfold spc
      split
      · rw [List.getElem?_cons_succ]; exact ih
      · rename_i h
        simpa using h
  have := key (T.drop p)
  rw [List.getElem?_drop] at this
  exact this
theorem skp_skp (T : List Nat) (p : Nat) : skp T (skp T p) = skp T p := skp_stop (skp_at T p)
theorem fgs_step {T : List Nat} {p c : Nat} (h : T[p]? = some c) (d : digB c = true) : fgs T p = fgs T (p + 1) := by
  unfold fgs
  rw [drop_at h]
  show p + (if digB c = true then _ else _) = _
  rw [if_pos d]
  omega
theorem fgs_stop {T : List Nat} {p : Nat} (h : ∀ c, T[p]? = some c → digB c = false) : fgs T p = p := by
  unfold fgs
  cases e : T[p]? with
  | none => rw [drop_none e]; rfl
  | some c =>
    rw [drop_at e]
    show p + (if digB c = true then _ else _) = _
    rw [h c e]
    rfl
theorem figL_cut (T : List Nat) (p : Nat) : figL T p = (T.drop p).take (fgs T p - p) := by
  unfold figL fgs
  rw [Nat.add_sub_cancel_left]
theorem figs_dig : ∀ l : List Nat, (l.take (figs l)).all (fun c => decide (48 ≤ c) && decide (c ≤ 57)) = true
  | [] => rfl
  | c :: r => by
    unfold figs
    by_cases h : digB c = true
    · rw [if_pos h, List.take_succ_cons, List.all_cons, figs_dig r]
      unfold digB at h
      rw [h]; rfl
    · rw [if_neg h]; rfl
theorem figL_dig (T : List Nat) (p : Nat) : (figL T p).all (fun c => decide (48 ≤ c) && decide (c ≤ 57)) = true := figs_dig _
theorem figL_len {T : List Nat} {p : Nat} : (figL T p).length = fgs T p - p := by
  unfold figL fgs
  rw [List.length_take, Nat.add_sub_cancel_left]
  exact Nat.min_eq_left (figs_le _)
theorem pasP_le {T : List Nat} {p c : Nat} (h : p ≤ T.length) : pasP T p c ≤ T.length := by
  unfold pasP
  have := skp_le h
  split
  · rename_i hb
    have := (List.getElem?_eq_some_iff.mp (of_decide_eq_true hb)).1
    omega
  · omega
theorem pasP_ge (T : List Nat) (p c : Nat) : p ≤ pasP T p c := by
  unfold pasP
  have := skp_ge T p
  split <;> omega
theorem pasP_gt {T : List Nat} {p c : Nat} (h : pasB T p c = true) : p < pasP T p c := by
  unfold pasP
  rw [if_pos h]
  have := skp_ge T p
  omega
/-! #### what is read moves on -/
theorem intR_ok {T : List Nat} {p s n e : Nat} (h : intR T p = .ok (s, n) e) : s = skp T p ∧ okI (figL T s) = true ∧ n = NumText.digitsVal (figL T s) ∧ e = fgs T s ∧ s < e := by
  unfold intR at h
  split at h
  · rename_i hk
    cases h
    refine ⟨rfl, hk, rfl, rfl, ?_⟩
    have l := figL_len (T := T) (p := skp T p)
    have hne : figL T (skp T p) ≠ [] := by
      unfold okI at hk
      rw [Bool.and_eq_true, Bool.and_eq_true] at hk
      exact of_decide_eq_true hk.1.1
    have : 0 < (figL T (skp T p)).length := List.length_pos_iff.mpr hne
    omega
  · cases h
theorem intR_le {T : List Nat} {p : Nat} {x : Nat × Nat} {e : Nat} (hp : p ≤ T.length) (h : intR T p = .ok x e) : p < e ∧ e ≤ T.length := by
  obtain ⟨s, n⟩ := x
  obtain ⟨h1, _, _, h4, h5⟩ := intR_ok h
  have h6 := skp_ge T p
  have h7 : fgs T s ≤ T.length := fgs_le (by rw [h1]; exact skp_le hp)
  omega
theorem expR_le {T : List Nat} {p : Nat} {x e : Nat} (hp : p ≤ T.length) (h : expR T p = .ok x e) : p < e ∧ e ≤ T.length ∧ x ≤ 60 := by
  unfold expR at h
  cases hi : intR T p with
  | err s => rw [hi] at h; cases h
  | ok y q =>
    obtain ⟨s, n⟩ := y
    rw [hi] at h
    have := intR_le hp hi
    by_cases c : 60 < n
    · simp only [if_pos c] at h; cases h
    · simp only [if_neg c] at h; cases h; omega
theorem quoR_le {f : Int} {T : List Nat} {p : Nat} {x : Nat × Nat} {e : Nat} (hp : p ≤ T.length) (h : quoR f T p = .ok x e) : p < e ∧ e ≤ T.length := by
  unfold quoR at h
  cases hi : intR T p with
  | err s => rw [hi] at h; cases h
  | ok y q =>
    obtain ⟨s, n⟩ := y
    rw [hi] at h
    have l1 := intR_le hp hi
    have l2 := pasP_le (c := 47) l1.2
    have l3 := pasP_ge T q 47
    by_cases c : pasB T q 47 = true
    · simp only [if_pos c] at h
      cases hj : intR T (pasP T q 47) with
      | err s => rw [hj] at h; cases h
      | ok y q2 =>
        obtain ⟨s2, d⟩ := y
        rw [hj] at h
        have l4 := intR_le l2 hj
        by_cases z : isZ0 f d = true
        · simp only [if_pos z] at h; cases h
        · simp only [if_neg z] at h; cases h; omega
    · simp only [if_neg c] at h
      cases h
      omega
theorem powR_le {T : List Nat} {p i : Nat} {es es' : List Int} {e : Nat} (hp : p < T.length) (h : powR T p i es = .ok es' e) : p < e ∧ e ≤ T.length ∧ es'.sum ≤ 60 ∧ ∃ k : Nat, k ≤ 60 ∧ es' = addE es i k := by
  unfold powR at h
  have l2 := pasP_le (T := T) (p := p + 1) (c := 94) (by omega)
  have l3 := pasP_ge T (p + 1) 94
  by_cases c : pasB T (p + 1) 94 = true
  · rw [if_pos c] at h
    cases hj : expR T (pasP T (p + 1) 94) with
    | err s => rw [hj] at h; cases h
    | ok x q =>
      rw [hj] at h
      have l4 := expR_le l2 hj
      by_cases z : 60 < (addE es i x).sum
      · simp only [if_pos z] at h; cases h
      · simp only [if_neg z] at h; cases h; exact ⟨by omega, by omega, by omega, x, l4.2.2, rfl⟩
  · rw [if_neg c] at h
    by_cases z : 60 < (addE es i 1).sum
    · rw [if_pos z] at h; cases h
    · rw [if_neg z] at h; cases h; exact ⟨by omega, by omega, by omega, 1, by omega, rfl⟩
theorem facR_le {f : Int} {n : Nat} {T : List Nat} {p : Nat} {st st' : St3} {q : Nat} (hp : p ≤ T.length) (h : facR f n T p st = .ok st' q) : p < q ∧ q ≤ T.length := by
  unfold facR at h
  have l1 := skp_ge T p
  have l2 := skp_le hp
  cases hl : lttI n T (skp T p) with
  | some i =>
    rw [hl] at h
    have hlt : skp T p < T.length := by
      unfold lttI at hl
      cases e : T[skp T p]? with
      | none => rw [e] at hl; cases hl
      | some c => exact (List.getElem?_eq_some_iff.mp e).1
    cases hj : powR T (skp T p) i st.2.2 with
    | err s => simp only [hj] at h; cases h
    | ok es q2 =>
      simp only [hj] at h
      cases h
      have := powR_le hlt hj
      omega
  | none =>
    rw [hl] at h
    cases hj : quoR f T (skp T p) with
    | err s => simp only [hj] at h; cases h
    | ok x q2 =>
      obtain ⟨u, l⟩ := x
      simp only [hj] at h
      cases h
      have := quoR_le l2 hj
      omega
theorem termR_le {f : Int} {n : Nat} {T : List Nat} : ∀ {g p : Nat} {st st' : St3} {q : Nat}, p ≤ T.length → termR f n T g p st = .ok st' q → p < q ∧ q ≤ T.length
  | 0, _, _, _, _, _, h => by cases h
  | g + 1, p, st, st', q, hp, h => by
    unfold termR at h
    cases hj : facR f n T p st with
    | err s => rw [hj] at h; cases h
    | ok x q2 =>
      rw [hj] at h
      have l1 := facR_le hp hj
      have l2 := pasP_le (c := 42) l1.2
      have l3 := pasP_ge T q2 42
      by_cases c : pasB T q2 42 = true
      · simp only [if_pos c] at h
        have := termR_le l2 h
        omega
      · simp only [if_neg c] at h
        cases h
        omega
theorem sgnP_le {T : List Nat} {p : Nat} (hp : p ≤ T.length) : sgnP T p ≤ T.length := by
  unfold sgnP
  split
  · exact pasP_le hp
  · exact pasP_le (pasP_le hp)
theorem sgnP_ge (T : List Nat) (p : Nat) : p ≤ sgnP T p := by
  unfold sgnP
  have h1 := pasP_ge T p 45
  have h2 := pasP_ge T (pasP T p 45) 43
  split <;> omega

local macro_rules | `(tactic| walk_at "rf") => `(tactic| repeat (first | walk_at "rd1" | refine ⟨_, _, _, _, _, rfl, (by assumption), (by assumption), (by assumption), rfl, ?_⟩))

/-! ### the reader's methods: spaces, signs -/
def rdF (f : Int) (L : Addr) (T : List Nat) (p : Nat) : List (Str × V) := [("field", .int f), ("letters", .ref L), ("text", .str (tx T)), ("place", .int (p : Int))]
structure Rdr (C : Addr) (K : PySem.W.Frag) (H : Hp) (a dx : Addr) (f : Int) (n : Nat) (L : Addr) (T : List Nat) (p : Nat) : Prop where
  ob : H a = some (.ins C dx (rdF f L T p))
  le : p ≤ T.length
  len : T.length ≤ 1000
  lt : PlT K H L (((ltrs n).map fun c => tx [c]).map V.str)
  n4 : n ≤ 4
theorem tx_len (T : List Nat) : (tx T).length = T.length := by show T.toArray.size = _; rw [List.size_toArray]
theorem tx_inj {a b : List Nat} (h : tx a = tx b) : a = b := by
  unfold tx at h
  have := congrArg Str.cps h
  simpa using this
theorem tx_line {T : List Nat} (h : T.length ≤ 100000) : (tx T).length ≤ sizeLine := by
  rw [tx_len]
  have : 100000 < sizeLine := by decide
  omega
theorem cut_tx {T : List Nat} {a b : Nat} (ha : a ≤ T.length) : cutS (tx T) (some (a : Int)) (some (b : Int)) = tx ((T.drop a).take (b - a)) := by
  unfold cutS
  rw [tx_len, HT.sIx_nat, HT.sIx_nat, Nat.min_eq_left ha]
  unfold tx
  congr 2
  show (T.drop a).take (min b T.length - a) = _
  by_cases h : b ≤ T.length
  · rw [Nat.min_eq_left h]
  · rw [Nat.min_eq_right (by omega), List.take_of_length_le (by rw [List.length_drop]; omega), List.take_of_length_le (by rw [List.length_drop]; omega)]
def sg (T : List Nat) (p : Nat) : List Nat := (T.drop p).take 1
theorem cut_one {T : List Nat} {p : Nat} (h : p ≤ T.length) : cutS (tx T) (some (p : Int)) (some ((p : Int) + 1)) = tx (sg T p) := by
  have := cut_tx (b := p + 1) h
  rw [show (p + 1) - p = 1 by omega] at this
  exact this
theorem sg_some {T : List Nat} {p c : Nat} (h : T[p]? = some c) : sg T p = [c] := by unfold sg; rw [drop_at h]; rfl
theorem sg_none {T : List Nat} {p : Nat} (h : T[p]? = none) : sg T p = [] := by unfold sg; rw [drop_none h]; rfl
theorem sg_iff {T : List Nat} {p c : Nat} : sg T p = [c] ↔ T[p]? = some c := by
  cases e : T[p]? with
  | none => rw [sg_none e]; simp
  | some d => rw [sg_some e]; simp
theorem vstr {a b : List Nat} : decide (V.str (tx a) = V.str (tx b)) = decide (a = b) := by
  by_cases h : a = b
  · subst h; simp
  · rw [decide_eq_false h, decide_eq_false fun z => h (tx_inj (V.str.inj z))]
theorem s_space : (" " : Str) = tx [32] := by decide
theorem s_minus : ("-" : Str) = tx [45] := by decide
theorem s_plus : ("+" : Str) = tx [43] := by decide
theorem s_empty : ("" : Str) = tx [] := by decide
theorem s_star : ("*" : Str) = tx [42] := by decide
theorem s_slash : ("/" : Str) = tx [47] := by decide
theorem s_hat : ("^" : Str) = tx [94] := by decide
theorem s_zero : ("0" : Str) = tx [48] := by decide
theorem upd_upd {H : Hp} {a : Addr} {o o' : HO} : upd (upd H a o) a o' = upd H a o' := by
  funext b
  by_cases h : b = a
  · subst h; rw [upd_same, upd_same]
  · rw [upd_ne h, upd_ne h, upd_ne h]
theorem put_place (f : Int) (L : Addr) (T : List Nat) (p : Nat) (i : Int) : putF "place" (V.int i) (rdF f L T p) = ([("field", .int f), ("letters", .ref L), ("text", .str (tx T)), ("place", .int i)] : List (Str × V)) := by rfl
def rdM (a : Addr) (H : Hp) : Nat := match H a with | some (.ins _ _ fs) => (match fs.lookup ("place" : Str) with | some (V.int p) => 1001 - p.toNat | _ => 0) | _ => 0
theorem rdM_at {H : Hp} {a C dx L : Addr} {f : Int} {T : List Nat} {p : Nat} (h : H a = some (.ins C dx (rdF f L T p))) : rdM a H = 1001 - p := by
  unfold rdM
  rw [h]
  show 1001 - (p : Int).toNat = _
  rw [Int.toNat_natCast]
section
variable {P : Program} {w : World} {K : PySem.W.Frag} {mg : Str → Option Value} {base : Heap}
theorem Rdr.mv {C : Addr} {H H' : Hp} {a dx : Addr} {f : Int} {n : Nat} {L : Addr} {T : List Nat} {p q : Nat} (r : Rdr C K H a dx f n L T p) (k : KeepBut a H H') (h : H' a = some (.ins C dx (rdF f L T q))) (hq : q ≤ T.length) : Rdr C K H' a dx f n L T q := by
  refine ⟨h, hq, r.len, ?_, r.n4⟩
  rcases r.lt with ⟨o, c1, c2, h1⟩ | h1
  · exact .inl ⟨o, c1, c2, k _ _ (fun z => by rw [z, r.ob] at h1; cases h1) h1⟩
  · exact .inr h1
theorem Rdr.mvL {C : Addr} {H H' : Hp} {a dx : Addr} {f : Int} {n : Nat} {L : Addr} {T : List Nat} {p q : Nat} (r : Rdr C K H a dx f n L T p) (k : ∀ o xs, H L = some (.frz o (.tup xs)) → H' L = some (.frz o (.tup xs))) (h : H' a = some (.ins C dx (rdF f L T q))) (hq : q ≤ T.length) : Rdr C K H' a dx f n L T q := by
  refine ⟨h, hq, r.len, ?_, r.n4⟩
  rcases r.lt with ⟨o, c1, c2, h1⟩ | h1
  · exact .inl ⟨o, c1, c2, k _ _ h1⟩
  · exact .inr h1
def sp_ahead (C : Addr) (K : PySem.W.Frag) : Sp := fun vs H Q _ => ∃ (a dx : Addr) (f : Int) (n : Nat) (L : Addr) (T : List Nat) (p : Nat), vs = [.ref a] ∧ Rdr C K H a dx f n L T p ∧ ∀ H', KeepBut a H H' → Rdr C K H' a dx f n L T (skp T p) → Q (.str (tx (sg T (skp T p)))) H'
theorem ok_Reader_ahead (T : Txt K mg) : FnOk P w K mg base CX0 1 T.Reader.f_ahead T.Reader.d_ahead P_Reader_ahead (sp_ahead T.Reader.C K) := by
  refine T.Reader.F_ahead.ok sc_Reader_ahead (fun vs H Q E h => ?_) (fun cdv A outer s H vs Q E hr h => ?_)
  · obtain ⟨a, dx, f, n, L, T, p, rfl, _⟩ := h; rfl
  · obtain ⟨a, dx, f, n, L, X, p, rfl, hR, k⟩ := h
    refine ⟨_, (pss_cons (ps_while PassesOwn.never (pt_cmpR op_eq (pe_slice sl_str (pe_fld (pv 0) rfl) (po_some (pe_fld (pv 0) rfl)) (po_some (pe_op op_add (pe_fld (pv 0) rfl) pe_int))) pe_str (nomark _)) (pss_one (ps_fldaug (pv 0) pe_int in_add)))
  (pss_one (ps_ret (pe_slice sl_str (pe_fld (pv 0) rfl) (po_some (pe_fld (pv 0) rfl)) (po_some (pe_op op_add (pe_fld (pv 0) rfl) pe_int)))))), ?_⟩
    have f1 := T.Reader.cls
    have f2 := T.Reader.n_text
    have f3 := T.Reader.n_place
    have hXl := hR.len
    walk_at "rd"
    refine while_by (fun σ H1 => ∃ q, σ = [some (.ref a)] ∧ KeepBut a H H1 ∧ H1 a = some (.ins T.Reader.C dx (rdF f L X q)) ∧ q ≤ X.length ∧ skp X q = skp X p) (fun _ H1 => rdM a H1) ⟨p, rfl, fun _ _ _ e => e, hR.ob, hR.le, rfl⟩ ?_ ?_
    · rintro σ H1 ⟨q, rfl, kb, hq, hl, hs⟩
      walk_at "rf"
      refine ⟨tx_line (by omega), ?_⟩
      rw [cut_one hl]
      walk_at "rd"
      rw [s_space, vstr]
      refine iteD (fun h => ?_) (fun h => ?_)
      · have h1 := sg_iff.mp h
        have h2 := (List.getElem?_eq_some_iff.mp h1).1
        walk_at "rf"
        refine ⟨_, _, hq, (show 4 < 1000 by decide), ?_⟩
        refine ⟨⟨q + 1, rfl, fun b o nb e => (upd_ne nb).trans (kb b o nb e), ?_, by omega, ?_⟩, ?_⟩
        · rw [upd_same, put_place]; rfl
        · rw [← skp_step h1, hs]
        · rw [rdM_at (p := q + 1) (by rw [upd_same, put_place]; rfl), rdM_at hq]
          omega
      · have h1 : X[q]? ≠ some 32 := fun z => h (sg_iff.mpr z)
        have h2 := skp_stop h1
        rw [hs] at h2
        walk_at "rf"
        refine ⟨tx_line (by omega), ?_⟩
        rw [cut_one hl, ← h2]
        exact k H1 kb (hR.mv kb (by rw [hq, h2]) (by omega))
    · rintro σ H1 Q1 Q2 hQ hc
      refine mo_test (mo_op mo_eq (mo_slS (mo_fld (mo_var _)) (mo_part (mo_fld (mo_var _))) (mo_part (mo_op (mo_i0 _) (mo_fld (mo_var _)) (mo_c _)))) (mo_c _)) σ H1 Q1 Q2 hQ hc
theorem sp_ahead_mono {C : Addr} {E : XK} : ∀ vs H (Q Q' : VK), (∀ v H1, Q v H1 → Q' v H1) → sp_ahead C K vs H Q E → sp_ahead C K vs H Q' E := fun vs H Q Q' h ⟨a, dx, f, n, L, X, p, e, r, q⟩ => ⟨a, dx, f, n, L, X, p, e, r, fun H' k r' => h _ _ (q H' k r')⟩
theorem rd_no (f : Int) (L : Addr) (T : List Nat) (p : Nat) (m : Str) (h : m ∈ ([("ahead" : Str), "passes", "sign", "terms", "term", "power", "exponent", "quotient", "integer"] : List Str)) : (rdF f L T p).lookup m = none := by
  simp only [List.mem_cons, List.not_mem_nil, or_false] at h
  rcases h with rfl | rfl | rfl | rfl | rfl | rfl | rfl | rfl | rfl <;> rfl
def sp_passes (C : Addr) (K : PySem.W.Frag) : Sp := fun vs H Q _ => ∃ (a dx : Addr) (f : Int) (n : Nat) (L : Addr) (T : List Nat) (p c : Nat), vs = [.ref a, .str (tx [c])] ∧ Rdr C K H a dx f n L T p ∧ ∀ H', KeepBut a H H' → Rdr C K H' a dx f n L T (pasP T p c) → Q (.bl (pasB T p c)) H'
theorem ok_Reader_passes (T : Txt K mg) : FnOk P w K mg base CX0 2 T.Reader.f_passes T.Reader.d_passes P_Reader_passes (sp_passes T.Reader.C K) := by
  refine T.Reader.F_passes.ok sc_Reader_passes (fun vs H Q E h => ?_) (fun cdv A outer s H vs Q E hr h => ?_)
  · obtain ⟨a, dx, f, n, L, T, p, c, rfl, _⟩ := h; rfl
  · obtain ⟨a, dx, f, n, L, X, p, c, rfl, hR, k⟩ := h
    refine ⟨_, (pss_cons (ps_if (pt_cmpR op_ne (pe_meth0 (pv 0) T.Reader.cls T.Reader.m_ahead (ok_Reader_ahead T) (hr.mono (by decide)) (b_Reader_ahead T) .nil pass0) (pv 1) (nomark _)) (pss_one (ps_ret pe_bl)) pss_nil)
  (pss_cons (ps_fldaug (pv 0) pe_int in_add)
  (pss_one (ps_ret pe_bl)))), ?_⟩
    have f1 := T.Reader.cls
    have f3 := T.Reader.n_place
    walk_at "rf"
    refine ⟨_, _, _, rfl, hR.ob, rfl, a, dx, f, n, L, X, p, rfl, hR, fun H1 k1 r1 => ?_⟩
    walk_at "rf"
    rw [vstr]
    unfold pasP pasB at k
    refine iteDn (fun h => ?_) (fun h => ?_)
    · have h1 : ¬ X[skp X p]? = some c := fun z => h (sg_iff.mpr z)
      rw [decide_eq_false h1, if_neg Bool.false_ne_true] at k
      walk_at "rf"
      exact k H1 k1 r1
    · have h1 := sg_iff.mp h
      rw [decide_eq_true h1, if_pos rfl] at k
      have h2 := (List.getElem?_eq_some_iff.mp h1).1
      have hq := r1.ob
      walk_at "rf"
      refine ⟨_, _, hq, (show 4 < 1000 by decide), ?_⟩
      walk_at "rf"
      have kb : KeepBut a H (upd H1 a (.ins T.Reader.C dx (putF "place" (V.int ((skp X p : Nat) + 1)) (rdF f L X (skp X p))))) := fun b o nb e => (upd_ne nb).trans (k1 b o nb e)
      exact k _ kb (hR.mv kb (by rw [upd_same, put_place]; rfl) (by omega))
def sp_sign (C : Addr) (K : PySem.W.Frag) : Sp := fun vs H Q _ => ∃ (a dx : Addr) (f : Int) (n : Nat) (L : Addr) (T : List Nat) (p : Nat), vs = [.ref a] ∧ Rdr C K H a dx f n L T p ∧ ∀ H', KeepBut a H H' → Rdr C K H' a dx f n L T (sgnP T p) → Q (.int (if sgnB T p = true then -1 else 1)) H'
theorem ok_Reader_sign (T : Txt K mg) : FnOk P w K mg base CX0 3 T.Reader.f_sign T.Reader.d_sign P_Reader_sign (sp_sign T.Reader.C K) := by
  refine T.Reader.F_sign.ok sc_Reader_sign (fun vs H Q E h => ?_) (fun cdv A outer s H vs Q E hr h => ?_)
  · obtain ⟨a, dx, f, n, L, T, p, rfl, _⟩ := h; rfl
  · obtain ⟨a, dx, f, n, L, X, p, rfl, hR, k⟩ := h
    refine ⟨_, (pss_cons (ps_if (pt_val (pe_meth (pv 0) T.Reader.cls T.Reader.m_passes (ok_Reader_passes T) (hr.mono (by decide)) (b_Reader_passes T) .nil pass0 (pa_cons pe_str pa_nil))) (pss_one (ps_ret (pe_un un_neg pe_int))) pss_nil)
  (pss_cons (ps_expr (pe_meth (pv 0) T.Reader.cls T.Reader.m_passes (ok_Reader_passes T) (hr.mono (by decide)) (b_Reader_passes T) .nil pass0 (pa_cons pe_str pa_nil)))
  (pss_one (ps_ret pe_int)))), ?_⟩
    walk_at "rd"
    refine ⟨_, _, _, rfl, hR.ob, rfl, ?_⟩
    walk_at "rd"
    refine ⟨a, dx, f, n, L, X, p, 45, congrArg (fun z => [V.ref a, V.str z]) s_minus, hR, fun H1 k1 r1 => ?_⟩
    unfold sgnP sgnB at k
    walk_at "rd"
    refine iteB (fun h => ?_) (fun h => ?_)
    · rw [h, if_pos rfl, if_pos rfl] at k
      walk_at "rd"
      exact k H1 k1 r1
    · rw [h, if_neg Bool.false_ne_true, if_neg Bool.false_ne_true] at k
      walk_at "rd"
      refine ⟨_, _, _, rfl, r1.ob, rfl, ?_⟩
      walk_at "rd"
      refine ⟨a, dx, f, n, L, X, pasP X p 45, 43, congrArg (fun z => [V.ref a, V.str z]) s_plus, r1, fun H2 k2 r2 => ?_⟩
      walk_at "rd"
      exact k H2 (k1.trans k2) r2
end

local macro_rules | `(tactic| walk_at "rf") => `(tactic| repeat (first | walk_at "rd1" | refine ⟨_, _, _, _, _, rfl, (by assumption), (by assumption), (by assumption), rfl, ?_⟩))

/-! ### InvalidText; the reader's integers -/
/-- the text is one file, super is nobody's name -/
structure PFl (P : Program) (file : Str) : Prop where
  file : ((P.main.file : Str) == file) = true
  top : (P.main.scope.names.lookup ("super" : Str)).isSome = false
abbrev N_Inv_init : List Str := ["self", "place", "__class__"]
abbrev P_Inv_init : List Str := ["self", "place"]
theorem ns_Inv_init : NdefX.NScope N_Inv_init P_Inv_init ["__class__"] (defScope s_Inv_init) := NdefX.nscope_by (by decide +kernel)
theorem few_figs {i : Nat} (h : i ≤ 1000) : (Str.ofString (toString ((i : Nat) : Int))).length ≤ 5 := by
  rw [SX.num_S, show (SX.S (TL.numL i)).length = (TL.numL i).length from tx_len _]
  exact TL.numL_len (by decide) (Nat.lt_of_le_of_lt h (by decide))
theorem fig_nil : inV (V.str (tx [])) (figuresV.map V.str) = false := by decide
theorem fig_one (c : Nat) : inV (V.str (tx [c])) (figuresV.map V.str) = digB c := by
  show (figuresV.map V.str).any (fun y => eqV y (V.str (tx [c]))) = digB c
  have e : ∀ d : Nat, eqV (V.str (tx [d])) (V.str (tx [c])) = decide (d = c) := fun d => by
    show (tx [d] == tx [c]) = _
    by_cases hd : d = c
    · subst hd; simp
    · rw [decide_eq_false hd]
      exact beq_eq_false_iff_ne.mpr fun z => hd (by have := tx_inj z; simpa using this)
  unfold figuresV
  simp only [List.map_cons, List.map_nil, List.any_cons, List.any_nil, e, Bool.or_false]
  unfold digB
  by_cases h1 : 48 ≤ c ∧ c ≤ 57
  · rw [decide_eq_true h1.1, decide_eq_true h1.2]
    have : c = 48 ∨ c = 49 ∨ c = 50 ∨ c = 51 ∨ c = 52 ∨ c = 53 ∨ c = 54 ∨ c = 55 ∨ c = 56 ∨ c = 57 := by omega
    rcases this with rfl | rfl | rfl | rfl | rfl | rfl | rfl | rfl | rfl | rfl <;> decide
  · have z : (decide (48 ≤ c) && decide (c ≤ 57)) = false := by
      rw [Bool.and_eq_false_iff, decide_eq_false_iff_not, decide_eq_false_iff_not]; omega
    rw [z]
    simp only [Bool.or_eq_false_iff, decide_eq_false_iff_not]
    omega
section
variable {P : Program} {w : World} {K : PySem.W.Frag} {mg : Str → Option Value} {base : Heap}
def sp_Inv_init (C : Addr) : Sp := fun vs H Q _ => ∃ (a : Addr) (i : Nat), vs = [.ref a, .int i] ∧ i ≤ 1000 ∧ H a = some (exo a C none) ∧ ∀ dx, H dx = none → dx ≠ a → Q .non (upd (upd H dx (exd dx [("place", .int i)])) a (exo a C (some dx)))
theorem b_Inv_init (T : Txt K mg) : Binds K T.InvalidText.fd P_Inv_init [] := by
  obtain ⟨oc, od, an, dV, kV, doc, pm, ct, osl, efd, edv, lk⟩ := T.InvalidText.lk
  subst edv
  rw [efd]
  exact .all fun us hl => match us, hl with | [_, _], _ => rfl
theorem ok_Inv_init (T : Txt K mg) (PF : PFl P T.InvalidText.file) : FnOk P w K mg base (L2.CX P w) 1 T.InvalidText.f T.InvalidText.fd P_Inv_init (sp_Inv_init T.InvalidText.C) := by
  obtain ⟨oc, od, an, dV, kV, doc, pm, ct, osl, efd, edv, lk⟩ := T.InvalidText.lk
  rw [efd] at lk ⊢
  refine fn_super T.InvalidText.sup lk T.InvalidText.code rfl ns_Inv_init rfl rfl (by decide +kernel) (by decide +kernel) PF.file PF.top T.n_super (fun vs H Q E h => ?_) (fun _ => rfl) (fun _ => rfl) (fun _ => rfl) (fun _ => rfl) (fun _ => rfl) (fun A outer s H vs Q E hr h => ?_)
  · obtain ⟨a, i, rfl, _⟩ := h; rfl
  · obtain ⟨a, i, rfl, hi, ha, k⟩ := h
    refine ⟨_, _, pa_cons (pe_joined (.cons pe_str (.cons (pe_fmt (pv 1)) .nil))) pa_nil, pss_one (ps_ost (pv 0) (pv 1)), a, rfl, ha, ?_⟩
    walk_at "rd"
    have h1 := few_figs hi
    have hb : 100 < sizeLine := by decide
    refine ⟨by decide +kernel, .int i, rfl, .inr ⟨(i : Int), rfl, ?_, _, rfl, ?_, (show 1 ≤ 1000 by decide), ha, ?_⟩⟩
    · rw [Int.natAbs_natCast]
      exact Nat.lt_of_le_of_lt (Nat.log2_le_self i) (by omega)
    · show ((Str.empty.cps ++ (Str.ofString "place ").cps) ++ (Str.ofString (toString ((i : Nat) : Int))).cps).size ≤ _
      rw [Array.size_append, Array.size_append]
      have h2 : (Str.ofString "place ").cps.size = 6 := by decide +kernel
      have h3 : Str.empty.cps.size = 0 := rfl
      have h4 : (Str.ofString (toString ((i : Nat) : Int))).cps.size ≤ 5 := h1
      omega
    · exact ⟨.int i, rfl, .ref a, rfl, a, T.InvalidText.C, rfl, T.InvalidText.sup.ex, T.InvalidText.fld, .inl ⟨ha, k⟩⟩
theorem at_str {T : List Nat} {p c : Nat} (h : T[p]? = some c) : atI (tx T).cps.toList (p : Int) = some c := by
  have e : (tx T).cps.toList = T := by unfold tx; simp
  rw [e]
  exact atI_nat h
theorem mo_in (b : Bool) : MoR (rIn K b) := fun _ _ _ _ _ h ⟨p, xs, a, b, c, d, q⟩ => ⟨p, xs, a, b, c, d, h _ _ q⟩
/-- the way out by InvalidText at a place -/
def OutI (C a : Addr) (H : Hp) (E : XK) (s : Nat) : Prop := ∀ d H', KeepBut a H H' → H' d = some (.xd [("place", .int s)]) → E (.ref C) (some d) H'
theorem OutI.of {C a : Addr} {H H1 : Hp} {E : XK} {s : Nat} (h : OutI C a H E s) (k : KeepBut a H H1) : OutI C a H1 E s := fun d H' k' e => h d H' (k.trans k') e
theorem raise_leaf {C a : Addr} {H1 : Hp} {E : XK} {s : Nat} (hs : s ≤ 1000) (h : OutI C a H1 E s) : [V.int (s : Int)].length ≤ 1000 ∧ ∀ x : Addr, H1 x = none → sp_Inv_init C (V.ref x :: ([V.int (s : Int)] ++ [])) (upd H1 x (exo x C none))
    (fun v H2 => v = V.non ∧ ∃ d fs, H2 x = some (exo x C (some d)) ∧ H2 d = some (exd d fs) ∧ H1 d = none ∧ E (Value.ref C) (some d) (upd (del H2 x) d (HO.xd fs))) fun _ _ _ => False := by
  refine ⟨(show 1 ≤ 1000 by decide), fun x hx => ⟨x, s, rfl, hs, upd_same, fun dx hd hda => ⟨rfl, dx, [("place", .int (s : Int))], upd_same, ?_, ?_, ?_⟩⟩⟩
  · rw [upd_ne hda, upd_same]
  · rwa [upd_ne hda] at hd
  · rw [upd_ne hda] at hd
    refine h dx _ (fun c o _ ho => ?_) upd_same
    have c1 : c ≠ dx := fun z => by rw [z, hd] at ho; cases ho
    have c2 : c ≠ x := fun z => by rw [z, hx] at ho; cases ho
    rw [upd_ne c1, del_ne c2, upd_ne c2, upd_ne c1, upd_ne c2]
    exact ho
def sp_integer (C CI : Addr) (K : PySem.W.Frag) : Sp := fun vs H Q E => ∃ (a dx : Addr) (f : Int) (n : Nat) (L : Addr) (T : List Nat) (p : Nat), vs = [.ref a] ∧ Rdr C K H a dx f n L T p ∧
  (∀ s v e, intR T p = .ok (s, v) e → ∀ H' t, KeepBut a H H' → Rdr C K H' a dx f n L T e → H' t = some (.tup [.int (s : Nat), .int (v : Nat)]) → Q (.ref t) H') ∧
  (∀ s, intR T p = .err s → OutI CI a H E s)
theorem ok_Reader_integer (T : Txt K mg) (PF : PFl P T.InvalidText.file) : FnOk P w K mg base (L2.CX P w) 4 T.Reader.f_integer T.Reader.d_integer P_Reader_integer (sp_integer T.Reader.C T.InvalidText.C K) := by
  refine T.Reader.F_integer.okX sc_Reader_integer (fun vs H Q E h => ?_) (fun cdv A outer s H vs Q E hr h => ?_)
  · obtain ⟨a, dx, f, n, L, T, p, rfl, _⟩ := h; rfl
  · obtain ⟨a, dx, f, n, L, X, p, rfl, hR, k1, k2⟩ := h
    refine ⟨_, (pss_cons (ps_expr (pe_meth0 (pv 0) T.Reader.cls T.Reader.m_ahead (ok_Reader_ahead T) (hr.mono (by decide)) (b_Reader_ahead T) .nil pass0))
  (pss_cons (ps_set (i := 1) sc_Reader_integer.nd rfl (Or.inl rfl) (pe_fld (pv 0) rfl))
  (pss_cons (ps_while (passes_of rfl) (pt_cmpR (r := rIn K false) op_in_seq (pe_slice sl_str (pe_fld (pv 0) rfl) (po_some (pe_fld (pv 0) rfl)) (po_some (pe_op op_add (pe_fld (pv 0) rfl) pe_int))) (pe_glob rfl T.g_FIGURES (v := .ref T.aFIGURES) rfl) (by rfl)) (pss_one (ps_fldaug (pv 0) pe_int in_add)))
  (pss_cons (ps_set (i := 2) sc_Reader_integer.nd rfl (Or.inl rfl) (pe_slice sl_str (pe_fld (pv 0) rfl) (po_some (pv 1)) (po_some (pe_fld (pv 0) rfl))))
  (pss_cons (ps_set (i := 3) sc_Reader_integer.nd rfl (Or.inl rfl) (pe_and (pe_cmpR op_gt (pe_callB call_len_str rfl T.n_len bo_len (pa_cons (pv 2) pa_nil)) pe_int (nomark _)) (pe_one (pe_cmpR op_eq (pe_ix ix_str (pv 2) pe_int (fun _ _ => rfl)) pe_str (nomark _)))))
  (pss_cons (ps_if (PW.pt (pw_or (pt_cmpR op_eq (pv 2) pe_str (nomark _)) (pw_or (pt_truth (pv 3) (by intro _; rfl)) (pw_or1 (pt_cmpR op_gt (pe_callB call_len_str rfl T.n_len bo_len (pa_cons (pv 2) pa_nil)) (pe_glob rfl T.g_MOST_FIGURES (v := .int 60) ⟨_, rfl⟩) (nomark _)))))) (pss_one (ps_raise rfl (takes_of rfl rfl rfl rfl) (pmk_oex T.InvalidText.sup.ex T.InvalidText.ini T.InvalidText.tyI (ok_Inv_init T PF) (hr.mono (by decide)) (b_Inv_init T) .nil passL rfl T.InvalidText.g (pa_cons (pv 1) pa_nil)))) pss_nil)
  (pss_one (ps_ret (pe_tup (pa_cons (pv 1) (pa_cons (pe_callTy call_int_str rfl T.n_int bo_int (pa_cons (pv 2) pa_nil)) pa_nil))))))))))), ?_⟩
    have f1 := T.Reader.cls
    have f2 := T.Reader.n_text
    have f3 := T.Reader.n_place
    have hXl := hR.len
    walk_at "rd"
    refine ⟨_, _, _, rfl, hR.ob, rfl, a, dx, f, n, L, X, p, rfl, hR, fun H1 kb1 r1 => ?_⟩
    have hq1 := r1.ob
    walk_at "rf"
    generalize esp : skp X p = sp at *
    have hspl := r1.le
    refine while_by (fun σ H2 => ∃ q, σ = [some (.ref a), some (.int (sp : Int)), none, none] ∧ KeepBut a H1 H2 ∧ H2 a = some (.ins T.Reader.C dx (rdF f L X q)) ∧ q ≤ X.length ∧ fgs X q = fgs X sp) (fun _ H2 => rdM a H2) ⟨sp, rfl, fun _ _ _ e => e, hq1, r1.le, rfl⟩ ?_ ?_
    · rintro σ H2 ⟨q, rfl, kb, hq, hl, hs⟩
      walk_at "rf"
      refine ⟨tx_line (by omega), ?_⟩
      rw [cut_one hl]
      walk_at "rd"
      refine ⟨T.aFIGURES, _, rfl, .inr (T.t_FIGURES _), rfl, by decide, _, rfl, ?_⟩
      rw [if_neg Bool.false_ne_true]
      by_cases hd : ∃ c, X[q]? = some c ∧ digB c = true
      · obtain ⟨c, h1, h2⟩ := hd
        rw [sg_some h1, fig_one, h2]
        have h3 := (List.getElem?_eq_some_iff.mp h1).1
        walk_at "rf"
        refine ⟨_, _, hq, (show 4 < 1000 by decide), ?_⟩
        refine ⟨⟨q + 1, rfl, fun b o nb e => (upd_ne nb).trans (kb b o nb e), ?_, by omega, ?_⟩, ?_⟩
        · rw [upd_same, put_place]; rfl
        · rw [← fgs_step h1 h2, hs]
        · rw [rdM_at (p := q + 1) (by rw [upd_same, put_place]; rfl), rdM_at hq]
          omega
      · have ez : inV (V.str (tx (sg X q))) (figuresV.map V.str) = false := by
          cases e : X[q]? with
          | none => rw [sg_none e]; exact fig_nil
          | some c =>
            rw [sg_some e, fig_one]
            cases z : digB c with
            | true => exact absurd ⟨c, e, z⟩ hd
            | false => rfl
        have h2 : fgs X q = q := fgs_stop fun c e => by
          cases z : digB c with
          | true => exact absurd ⟨c, e, z⟩ hd
          | false => rfl
        rw [hs] at h2
        rw [ez]
        have kb2 : KeepBut a H H2 := kb1.trans kb
        have r2 : Rdr T.Reader.C K H2 a dx f n L X q := hR.mv kb2 hq hl
        walk_at "rf"
        refine ⟨tx_line (by omega), ?_⟩
        rw [cut_tx hspl, ← h2, ← figL_cut]
        walk_at "rf"
        have hdl : (figL X sp).length ≤ 1000 := by rw [figL_len]; have := fgs_le hspl; omega
        have kk : ∀ b : Bool, okI (figL X sp) = b → intR X p = if b = true then .ok (sp, NumText.digitsVal (figL X sp)) (fgs X sp) else .err sp := fun b hb => by
          unfold intR
          rw [esp, hb]
        have hdig := figL_dig X sp
        generalize eds : figL X sp = ds at *
        unfold okI at kk
        refine ⟨tx_line (by omega), ?_⟩
        rw [tx_len]
        walk_at "rd"
        rcases ds with _ | ⟨c, r⟩
        · rw [decide_eq_false (show ¬ (1 : Int) < (([] : List Nat).length : Nat) by decide)]
          walk_at "rd"
          have e0 : intR X p = .err sp := kk false rfl
          exact raise_leaf (by omega) ((k2 sp e0).of kb2)
        · have hl1 : (c :: r).length = r.length + 1 := rfl
          by_cases h1 : 1 < (c :: r).length
          · rw [decide_eq_true (show (1 : Int) < ((c :: r).length : Nat) by omega)]
            walk_at "rd"
            refine ⟨_, _, c, rfl, rfl, tx_line (T := c :: r) (by omega), at_str (T := c :: r) (p := 0) rfl, ?_⟩
            walk_at "rd"
            rw [show (⟨#[c]⟩ : Str) = tx [c] from rfl, s_zero, vstr]
            walk_at "rd"
            refine iteD (fun h48 => ?_) (fun h48 => ?_)
            · have hc : c = 48 := by simpa using h48
              have e0 : intR X p = .err sp := kk false (by rw [decide_eq_true h1, hc]; simp)
              walk_at "rd"
              exact raise_leaf (by omega) ((k2 sp e0).of kb2)
            · have hc : c ≠ 48 := fun z => h48 (by rw [z])
              walk_at "rd"
              refine ⟨tx_line (by omega), ?_⟩
              rw [tx_len]
              walk_at "rd"
              refine iteD (fun h60 => ?_) (fun h60 => ?_)
              · have e0 : intR X p = .err sp := kk false (by rw [decide_eq_false (show ¬ (c :: r).length ≤ 60 by omega)]; simp)
                walk_at "rd"
                exact raise_leaf (by omega) ((k2 sp e0).of kb2)
              · have e0 : intR X p = .ok (sp, NumText.digitsVal (c :: r)) (fgs X sp) := kk true (by rw [decide_eq_true (show (c :: r).length ≤ 60 by omega)]; simp; omega)
                walk_at "rd"
                refine ⟨tx (c :: r), ((NumText.digitsVal (c :: r) : Nat) : Int), rfl, SX.int_S hdig (by simp) (by omega), by rw [tx_len]; omega, ?_⟩
                refine ⟨(show 2 ≤ sizeLine by decide), fun t ht => ?_⟩
                have hta : t ≠ a := fun z => by rw [z, hq] at ht; cases ht
                exact k1 sp _ _ e0 _ t (fun b o nb e => (upd_ne (ne_of_none (kb2 b o nb e) ht)).trans (kb2 b o nb e)) (hR.mv (fun b o nb e => (upd_ne (ne_of_none (kb2 b o nb e) ht)).trans (kb2 b o nb e)) ((upd_ne hta.symm).trans (by rw [h2]; exact hq)) (by rw [h2]; exact hl)) upd_same
          · rw [decide_eq_false (show ¬ (1 : Int) < ((c :: r).length : Nat) by omega)]
            walk_at "rd"
            refine ⟨tx_line (by omega), ?_⟩
            rw [tx_len]
            walk_at "rd"
            refine iteD (fun h60 => ?_) (fun h60 => ?_)
            · have e0 : intR X p = .err sp := kk false (by rw [decide_eq_false (show ¬ (c :: r).length ≤ 60 by omega)]; simp)
              walk_at "rd"
              exact raise_leaf (by omega) ((k2 sp e0).of kb2)
            · have e0 : intR X p = .ok (sp, NumText.digitsVal (c :: r)) (fgs X sp) := kk true (by rw [decide_eq_true (show (c :: r).length ≤ 60 by omega), decide_eq_false h1]; simp)
              walk_at "rd"
              refine ⟨tx (c :: r), ((NumText.digitsVal (c :: r) : Nat) : Int), rfl, SX.int_S hdig (by simp) (by omega), by rw [tx_len]; omega, ?_⟩
              refine ⟨(show 2 ≤ sizeLine by decide), fun t ht => ?_⟩
              have hta : t ≠ a := fun z => by rw [z, hq] at ht; cases ht
              exact k1 sp _ _ e0 _ t (fun b o nb e => (upd_ne (ne_of_none (kb2 b o nb e) ht)).trans (kb2 b o nb e)) (hR.mv (fun b o nb e => (upd_ne (ne_of_none (kb2 b o nb e) ht)).trans (kb2 b o nb e)) ((upd_ne hta.symm).trans (by rw [h2]; exact hq)) (by rw [h2]; exact hl)) upd_same
    · rintro σ H2 Q1 Q2 hQ hc
      refine mo_test (mo_op (mo_in _) (mo_slS (mo_fld (mo_var _)) (mo_part (mo_fld (mo_var _))) (mo_part (mo_op (mo_i0 _) (mo_fld (mo_var _)) (mo_c _)))) (mo_c _)) σ H2 Q1 Q2 hQ hc
end

local macro_rules | `(tactic| walk_at "rf") => `(tactic| repeat (first | walk_at "rd1" | refine ⟨_, _, _, _, _, rfl, (by assumption), (by assumption), (by assumption), rfl, ?_⟩))

/-! ### the reader's exponents, quotients, powers -/
def Keep2 (a b : Addr) (H H' : Hp) : Prop := ∀ x o, x ≠ a → x ≠ b → H x = some o → H' x = some o
def Out2 (C a b : Addr) (H : Hp) (E : XK) (s : Nat) : Prop := ∀ d H', Keep2 a b H H' → H' d = some (.xd [("place", .int s)]) → E (.ref C) (some d) H'
theorem Keep2.of {a b : Addr} {H H' : Hp} (k : KeepBut a H H') : Keep2 a b H H' := fun x o n _ e => k x o n e
theorem Keep2.trans {a b : Addr} {H H1 H2 : Hp} (k : Keep2 a b H H1) (k' : Keep2 a b H1 H2) : Keep2 a b H H2 := fun x o n m e => k' x o n m (k x o n m e)
theorem Out2.out {C a b : Addr} {H H1 : Hp} {E : XK} {s : Nat} (h : Out2 C a b H E s) (k : Keep2 a b H H1) : OutI C a H1 E s := fun d H' k' e => h d H' (k.trans (.of k')) e
section
variable {P : Program} {w : World} {K : PySem.W.Frag} {mg : Str → Option Value} {base : Heap}
def sp_is_zero_in : Sp := fun vs H Q _ => ∃ (f d : Int), vs = [.int f, .int d] ∧ 0 ≤ f ∧ Q (.bl (isZ0 f d)) H
theorem ok_is_zero_in (T : Txt K mg) : FnOk P w K mg base CX0 1 T.is_zero_in.f T.is_zero_in.fd P_is_zero_in sp_is_zero_in := by
  refine T.is_zero_in.F.ok sc_is_zero_in (fun vs H Q E h => ?_) (fun cdv A outer s H vs Q E hr h => ?_)
  · obtain ⟨f, d, rfl, _⟩ := h; rfl
  · obtain ⟨f, d, rfl, hf, k⟩ := h
    refine ⟨_, (pss_one (ps_ret (pe_ifExp (pt_cmpR op_eq (pv 0) pe_int (nomark _)) (pe_cmpR op_eq (pv 1) pe_int (nomark _)) (pe_cmpR op_eq (pe_op op_mod (pv 1) (pv 0)) pe_int (nomark _))))), ?_⟩
    unfold isZ0 at k
    walk_at "rd"
    refine iteV (fun h => ?_) (fun h => ?_)
    · rw [if_pos h] at k
      walk_at "rd"
      rw [vdec]
      exact k
    · rw [if_neg h] at k
      walk_at "rd"
      rw [vdec]
      exact k
def sp_exponent (C CI : Addr) (K : PySem.W.Frag) : Sp := fun vs H Q E => ∃ (a dx : Addr) (f : Int) (n : Nat) (L : Addr) (T : List Nat) (p : Nat), vs = [.ref a] ∧ Rdr C K H a dx f n L T p ∧
  (∀ x e, expR T p = .ok x e → ∀ H', KeepBut a H H' → Rdr C K H' a dx f n L T e → Q (.int (x : Nat)) H') ∧
  (∀ s, expR T p = .err s → OutI CI a H E s)
theorem ok_Reader_exponent (T : Txt K mg) (PF : PFl P T.InvalidText.file) : FnOk P w K mg base (L2.CX P w) 5 T.Reader.f_exponent T.Reader.d_exponent P_Reader_exponent (sp_exponent T.Reader.C T.InvalidText.C K) := by
  refine T.Reader.F_exponent.okX sc_Reader_exponent (fun vs H Q E h => ?_) (fun cdv A outer s H vs Q E hr h => ?_)
  · obtain ⟨a, dx, f, n, L, T, p, rfl, _⟩ := h; rfl
  · obtain ⟨a, dx, f, n, L, X, p, rfl, hR, k1, k2⟩ := h
    refine ⟨_, (pss_cons (ps_asg (pe_meth0 (pv 0) T.Reader.cls T.Reader.m_integer (ok_Reader_integer T PF) (hr.mono (by decide)) (b_Reader_integer T) .nil (passes_call (takes_of rfl rfl rfl rfl) (fun _ _ _ _ h => h))) (pg_tup rfl (pgs_cons (pg_name (i := 1) sc_Reader_exponent.nd rfl (Or.inl rfl)) (pgs_cons (pg_name (i := 2) sc_Reader_exponent.nd rfl (Or.inl rfl)) pgs_nil))))
  (pss_cons (ps_if (pt_cmpR op_gt (pv 2) (pe_glob rfl T.g_MOST_DEGREE (v := .int 60) ⟨_, rfl⟩) (nomark _)) (pss_one (ps_raise rfl (takes_of rfl rfl rfl rfl) (pmk_oex T.InvalidText.sup.ex T.InvalidText.ini T.InvalidText.tyI (ok_Inv_init T PF) (hr.mono (by decide)) (b_Inv_init T) .nil passL rfl T.InvalidText.g (pa_cons (pv 1) pa_nil)))) pss_nil)
  (pss_one (ps_ret (pv 2))))), ?_⟩
    have hXl := hR.len
    walk_at "rd"
    refine ⟨_, _, _, rfl, hR.ob, rfl, a, dx, f, n, L, X, p, rfl, hR, fun s v e hi H1 t kb r1 ht => ?_, fun s hs => k2 s (by unfold expR; rw [hs])⟩
    have hs2 := (intR_ok hi).1
    have hs3 := skp_le hR.le
    refine ⟨t, _, rfl, .inl (.inl ht), rfl, ?_⟩
    walk_at "rd"
    refine iteD (fun h => ?_) (fun h => ?_)
    · have e0 : expR X p = .err s := by
        unfold expR
        rw [hi]
        exact if_pos (by omega)
      walk_at "rd"
      exact raise_leaf (by omega) ((k2 s e0).of kb)
    · have e0 : expR X p = .ok v e := by
        unfold expR
        rw [hi]
        exact if_neg (by omega)
      walk_at "rd"
      exact k1 v e e0 H1 kb r1
def sp_quotient (C CI : Addr) (K : PySem.W.Frag) : Sp := fun vs H Q E => ∃ (a dx : Addr) (f : Int) (n : Nat) (L : Addr) (T : List Nat) (p : Nat), vs = [.ref a] ∧ Rdr C K H a dx f n L T p ∧ 0 ≤ f ∧
  (∀ u l e, quoR f T p = .ok (u, l) e → ∀ H' t, KeepBut a H H' → Rdr C K H' a dx f n L T e → H' t = some (.tup [.int (u : Nat), .int (l : Nat)]) → Q (.ref t) H') ∧
  (∀ s, quoR f T p = .err s → OutI CI a H E s)
theorem ok_Reader_quotient (T : Txt K mg) (PF : PFl P T.InvalidText.file) : FnOk P w K mg base (L2.CX P w) 5 T.Reader.f_quotient T.Reader.d_quotient P_Reader_quotient (sp_quotient T.Reader.C T.InvalidText.C K) := by
  refine T.Reader.F_quotient.okX sc_Reader_quotient (fun vs H Q E h => ?_) (fun cdv A outer s H vs Q E hr h => ?_)
  · obtain ⟨a, dx, f, n, L, T, p, rfl, _⟩ := h; rfl
  · obtain ⟨a, dx, f, n, L, X, p, rfl, hR, hf, k1, k2⟩ := h
    refine ⟨_, (pss_cons (ps_asg (pe_meth0 (pv 0) T.Reader.cls T.Reader.m_integer (ok_Reader_integer T PF) (hr.mono (by decide)) (b_Reader_integer T) .nil (passes_call (takes_of rfl rfl rfl rfl) (fun _ _ _ _ h => h))) (pg_tup rfl (pgs_cons (pg_name (i := 1) sc_Reader_quotient.nd rfl (Or.inl rfl)) (pgs_cons (pg_name (i := 2) sc_Reader_quotient.nd rfl (Or.inl rfl)) pgs_nil))))
  (pss_cons (ps_if (pt_not (pt_val (pe_meth (pv 0) T.Reader.cls T.Reader.m_passes (ok_Reader_passes T) (hr.mono (by decide)) (b_Reader_passes T) .nil pass0 (pa_cons pe_str pa_nil)))) (pss_one (ps_ret (pe_tup (pa_cons (pv 2) (pa_cons pe_int pa_nil))))) pss_nil)
  (pss_cons (ps_asg (pe_meth0 (pv 0) T.Reader.cls T.Reader.m_integer (ok_Reader_integer T PF) (hr.mono (by decide)) (b_Reader_integer T) .nil (passes_call (takes_of rfl rfl rfl rfl) (fun _ _ _ _ h => h))) (pg_tup rfl (pgs_cons (pg_name (i := 3) sc_Reader_quotient.nd rfl (Or.inl rfl)) (pgs_cons (pg_name (i := 4) sc_Reader_quotient.nd rfl (Or.inl rfl)) pgs_nil))))
  (pss_cons (ps_if (pt_val (pe_call (ok_is_zero_in T) (hr.mono (by decide)) rfl T.is_zero_in.g T.is_zero_in.F.kp (b_is_zero_in T) .nil pass0 (pa_cons (pe_fld (pv 0) rfl) (pa_cons (pv 4) pa_nil)))) (pss_one (ps_raise rfl (takes_of rfl rfl rfl rfl) (pmk_oex T.InvalidText.sup.ex T.InvalidText.ini T.InvalidText.tyI (ok_Inv_init T PF) (hr.mono (by decide)) (b_Inv_init T) .nil passL rfl T.InvalidText.g (pa_cons (pv 3) pa_nil)))) pss_nil)
  (pss_one (ps_ret (pe_tup (pa_cons (pv 2) (pa_cons (pv 4) pa_nil))))))))), ?_⟩
    have f1 := T.Reader.cls
    have f2 := T.Reader.n_field
    have hXl := hR.len
    walk_at "rd"
    refine ⟨_, _, _, rfl, hR.ob, rfl, a, dx, f, n, L, X, p, rfl, hR, fun s v e hi H1 t kb r1 ht => ?_, fun s hs => k2 s (by unfold quoR; rw [hs])⟩
    unfold quoR at k1 k2
    rw [hi] at k1 k2
    dsimp only at k1 k2
    refine ⟨t, _, rfl, .inl (.inl ht), rfl, ?_⟩
    walk_at "rd"
    refine ⟨_, _, _, rfl, r1.ob, rfl, ?_⟩
    walk_at "rd"
    refine ⟨a, dx, f, n, L, X, e, 47, congrArg (fun z => [V.ref a, V.str z]) s_slash, r1, fun H2 kb2 r2 => ?_⟩
    refine ⟨_, rfl, ?_⟩
    cases hb : pasB X e 47 with
    | false =>
      rw [hb, if_neg Bool.false_ne_true] at k1
      walk_at "rd"
      refine ⟨(show 2 ≤ sizeLine by decide), fun t2 ht2 => ?_⟩
      have s3 := same_upd (o := .tup [V.int (v : Int), V.int 1]) ht2
      have kb3 : KeepBut a H (upd H2 t2 (.tup [V.int (v : Int), V.int 1])) := (kb.trans kb2).trans (.of s3)
      exact k1 v 1 _ rfl _ t2 kb3 (r2.mv (.of s3) (s3 _ _ r2.ob) r2.le) upd_same
    | true =>
      rw [hb, if_pos rfl] at k1 k2
      walk_at "rd"
      refine ⟨_, _, _, rfl, r2.ob, rfl, a, dx, f, n, L, X, pasP X e 47, rfl, r2, fun s2 v2 e2 hi2 H3 t3 kb3 r3 ht3 => ?_, fun s2 hs2 => OutI.of (k2 s2 (by rw [hs2])) (kb.trans kb2)⟩
      have hs4 := (intR_ok hi2).1
      have hs5 := skp_le r2.le
      rw [hi2] at k1 k2
      dsimp only at k1 k2
      have hq := r3.ob
      refine ⟨t3, _, rfl, .inl (.inl ht3), rfl, ?_⟩
      walk_at "rf"
      refine ⟨hf, ?_⟩
      refine ⟨_, rfl, ?_⟩
      have kb13 := (kb.trans kb2).trans kb3
      cases hz : isZ0 f (v2 : Int) with
      | true =>
        rw [hz, if_pos rfl] at k2
        walk_at "rd"
        exact raise_leaf (by omega) ((k2 s2 rfl).of kb13)
      | false =>
        rw [hz, if_neg Bool.false_ne_true] at k1
        walk_at "rd"
        refine ⟨(show 2 ≤ sizeLine by decide), fun t2 ht2 => ?_⟩
        have s3 := same_upd (o := .tup [V.int (v : Int), V.int (v2 : Int)]) ht2
        exact k1 v v2 _ rfl _ t2 (kb13.trans (.of s3)) (r3.mv (.of s3) (s3 _ _ r3.ob) r3.le) upd_same
end

local macro_rules | `(tactic| walk_at "rf") => `(tactic| repeat (first | walk_at "rd1" | refine ⟨_, _, _, _, _, rfl, (by assumption), (by assumption), (by assumption), rfl, ?_⟩))

/-! ### the reader's powers -/
theorem ltt_ok {n : Nat} {T : List Nat} {p i : Nat} (h : lttI n T p = some i) : ∃ c, T[p]? = some c ∧ (ltrs n)[i]? = some c ∧ ∀ m, m < i → (ltrs n)[m]? ≠ some c := by
  unfold lttI at h
  obtain ⟨c, hc, hi⟩ := Option.bind_eq_some_iff.mp h
  obtain ⟨h1, h2, h3⟩ := List.findIdx?_eq_some_iff_getElem.mp hi
  refine ⟨c, hc, ?_, fun m hm e => ?_⟩
  · rw [List.getElem?_eq_getElem h1]
    exact congrArg some (of_decide_eq_true h2)
  · have h4 := h3 m hm
    obtain ⟨h5, h6⟩ := List.getElem?_eq_some_iff.mp e
    rw [h6] at h4
    simp at h4
theorem ltt_lt {n : Nat} {T : List Nat} {p i : Nat} (h : lttI n T p = some i) : i < n := by
  obtain ⟨c, _, h2, _⟩ := ltt_ok h
  have := (List.getElem?_eq_some_iff.mp h2).1
  unfold ltrs at this
  rw [List.length_take] at this
  omega
theorem ixN_of {n j : Nat} (h : j < n) : ixN n (j : Int) = some j := by
  unfold ixN
  rw [if_pos (by omega)]
  simp
  omega
theorem map_tx {l : List Nat} {i c : Nat} (h : l[i]? = some c) : (l.map fun c => tx [c])[i]? = some (tx [c]) := by rw [List.getElem?_map, h]; rfl
section
variable {P : Program} {w : World} {K : PySem.W.Frag} {mg : Str → Option Value} {base : Heap}
def sp_power (C CI : Addr) (K : PySem.W.Frag) : Sp := fun vs H Q E => ∃ (a dx : Addr) (f : Int) (n : Nat) (L : Addr) (T : List Nat) (p : Nat) (le : Addr) (es : List Int) (i : Nat), vs = [.ref a, .ref le] ∧ Rdr C K H a dx f n L T p ∧ H le = some (.lst (es.map V.int)) ∧ es.length = n ∧ lttI n T p = some i ∧
  (∀ es' e, powR T p i es = .ok es' e → ∀ H', Keep2 a le H H' → H' le = some (.lst (es'.map V.int)) → Rdr C K H' a dx f n L T e → Q .non H') ∧
  (∀ s, powR T p i es = .err s → Out2 CI a le H E s)
theorem ok_Reader_power (T : Txt K mg) (PF : PFl P T.InvalidText.file) : FnOk P w K mg base (L2.CX P w) 6 T.Reader.f_power T.Reader.d_power P_Reader_power (sp_power T.Reader.C T.InvalidText.C K) := by
  refine T.Reader.F_power.okX sc_Reader_power (fun vs H Q E h => ?_) (fun cdv A outer s H vs Q E hr h => ?_)
  · obtain ⟨a, dx, f, n, L, T, p, le, es, i, rfl, _⟩ := h; rfl
  · obtain ⟨a, dx, f, n, L, X, p, le, es, i, rfl, hR, hle, hel, hi, k1, k2⟩ := h
    refine ⟨_, (pss_cons (ps_set (i := 2) sc_Reader_power.nd rfl (Or.inl rfl) (pe_fld (pv 0) rfl))
  (pss_cons (ps_set (i := 3) sc_Reader_power.nd rfl (Or.inl rfl) (pe_tupIx mt_tup_index (pe_fld (pv 0) rfl) (pe_ix ix_str (pe_fld (pv 0) rfl) (pv 2) (fun _ _ => rfl))))
  (pss_cons (ps_fldaug (pv 0) pe_int in_add)
  (pss_cons (ps_augS (pv 1) (pv 3) pget_list (pe_ifExp (pt_val (pe_meth (pv 0) T.Reader.cls T.Reader.m_passes (ok_Reader_passes T) (hr.mono (by decide)) (b_Reader_passes T) .nil pass0 (pa_cons pe_str pa_nil))) (pe_meth0 (pv 0) T.Reader.cls T.Reader.m_exponent (ok_Reader_exponent T PF) (hr.mono (by decide)) (b_Reader_exponent T) .nil (passes_call (takes_of rfl rfl rfl rfl) (fun _ _ _ _ h => h))) pe_int) ip_add set_list)
  (pss_one (ps_if (pt_cmpR op_gt (pe_callB (r := rSumS K) (cr_sumS rfl) rfl T.n_sum bo_sum (pa_cons (pv 1) pa_nil)) (pe_glob rfl T.g_MOST_DEGREE (v := .int 60) ⟨_, rfl⟩) (nomark _)) (pss_one (ps_raise rfl (takes_of rfl rfl rfl rfl) (pmk_oex T.InvalidText.sup.ex T.InvalidText.ini T.InvalidText.tyI (ok_Inv_init T PF) (hr.mono (by decide)) (b_Inv_init T) .nil passL rfl T.InvalidText.g (pa_cons (pv 2) pa_nil)))) pss_nil)))))), ?_⟩
    have f1 := T.Reader.cls
    have f2 := T.Reader.n_text
    have f3 := T.Reader.n_place
    have f4 := T.Reader.n_letters
    have hXl := hR.len
    have hq := hR.ob
    obtain ⟨c, hc, hli, hlm⟩ := ltt_ok hi
    have hin := ltt_lt hi
    have hpl := (List.getElem?_eq_some_iff.mp hc).1
    have nla : le ≠ a := fun z => by rw [z, hq] at hle; cases hle
    walk_at "rf"
    refine ⟨⟨L, _, rfl, hR.lt⟩, ?_⟩
    walk_at "rf"
    refine ⟨_, _, c, rfl, rfl, tx_line (by omega), at_str hc, ?_⟩
    refine ⟨L, _, tx [c], i, rfl, rfl, hR.lt.sqt, map_tx hli, fun m hm e => ?_, ?_⟩
    · rw [List.getElem?_map] at e
      obtain ⟨d, h1, h2⟩ := Option.map_eq_some_iff.mp e
      have h3 := tx_inj h2
      have h4 : d = c := by simpa using h3
      exact hlm m hm (by rw [h1, h4])
    walk_at "rf"
    refine ⟨_, _, hq, (show 4 < 1000 by decide), ?_⟩
    obtain ⟨H1, eH1⟩ : ∃ H1, H1 = upd H a (.ins T.Reader.C dx (putF "place" (V.int ((p : Nat) + 1)) (rdF f L X p))) := ⟨_, rfl⟩
    rw [← eH1]
    have hq1 : H1 a = some (.ins T.Reader.C dx (rdF f L X (p + 1))) := by rw [eH1, upd_same, put_place]; rfl
    have kb1 : KeepBut a H H1 := fun b o nb e => by rw [eH1, upd_ne nb]; exact e
    have r1 : Rdr T.Reader.C K H1 a dx f n L X (p + 1) := hR.mv kb1 hq1 (by omega)
    have hle1 := kb1 _ _ nla hle
    have hei : es[i]? = some (es.getD i 0) := by rw [List.getD_eq_getElem?_getD, List.getElem?_eq_getElem (by omega)]; rfl
    have hev : (es.map V.int)[i]? = some (V.int (es.getD i 0)) := by rw [List.getElem?_map, hei]; rfl
    walk_at "rd"
    refine ⟨le, _, _, _, rfl, rfl, .inl (.inl hle1), atI_nat hev, ?_⟩
    walk_at "rd"
    refine ⟨_, _, _, rfl, hq1, rfl, ?_⟩
    walk_at "rd"
    refine ⟨a, dx, f, n, L, X, p + 1, 94, congrArg (fun z => [V.ref a, V.str z]) s_hat, r1, fun H2 kb2 r2 => ?_⟩
    have hle2 := kb2 _ _ nla hle1
    unfold powR at k1 k2
    cases hb : pasB X (p + 1) 94 with
    | true =>
      rw [hb, if_pos rfl] at k1 k2
      refine ⟨_, rfl, ?_⟩
      walk_at "rd"
      refine ⟨_, _, _, rfl, r2.ob, rfl, a, dx, f, n, L, X, pasP X (p + 1) 94, rfl, r2, fun x e hx H3 kb3 r3 => ?_, fun s hs => (k2 s (by rw [hs])).out (.of (kb1.trans kb2))⟩
      have hle3 := kb3 _ _ nla hle2
      have kb13 := (kb1.trans kb2).trans kb3
      rw [hx] at k1 k2
      dsimp only at k1 k2
      walk_at "rd"
      refine ⟨le, _, _, i, rfl, rfl, hle3, ixN_of (by rw [List.length_map]; omega), ?_⟩
      have eset : (es.map V.int).set i (V.int (es.getD i 0 + (x : Int))) = (addE es i x).map V.int := by unfold addE; rw [← List.map_set]
      rw [eset]
      walk_at "rd"
      refine ⟨le, _, rfl, .inl (.inl (.inl upd_same)), ?_⟩
      have kl : Keep2 a le H (upd H3 le (.lst ((addE es i x).map V.int))) := fun b o nb nb2 e => (upd_ne nb2).trans (kb13 b o nb e)
      walk_at "rd"
      refine iteD (fun h60 => ?_) (fun h60 => ?_)
      · walk_at "rd"
        refine raise_leaf (by omega) ((k2 p (if_pos (by omega))).out kl)
      · walk_at "rd"
        exact k1 _ _ (if_neg (by omega)) _ kl upd_same (r3.mvL (fun o xs e => (upd_ne fun z => by rw [z, hle3] at e; cases e).trans e) ((upd_ne nla.symm).trans r3.ob) r3.le)
    | false =>
      rw [hb, if_neg Bool.false_ne_true] at k1 k2
      refine ⟨_, rfl, ?_⟩
      walk_at "rd"
      have kb13 := kb1.trans kb2
      walk_at "rd"
      refine ⟨le, _, _, i, rfl, rfl, hle2, ixN_of (by rw [List.length_map]; omega), ?_⟩
      have eset : (es.map V.int).set i (V.int (es.getD i 0 + (1 : Int))) = (addE es i 1).map V.int := by unfold addE; rw [← List.map_set]; rfl
      rw [eset]
      walk_at "rd"
      refine ⟨le, _, rfl, .inl (.inl (.inl upd_same)), ?_⟩
      have kl : Keep2 a le H (upd H2 le (.lst ((addE es i 1).map V.int))) := fun b o nb nb2 e => (upd_ne nb2).trans (kb13 b o nb e)
      walk_at "rd"
      refine iteD (fun h60 => ?_) (fun h60 => ?_)
      · walk_at "rd"
        refine raise_leaf (by omega) ((k2 p (if_pos (by omega))).out kl)
      · walk_at "rd"
        exact k1 _ _ (if_neg (by omega)) _ kl upd_same (r2.mvL (fun o xs e => (upd_ne fun z => by rw [z, hle2] at e; cases e).trans e) ((upd_ne nla.symm).trans r2.ob) r2.le)
end

/-! ### how large what is read is -/
theorem dv_lt : ∀ (l : List Nat), (l.all fun c => decide (48 ≤ c) && decide (c ≤ 57)) = true → NumText.digitsVal l < 10 ^ l.length := by
  have key : ∀ (l : List Nat) (a : Nat), (l.all fun c => decide (48 ≤ c) && decide (c ≤ 57)) = true → l.foldl (fun a c => a * 10 + (c - 48)) a < (a + 1) * 10 ^ l.length := by
    intro l
    induction l with
    | nil => intro a _; simp
    | cons c l ih =>
      intro a h
      rw [List.all_cons, Bool.and_eq_true] at h
      have h1 := h.1
      rw [Bool.and_eq_true, decide_eq_true_eq, decide_eq_true_eq] at h1
      have := ih (a * 10 + (c - 48)) h.2
      rw [List.foldl_cons]
      refine Nat.lt_of_lt_of_le this ?_
      rw [List.length_cons, Nat.pow_succ, Nat.mul_comm (10 ^ l.length) 10, ← Nat.mul_assoc]
      exact Nat.mul_le_mul_right _ (by omega)
  intro l h
  have := key l 0 h
  rw [Nat.zero_add, Nat.one_mul] at this
  exact this
def wt (n d : Int) : Nat := n.natAbs + d.natAbs
theorem wt_mul (n d u l : Int) : wt (n * u) (d * l) ≤ wt n d * wt u l := by
  unfold wt
  rw [Int.natAbs_mul, Int.natAbs_mul, Nat.add_mul, Nat.mul_add, Nat.mul_add]
  omega
theorem ten_pos (k : Nat) : 1 ≤ 10 ^ k := Nat.one_le_pow _ _ (by decide)
theorem ten_two {a b : Nat} (ha : 1 ≤ a) (hb : 1 ≤ b) : 10 ^ a + 10 ^ b ≤ 10 ^ (a + b) := by
  have e1 : 10 ^ a = 10 ^ (a - 1) * 10 := by rw [← Nat.pow_succ]; congr 1; omega
  have e2 : 10 ^ b = 10 ^ (b - 1) * 10 := by rw [← Nat.pow_succ]; congr 1; omega
  rw [Nat.pow_add]
  have h1 := ten_pos (a - 1)
  have h2 := ten_pos (b - 1)
  generalize 10 ^ a = x at *
  generalize 10 ^ b = y at *
  have hx : 10 ≤ x := by omega
  have hy : 10 ≤ y := by omega
  have h3 : x * 10 ≤ x * y := Nat.mul_le_mul_left _ hy
  have h4 : 10 * y ≤ x * y := Nat.mul_le_mul_right _ hx
  omega
theorem intR_val {T : List Nat} {p s n e : Nat} (h : intR T p = .ok (s, n) e) : n < 10 ^ (e - p) ∧ p < e := by
  obtain ⟨h1, _, h3, h4, h5⟩ := intR_ok h
  have h6 := dv_lt _ (figL_dig T s)
  rw [← h3, figL_len, ← h4] at h6
  have h7 := skp_ge T p
  refine ⟨Nat.lt_of_lt_of_le h6 (Nat.pow_le_pow_right (by decide) (by omega)), by omega⟩
theorem quoR_val {f : Int} {T : List Nat} {p u l e : Nat} (h : quoR f T p = .ok (u, l) e) : wt (u : Int) (l : Int) ≤ 10 ^ (e - p) ∧ (f = 0 → l ≠ 0) := by
  unfold quoR at h
  cases hi : intR T p with
  | err s => rw [hi] at h; cases h
  | ok y q =>
    obtain ⟨s, n⟩ := y
    rw [hi] at h
    obtain ⟨v1, v2⟩ := intR_val hi
    have l3 := pasP_ge T q 47
    by_cases c : pasB T q 47 = true
    · simp only [if_pos c] at h
      cases hj : intR T (pasP T q 47) with
      | err s => rw [hj] at h; cases h
      | ok y q2 =>
        obtain ⟨s2, d⟩ := y
        rw [hj] at h
        obtain ⟨v3, v4⟩ := intR_val hj
        by_cases z : isZ0 f d = true
        · simp only [if_pos z] at h; cases h
        · simp only [if_neg z] at h
          cases h
          refine ⟨?_, fun f0 d0 => z ?_⟩
          · have := ten_two (a := q - p) (b := e - pasP T q 47) (by omega) (by omega)
            have h4 : 10 ^ (q - p + (e - pasP T q 47)) ≤ 10 ^ (e - p) := Nat.pow_le_pow_right (by decide) (by omega)
            unfold wt
            rw [Int.natAbs_natCast, Int.natAbs_natCast]
            omega
          · unfold isZ0
            rw [if_pos f0, d0]
            rfl
    · simp only [if_neg c] at h
      cases h
      refine ⟨?_, fun _ z => by cases z⟩
      have h4 : 10 ^ (q - p) ≤ 10 ^ (pasP T q 47 - p) := Nat.pow_le_pow_right (by decide) (by omega)
      unfold wt
      rw [Int.natAbs_natCast]
      show u + 1 ≤ _
      omega
/-- exponents that can be passed -/
def EsOk (n : Nat) (es : List Int) : Prop := es.length = n ∧ (∀ e ∈ es, 0 ≤ e) ∧ es.sum ≤ 60
theorem addE_ok {n i k : Nat} {es : List Int} (h : EsOk n es) (hs : (addE es i k).sum ≤ 60) : EsOk n (addE es i k) := by
  refine ⟨by unfold addE; rw [List.length_set]; exact h.1, fun e he => ?_, hs⟩
  unfold addE at he
  rcases List.mem_or_eq_of_mem_set he with h1 | rfl
  · exact h.2.1 e h1
  · have : 0 ≤ es.getD i 0 := by
      rw [List.getD_eq_getElem?_getD]
      cases e : es[i]? with
      | none => exact Int.le_refl _
      | some x => exact h.2.1 x (List.mem_of_getElem? e)
    omega
structure StOk (f : Int) (n : Nat) (st : St3) (B : Nat) : Prop where
  w : wt st.1 st.2.1 ≤ B
  z : st.2.1 ≠ 0 ∨ f ≠ 0
  es : EsOk n st.2.2
theorem StOk.le {f : Int} {n : Nat} {st : St3} {B B' : Nat} (h : StOk f n st B) (hb : B ≤ B') : StOk f n st B' := ⟨Nat.le_trans h.w hb, h.z, h.es⟩
theorem facR_st {f : Int} {n : Nat} {T : List Nat} {p q B : Nat} {st st' : St3} (hp : p ≤ T.length) (h : facR f n T p st = .ok st' q) (s : StOk f n st B) : StOk f n st' (B * 10 ^ (q - p)) := by
  have hle := facR_le hp h
  unfold facR at h
  have l1 := skp_ge T p
  cases hl : lttI n T (skp T p) with
  | some i =>
    rw [hl] at h
    have hlt : skp T p < T.length := by
      unfold lttI at hl
      cases e : T[skp T p]? with
      | none => rw [e] at hl; cases hl
      | some c => exact (List.getElem?_eq_some_iff.mp e).1
    cases hj : powR T (skp T p) i st.2.2 with
    | err s => simp only [hj] at h; cases h
    | ok es q2 =>
      simp only [hj] at h
      cases h
      obtain ⟨_, _, h3, k, _, rfl⟩ := powR_le hlt hj
      exact ⟨Nat.le_trans s.w (Nat.le_mul_of_pos_right _ (ten_pos _)), s.z, addE_ok s.es h3⟩
  | none =>
    rw [hl] at h
    cases hj : quoR f T (skp T p) with
    | err s => simp only [hj] at h; cases h
    | ok x q2 =>
      obtain ⟨u, l⟩ := x
      simp only [hj] at h
      cases h
      obtain ⟨v1, v2⟩ := quoR_val hj
      have h4 : 10 ^ (q - skp T p) ≤ 10 ^ (q - p) := Nat.pow_le_pow_right (by decide) (by omega)
      refine ⟨Nat.le_trans (wt_mul _ _ _ _) (Nat.mul_le_mul s.w (Nat.le_trans v1 h4)), ?_, s.es⟩
      by_cases f0 : f = 0
      · refine .inl ?_
        have h5 := v2 f0
        exact Int.mul_ne_zero (s.z.resolve_right fun z => z f0) (by omega)
      · exact .inr f0
theorem termR_st {f : Int} {n : Nat} {T : List Nat} : ∀ {g p q B : Nat} {st st' : St3}, p ≤ T.length → termR f n T g p st = .ok st' q → StOk f n st B → StOk f n st' (B * 10 ^ (q - p))
  | 0, _, _, _, _, _, _, h, _ => by cases h
  | g + 1, p, q, B, st, st', hp, h, s => by
    unfold termR at h
    cases hj : facR f n T p st with
    | err s => rw [hj] at h; cases h
    | ok x q2 =>
      rw [hj] at h
      have l1 := facR_le hp hj
      have l2 := pasP_le (c := 42) l1.2
      have l3 := pasP_ge T q2 42
      have s1 := facR_st hp hj s
      by_cases c : pasB T q2 42 = true
      · simp only [if_pos c] at h
        have l4 := termR_le l2 h
        refine (termR_st l2 h s1).le ?_
        rw [Nat.mul_assoc, ← Nat.pow_add]
        exact Nat.mul_le_mul_left _ (Nat.pow_le_pow_right (by decide) (by omega))
      · simp only [if_neg c] at h
        cases h
        exact s1.le (Nat.mul_le_mul_left _ (Nat.pow_le_pow_right (by decide) (by omega)))
theorem st0_ok (f : Int) (n : Nat) (b : Bool) : StOk f n (st0 n b) 2 := by
  refine ⟨by cases b <;> simp [wt, st0], .inl (show (1 : Int) ≠ 0 by decide), List.length_replicate, fun e he => ?_, ?_⟩
  · rw [(List.mem_replicate.mp he).2]; exact Int.le_refl _
  · show (List.replicate n (0 : Int)).sum ≤ 60
    have : (List.replicate n (0 : Int)).sum = 0 := by
      induction n with
      | zero => rfl
      | succ n ih => rw [List.replicate_succ, List.sum_cons, ih]; rfl
    omega
theorem oneR_st {f : Int} {n : Nat} {T : List Nat} {p q : Nat} {st : St3} (hp : p ≤ T.length) (h : oneR f n T p = .ok st q) : StOk f n st (2 * 10 ^ (q - sgnP T p)) ∧ sgnP T p < q ∧ q ≤ T.length := by
  have h1 := sgnP_le hp
  exact ⟨termR_st h1 h (st0_ok f n _), termR_le h1 h⟩

/-! ### sums of what is read can be passed -/
def tmO (f : Int) (st : St3) : Tm := (mkN f st.1 st.2.1, st.2.2)
def Wq (x : Int × Int) : Nat := wt x.1 x.2
theorem low_wt (n : Int) {d : Int} (hd : d ≠ 0) : Wq (lowQ n d) ≤ wt n d := by
  obtain ⟨_, _, _, h1, h2⟩ := low_spec n hd
  unfold Wq wt
  omega
theorem addN_wt {a b : Int × Int} (ha : a.2 ≠ 0) (hb : b.2 ≠ 0) : Wq (addN 0 a b) ≤ Wq a * Wq b := by
  have e : addN 0 a b = lowQ (a.1 * b.2 + b.1 * a.2) (a.2 * b.2) := if_pos rfl
  rw [e]
  refine Nat.le_trans (low_wt _ (Int.mul_ne_zero ha hb)) ?_
  unfold Wq wt
  have h1 := Int.natAbs_add_le (a.1 * b.2) (b.1 * a.2)
  rw [Int.natAbs_mul, Int.natAbs_mul] at h1
  rw [Int.natAbs_mul a.2 b.2, Nat.add_mul, Nat.mul_add, Nat.mul_add]
  have e1 : b.1.natAbs * a.2.natAbs = a.2.natAbs * b.1.natAbs := Nat.mul_comm _ _
  have e2 : 0 ≤ a.1.natAbs * b.1.natAbs := Nat.zero_le _
  omega
/-- in lowest terms, of at most a weight -/
def Lw (M : Nat) (x : Int × Int) : Prop := Wq x ≤ M ∧ 0 < x.2 ∧ Nat.gcd x.1.natAbs x.2.natAbs = 1
theorem Lw.le {M M' : Nat} {x : Int × Int} (h : Lw M x) (l : M ≤ M') : Lw M' x := ⟨Nat.le_trans h.1 l, h.2⟩
theorem Lw.ok {M : Nat} {x : Int × Int} (h : Lw M x) (hM : M < NBn) : NumOk 0 x := by
  have h1 := h.1
  have h2 := h.2.1
  unfold Wq wt at h1
  unfold NumOk
  rw [if_pos rfl]
  exact ⟨by omega, h2, by omega, h.2.2⟩
theorem low_lw (n : Int) {d : Int} (hd : d ≠ 0) : Lw (wt n d) (lowQ n d) := by
  obtain ⟨h1, h2, _⟩ := low_spec n hd
  exact ⟨low_wt n hd, h1, h2⟩
theorem addN_lw {M N : Nat} {a b : Int × Int} (ha : Lw M a) (hb : Lw N b) : Lw (M * N) (addN 0 a b) := by
  have a2 : a.2 ≠ 0 := by have := ha.2.1; omega
  have b2 : b.2 ≠ 0 := by have := hb.2.1; omega
  have e : addN 0 a b = lowQ (a.1 * b.2 + b.1 * a.2) (a.2 * b.2) := if_pos rfl
  obtain ⟨h1, h2, _⟩ := low_spec (a.1 * b.2 + b.1 * a.2) (Int.mul_ne_zero a2 b2)
  refine ⟨Nat.le_trans (addN_wt a2 b2) (Nat.mul_le_mul ha.1 hb.1), ?_, ?_⟩
  · rw [e]; exact h1
  · rw [e]; exact h2
theorem Lw.pos {M : Nat} {x : Int × Int} (h : Lw M x) : 1 ≤ M := by
  have h1 := h.1
  have h2 := h.2.1
  unfold Wq wt at h1
  omega
theorem getM_in {al : Al2} {m : List Int} {x : Int × Int} (h : getM al m = some x) : (m, x) ∈ al := by
  induction al with
  | nil => cases h
  | cons e al ih =>
    unfold getM at h
    by_cases c : e.1 = m
    · rw [if_pos c] at h
      have : e.2 = x := Option.some.inj h
      rw [← c, ← this]
      exact List.mem_cons_self
    · rw [if_neg c] at h
      exact List.mem_cons_of_mem _ (ih h)
theorem fold_lw : ∀ (ts : List Tm) (Bs : List Nat) (al : Al2) (M : Nat), 1 ≤ M → (∀ e ∈ al, Lw M e.2) → List.length Bs = ts.length → (∀ (i : Nat) (t : Tm) (B : Nat), ts[i]? = some t → Bs[i]? = some B → Lw B t.1) → ∀ e ∈ ts.foldl (addT 0) al, Lw (M * Bs.foldl (· * ·) 1) e.2
  | [], [], al, M, _, h, _, _ => fun e he => by
    have := h e he
    simpa using this
  | [], _ :: _, _, _, _, _, hl, _ => by simp at hl
  | _ :: _, [], _, _, _, _, hl, _ => by simp at hl
  | t :: ts, B :: Bs, al, M, hM, h, hl, hB => by
    have hb := hB 0 t B rfl rfl
    have hb1 := hb.pos
    have step : ∀ e ∈ addT 0 al t, Lw (M * B) e.2 := fun e he => by
      unfold addT at he
      rcases mem_putM he with h1 | rfl
      · exact (h e h1).le (Nat.le_mul_of_pos_right _ hb1)
      · cases g : getM al t.2 with
        | none => exact hb.le (Nat.le_mul_of_pos_left _ hM)
        | some y => exact addN_lw (h _ (getM_in g)) hb
    have := fold_lw ts Bs (addT 0 al t) (M * B) (Nat.le_trans hM (Nat.le_mul_of_pos_right _ hb1)) step (by simpa using hl) fun i u C h1 h2 => hB (i + 1) u C (by simpa using h1) (by simpa using h2)
    intro e he
    refine (this e he).le (Nat.le_of_eq ?_)
    rw [List.foldl_cons, Nat.one_mul]
    have key : ∀ (l : List Nat) (x : Nat), l.foldl (· * ·) x = x * l.foldl (· * ·) 1 := by
      intro l
      induction l with
      | nil => intro x; simp
      | cons y l ih => intro x; rw [List.foldl_cons, List.foldl_cons, ih, ih (1 * y), Nat.one_mul, Nat.mul_assoc]
    rw [key Bs B, Nat.mul_assoc]
/-- numbers modulo a prime -/
theorem fold_p {f : Int} (hf : f ≠ 0) (h0 : 0 < f) : ∀ (ts : List Tm) (al : Al2), (∀ e ∈ al, NumOk f e.2) → (∀ t ∈ ts, NumOk f t.1) → ∀ e ∈ ts.foldl (addT f) al, NumOk f e.2
  | [], _, h, _ => h
  | t :: ts, al, h, g => fold_p hf h0 ts _ (fun e he => by
      unfold addT at he
      rcases mem_putM he with h1 | rfl
      · exact h e h1
      · cases q : getM al t.2 with
        | none => exact g t List.mem_cons_self
        | some y =>
          show NumOk f (addN f y t.1)
          unfold NumOk addN
          rw [if_neg hf, if_neg hf]
          exact ⟨Int.emod_nonneg _ hf, Int.emod_lt_of_pos _ h0, rfl⟩) fun u hu => g u (List.mem_cons_of_mem _ hu)
theorem mkN_p {f : Int} (hf : f ≠ 0) (h0 : 0 < f) (n d : Int) : NumOk f (mkN f n d) := by
  unfold NumOk mkN
  rw [if_neg hf, if_neg hf]
  exact ⟨Int.emod_nonneg _ hf, Int.emod_lt_of_pos _ h0, rfl⟩
theorem foldl_take_le : ∀ (l : List Nat) (k : Nat), (∀ x ∈ l, 1 ≤ x) → (l.take k).foldl (· * ·) 1 ≤ l.foldl (· * ·) 1 := by
  have key : ∀ (l : List Nat) (x : Nat), l.foldl (· * ·) x = x * l.foldl (· * ·) 1 := by
    intro l
    induction l with
    | nil => intro x; simp
    | cons y l ih => intro x; rw [List.foldl_cons, List.foldl_cons, ih, ih (1 * y), Nat.one_mul, Nat.mul_assoc]
  have pos : ∀ l : List Nat, (∀ x ∈ l, 1 ≤ x) → 1 ≤ l.foldl (· * ·) 1 := by
    intro l
    induction l with
    | nil => intro _; exact Nat.le_refl _
    | cons y l ih =>
      intro h
      rw [List.foldl_cons, key, Nat.one_mul]
      exact Nat.mul_le_mul (h y List.mem_cons_self) (ih fun x hx => h x (List.mem_cons_of_mem _ hx))
  intro l
  induction l with
  | nil => intro k _; simp
  | cons y l ih =>
    intro k h
    cases k with
    | zero => exact pos _ h
    | succ k =>
      rw [List.take_succ_cons, List.foldl_cons, List.foldl_cons, key, key l]
      exact Nat.mul_le_mul_left _ (ih k fun x hx => h x (List.mem_cons_of_mem _ hx))
/-- the terms read so far, their weights behind one another at most 10 ^ B -/
structure LsOk (f : Int) (n : Nat) (l : List St3) (B : Nat) : Prop where
  bs : ∃ Bs : List Nat, Bs.length = l.length ∧ (∀ (i : Nat) (st : St3) (b : Nat), l[i]? = some st → Bs[i]? = some b → StOk f n st b) ∧ (∀ b ∈ Bs, 1 ≤ b) ∧ Bs.foldl (· * ·) 1 ≤ 10 ^ B
theorem LsOk.one {f : Int} {n : Nat} {st : St3} {b B : Nat} (h : StOk f n st b) (h1 : 1 ≤ b) (hb : b ≤ 10 ^ B) : LsOk f n [st] B :=
  ⟨[b], rfl, fun i s c e1 e2 => by
    cases i with
    | zero => cases e1; cases e2; exact h
    | succ i => simp at e1, fun c hc => by rw [List.mem_singleton.mp hc]; exact h1, by simpa using hb⟩
theorem LsOk.snoc {f : Int} {n : Nat} {l : List St3} {st : St3} {b B C : Nat} (h : LsOk f n l B) (s : StOk f n st b) (h1 : 1 ≤ b) (hb : b ≤ 10 ^ C) : LsOk f n (l ++ [st]) (B + C) := by
  obtain ⟨Bs, e1, e2, e3, e4⟩ := h.bs
  refine ⟨Bs ++ [b], by simp [e1], fun i s' c q1 q2 => ?_, fun c hc => ?_, ?_⟩
  · by_cases hi : i < l.length
    · rw [List.getElem?_append_left hi] at q1
      rw [List.getElem?_append_left (by omega)] at q2
      exact e2 i s' c q1 q2
    · rw [List.getElem?_append_right (by omega)] at q1 q2
      have z : i - l.length = 0 := by
        have := (List.getElem?_eq_some_iff.mp q1).1
        simp at this
        omega
      rw [z] at q1
      rw [e1, z] at q2
      cases q1; cases q2
      exact s
  · rcases List.mem_append.mp hc with z | z
    · exact e3 c z
    · rw [List.mem_singleton.mp z]; exact h1
  · rw [List.foldl_append, List.foldl_cons, List.foldl_nil, Nat.pow_add]
    exact Nat.mul_le_mul e4 hb
theorem ls_sum {f : Int} {n : Nat} {l : List St3} {B : Nat} (hf : 0 ≤ f) (h : LsOk f n l B) (hB : B < 200) : SumOk f (l.map (tmO f)) ∧ ∀ u ∈ l.map (tmO f), TermOk f n u := by
  obtain ⟨Bs, e1, e2, e3, e4⟩ := h.bs
  have hN : 10 ^ B < NBn := by
    unfold NBn
    exact Nat.pow_lt_pow_right (by decide) hB
  have mon : ∀ st ∈ l, Mon n st.2.2 := fun st hs => by
    obtain ⟨i, hi, rfl⟩ := List.getElem_of_mem hs
    obtain ⟨q1, q2, q3⟩ := (e2 i _ _ (List.getElem?_eq_getElem hi) (List.getElem?_eq_getElem (by omega))).es
    have le : ∀ {l : List Int}, (∀ e ∈ l, 0 ≤ e) → ∀ e ∈ l, e ≤ l.sum ∧ 0 ≤ l.sum := fun {l} => by
      induction l with
      | nil => intro _ e he; cases he
      | cons x l ih =>
        intro h e he
        have hx := h x List.mem_cons_self
        have s0 : 0 ≤ l.sum := by
          cases l with
          | nil => exact Int.le_refl _
          | cons y l' => exact (ih (fun y hy => h y (List.mem_cons_of_mem _ hy)) y List.mem_cons_self).2
        rw [List.sum_cons]
        rcases List.mem_cons.mp he with rfl | he
        · omega
        · have := ih (fun y hy => h y (List.mem_cons_of_mem _ hy)) e he; omega
    exact ⟨⟨q1, fun e he => ⟨q2 e he, by have := (le q2 e he).1; omega⟩⟩, q3⟩
  by_cases f0 : f = 0
  · subst f0
    have lw : ∀ (i : Nat) (t : Tm) (b : Nat), (l.map (tmO 0))[i]? = some t → Bs[i]? = some b → Lw b t.1 := fun i t b q1 q2 => by
      rw [List.getElem?_map] at q1
      obtain ⟨st, hst, rfl⟩ := Option.map_eq_some_iff.mp q1
      have s := e2 i st b hst q2
      have hd : st.2.1 ≠ 0 := s.z.resolve_right fun z => z rfl
      have e : (tmO 0 st).1 = lowQ st.1 st.2.1 := by show mkN 0 st.1 st.2.1 = _; unfold mkN; rw [if_pos rfl]
      rw [e]
      exact (low_lw _ hd).le s.w
    refine ⟨fun k e he => ?_, fun u hu => ?_⟩
    · have := fold_lw ((l.map (tmO 0)).take k) (Bs.take k) [] 1 (Nat.le_refl _) (fun e he => by cases he) (by simp [e1]) (fun i t b q1 q2 => by
        have hi : i < k := by
          have := (List.getElem?_eq_some_iff.mp q2).1
          rw [List.length_take] at this
          omega
        rw [List.getElem?_take_of_lt hi] at q1 q2
        exact lw i t b q1 q2) e he
      rw [Nat.one_mul] at this
      exact this.ok (Nat.lt_of_le_of_lt (Nat.le_trans (foldl_take_le Bs k e3) e4) hN)
    · obtain ⟨st, hs, rfl⟩ := List.mem_map.mp hu
      refine ⟨?_, mon st hs⟩
      obtain ⟨i, hi, rfl⟩ := List.getElem_of_mem hs
      have hB1 : Bs[i]? = some Bs[i] := List.getElem?_eq_getElem (by omega)
      have q := lw i (tmO 0 l[i]) Bs[i] (by rw [List.getElem?_map, List.getElem?_eq_getElem hi]; rfl) hB1
      refine q.ok (Nat.lt_of_le_of_lt (Nat.le_trans ?_ e4) hN)
      have key : ∀ (l : List Nat) (x : Nat), l.foldl (· * ·) x = x * l.foldl (· * ·) 1 := by
        intro l
        induction l with
        | nil => intro x; simp
        | cons y l ih => intro x; rw [List.foldl_cons, List.foldl_cons, ih, ih (1 * y), Nat.one_mul, Nat.mul_assoc]
      have h1 := foldl_take_le Bs (i + 1) e3
      rw [List.take_add_one, hB1, List.foldl_append] at h1
      refine Nat.le_trans ?_ h1
      show Bs[i] ≤ (Bs.take i).foldl (· * ·) 1 * Bs[i]
      have h2 := foldl_take_le (Bs.take i) 0 fun x hx => e3 x (List.mem_of_mem_take hx)
      rw [List.take_zero] at h2
      exact Nat.le_mul_of_pos_left _ h2
  · have h0 : 0 < f := by omega
    have nk : ∀ u ∈ l.map (tmO f), NumOk f u.1 := fun u hu => by
      obtain ⟨st, hs, rfl⟩ := List.mem_map.mp hu
      exact mkN_p f0 h0 _ _
    refine ⟨fun k e he => fold_p f0 h0 _ [] (fun e he => by cases he) (fun t ht => nk t (List.mem_of_mem_take ht)) e he, fun u hu => ⟨nk u hu, ?_⟩⟩
    obtain ⟨st, hs, rfl⟩ := List.mem_map.mp hu
    exact mon st hs

local macro_rules | `(tactic| walk_at "rf") => `(tactic| repeat (first | walk_at "rd1" | refine ⟨_, _, _, _, _, rfl, (by assumption), (by assumption), (by assumption), rfl, ?_⟩))

/-! ### the reader's terms -/
theorem let_in {n : Nat} (T : List Nat) (p : Nat) : inV (V.str (tx (sg T p))) (((ltrs n).map fun c => tx [c]).map V.str) = (lttI n T p).isSome := by
  have e1 : ∀ (l : List Nat) (x : List Nat), inV (V.str (tx x)) ((l.map fun c => tx [c]).map V.str) = l.any fun c => decide ([c] = x) := by
    intro l x
    unfold inV
    rw [List.map_map, List.any_map]
    congr 1
    funext c
    show (tx [c] == tx x) = _
    by_cases h : [c] = x
    · rw [decide_eq_true h, h]; simp
    · rw [decide_eq_false h]; exact beq_eq_false_iff_ne.mpr fun z => h (tx_inj z)
  rw [e1]
  unfold lttI
  cases e : T[p]? with
  | none =>
    rw [sg_none e]
    show (ltrs n).any (fun c => decide ([c] = [])) = false
    rw [List.any_eq_false]
    intro c _
    simp
  | some c =>
    rw [sg_some e]
    show _ = ((ltrs n).findIdx? fun x => decide (x = c)).isSome
    rw [List.findIdx?_isSome]
    congr 1
    funext d
    by_cases h : d = c
    · subst h; simp
    · simp [h]
theorem let_flat (n : Nat) : (((ltrs n).map fun c => tx [c]).map V.str).all flatV = true := by
  rw [List.map_map, List.all_map, List.all_eq_true]
  intro c _
  rfl
theorem ten_bb {k : Nat} (h : k ≤ 1000) : 2 * 10 ^ k < BB := by
  have h1 : 2 * 10 ^ k ≤ 2 * 10 ^ 1000 := Nat.mul_le_mul_left _ (Nat.pow_le_pow_right (by decide) h)
  have h2 : 2 * 10 ^ 1000 < BB := by decide +kernel
  omega
theorem bb_mul {i j : Int} (hi : i.natAbs < BB) (hj : j.natAbs < BB) : CMulW i j := wide_mul (a := 4000) (b := 4000) hi hj (by decide) (by decide) (by decide)
/-- what the loop holds -/
structure TmI (f : Int) (n : Nat) (X : List Nat) (p : Nat) (b : Bool) (q : Nat) (st : St3) (go : Bool) : Prop where
  ge : p ≤ q
  ok : StOk f n st (2 * 10 ^ (q - p))
  on : go = true → ∃ g, termR f n X (X.length + 1) p (st0 n b) = termR f n X g q st ∧ X.length < q + g
  off : go = false → termR f n X (X.length + 1) p (st0 n b) = .ok st q
theorem TmI.step {f : Int} {n : Nat} {X : List Nat} {p q e : Nat} {b : Bool} {st st' : St3} (I : TmI f n X p b q st true) (hq : q ≤ X.length) (h : facR f n X q st = .ok st' e) : TmI f n X p b (pasP X e 42) st' (pasB X e 42) ∧ q < pasP X e 42 := by
  have l1 := facR_le hq h
  have l2 := pasP_ge X e 42
  have g0 := I.ge
  obtain ⟨g, h1, h2⟩ := I.on rfl
  obtain ⟨g', rfl⟩ : ∃ g', g = g' + 1 := ⟨g - 1, by omega⟩
  unfold termR at h1
  conv at h1 => rhs; unfold termR
  rw [h] at h1
  dsimp only at h1
  refine ⟨⟨by omega, ((facR_st hq h I.ok).le ?_), fun z => ?_, fun z => ?_⟩, by omega⟩
  · rw [Nat.mul_assoc, ← Nat.pow_add]
    exact Nat.mul_le_mul_left _ (Nat.pow_le_pow_right (by decide) (by omega))
  · rw [if_pos z] at h1
    exact ⟨g', by unfold termR; exact h1, by omega⟩
  · rw [if_neg (by rw [z]; exact Bool.false_ne_true)] at h1
    unfold termR
    exact h1
theorem TmI.err {f : Int} {n : Nat} {X : List Nat} {p q s : Nat} {b : Bool} {st : St3} (I : TmI f n X p b q st true) (hq : q ≤ X.length) (h : facR f n X q st = .err s) : termR f n X (X.length + 1) p (st0 n b) = .err s := by
  obtain ⟨g, h1, h2⟩ := I.on rfl
  obtain ⟨g', rfl⟩ : ∃ g', g = g' + 1 := ⟨g - 1, by omega⟩
  rw [h1]
  unfold termR
  rw [h]
theorem Keep2.but {a D : Addr} {H H' : Hp} (k : Keep2 a D H H') (hD : H D = none) : KeepBut a H H' := fun b o nb e => k b o nb (fun z => by rw [z, hD] at e; cases e) e
section
variable {P : Program} {w : World} {K : PySem.W.Frag} {mg : Str → Option Value} {base : Heap}
def sp_term (C CI : Addr) (K : PySem.W.Frag) : Sp := fun vs H Q E => ∃ (a dx : Addr) (f : Int) (n : Nat) (L : Addr) (T : List Nat) (p : Nat) (b : Bool), vs = [.ref a, .int (if b = true then -1 else 1)] ∧ Rdr C K H a dx f n L T p ∧ IsF f ∧
  (∀ st q, termR f n T (T.length + 1) p (st0 n b) = .ok st q → ∀ H' t, KeepBut a H H' → Rdr C K H' a dx f n L T q → TermV K H' f (.ref t) (tmO f st) → Q (.ref t) H') ∧
  (∀ s, termR f n T (T.length + 1) p (st0 n b) = .err s → OutI CI a H E s)
theorem ok_Reader_term (T : Txt K mg) (PF : PFl P T.InvalidText.file) : FnOk P w K mg base (L2.CX P w) 7 T.Reader.f_term T.Reader.d_term P_Reader_term (sp_term T.Reader.C T.InvalidText.C K) := by
  refine T.Reader.F_term.okX sc_Reader_term (fun vs H Q E h => ?_) (fun cdv A outer s H vs Q E hr h => ?_)
  · obtain ⟨a, dx, f, n, L, T, p, b, rfl, _⟩ := h; rfl
  · obtain ⟨a, dx, f, n, L, X, p, b, rfl, hR, hF, k1, k2⟩ := h
    refine ⟨_, (pss_cons (ps_par rfl sc_Reader_term.nd (i := 2) (j := 3) rfl rfl (by decide) rfl rfl (pa_cons (pv 1) (pa_cons pe_int pa_nil)) rfl)
  (pss_cons (ps_setLc (i := 4) (own := [("_", 5)]) rfl sc_Reader_term.nd rfl rfl (sw_true rfl rfl rfl (by decide +kernel)) (pi_tup (pe_fld (pv 0) rfl)) (blkOk_by (own := [("_", 5)]) (N := N_Reader_term) (sc := defScope s_Reader_term) (by decide +kernel)) (fun _ _ _ _ _ => (pg_name (i := 5) sc_Reader_term.nd rfl (Or.inl rfl))) (fun _ _ _ _ _ => pts_nil) (fun _ _ _ _ _ => pe_int))
  (pss_cons (ps_set (i := 6) sc_Reader_term.nd rfl (Or.inl rfl) pe_bl)
  (pss_cons (ps_while (passes_of rfl) (pt_truth (pv 6) (by intro _; rfl)) (pss_cons (ps_if (pt_cmpR (r := rIn K false) op_in_seq (pe_meth0 (pv 0) T.Reader.cls T.Reader.m_ahead (ok_Reader_ahead T) (hr.mono (by decide)) (b_Reader_ahead T) .nil pass0) (pe_fld (pv 0) rfl) (by rfl)) (pss_one (ps_expr (pe_meth (pv 0) T.Reader.cls T.Reader.m_power (ok_Reader_power T PF) (hr.mono (by decide)) (b_Reader_power T) .nil (passes_call (takes_of rfl rfl rfl rfl) (fun _ _ _ _ h => h)) (pa_cons (pv 4) pa_nil)))) (pss_cons (ps_asg (pe_meth0 (pv 0) T.Reader.cls T.Reader.m_quotient (ok_Reader_quotient T PF) (hr.mono (by decide)) (b_Reader_quotient T) .nil (passes_call (takes_of rfl rfl rfl rfl) (fun _ _ _ _ h => h))) (pg_tup rfl (pgs_cons (pg_name (i := 7) sc_Reader_term.nd rfl (Or.inl rfl)) (pgs_cons (pg_name (i := 8) sc_Reader_term.nd rfl (Or.inl rfl)) pgs_nil))))
  (pss_one (ps_par rfl sc_Reader_term.nd (i := 2) (j := 3) rfl rfl (by decide) rfl rfl (pa_cons (pe_op op_mulW (pv 2) (pv 7)) (pa_cons (pe_op op_mulW (pv 3) (pv 8)) pa_nil)) rfl))))
  (pss_one (ps_set (i := 6) sc_Reader_term.nd rfl (Or.inl rfl) (pe_meth (pv 0) T.Reader.cls T.Reader.m_passes (ok_Reader_passes T) (hr.mono (by decide)) (b_Reader_passes T) .nil pass0 (pa_cons pe_str pa_nil))))))
  (pss_one (ps_ret (pe_tup (pa_cons (pe_call (ok_make_number T) (hr.mono (by decide)) rfl T.make_number.g T.make_number.F.kp (b_make_number T) .nil pass0 (pa_cons (pe_fld (pv 0) rfl) (pa_cons (pv 2) (pa_cons (pv 3) pa_nil)))) (pa_cons (pe_callTy (r := rTupOf K) call_tuple_of rfl T.n_tuple bo_tuple (pa_cons (pv 4) pa_nil)) pa_nil))))))))), ?_⟩
    have f1 := T.Reader.cls
    have f2 := T.Reader.n_field
    have f4 := T.Reader.n_letters
    have hXl := hR.len
    have hq := hR.ob
    have hbig : 100 < sizeLine := by decide
    have hn4 := hR.n4
    have hlz : (((ltrs n).map fun c => tx [c]).map V.str).length = n := by rw [List.length_map, List.length_map]; unfold ltrs; rw [List.length_take]; simp; omega
    walk_at "rf"
    refine ⟨⟨_, hR.lt.sqt⟩, fun D hD => ?_⟩
    refine lc_it (walk_tup (K := K) (a := L) (xs := ((ltrs n).map fun c => tx [c]).map V.str)) (fun i H' => Same H H' ∧ H' D = some (.lst ((List.replicate i (0 : Int)).map V.int))) ⟨same_upd hD, upd_same⟩ (fun i H' _ q => Toy.Same.tup q.1 hR.lt.sqt) (fun i x Ha Hb hi q y => ?_) (fun H1 q => ?_)
    · obtain ⟨sa, ea⟩ := q
      obtain ⟨rfl, ey⟩ := y
      rw [hlz] at hi
      refine ⟨rfl, ?_⟩
      walk_at "rd"
      refine ⟨_, ea, by rw [List.length_map, List.length_replicate]; omega, fun c o e => ?_, ?_⟩
      · rw [upd_ne (ne_of_none e hD)]
        exact sa _ _ e
      · rw [upd_same, List.replicate_succ', List.map_append]; rfl
    · obtain ⟨s1, hle⟩ := q
      rw [hlz] at hle
      have nDa : D ≠ a := fun z => by rw [z, hq] at hD; cases hD
      have r1 : Rdr T.Reader.C K H1 a dx f n L X p := hR.mv (.of s1) (s1 _ _ hq) hR.le
      delta gName
      dsimp only
      delta tSeq
      dsimp only
      delta tAsg tC gName
      dsimp only
      refine while_by (fun σ H2 => ∃ (q : Nat) (st : St3) (go : Bool) (u7 u8 : Option V), σ = [some (.ref a), some (.int (if b = true then -1 else 1)), some (.int st.1), some (.int st.2.1), some (.ref D), none, some (.bl go), u7, u8] ∧ Keep2 a D H H2 ∧ H2 D = some (.lst (st.2.2.map V.int)) ∧ Rdr T.Reader.C K H2 a dx f n L X q ∧ TmI f n X p b q st go)
        (fun σ H2 => match σ[6]? with | some (some (V.bl true)) => rdM a H2 + 1 | _ => 0) ⟨p, st0 n b, true, none, none, rfl, .of (.of s1), hle, r1, ⟨Nat.le_refl _, by rw [Nat.sub_self]; exact st0_ok f n b, fun _ => ⟨_, rfl, by omega⟩, fun z => by cases z⟩⟩ ?_ ?_
      · rintro σ H2 ⟨q, st, go, u7, u8, rfl, kb, hle2, r2, I⟩
        have hq2 := r2.ob
        have hql := r2.le
        cases go with
        | true =>
          walk_at "rd"
          refine ⟨_, _, _, rfl, hq2, rfl, a, dx, f, n, L, X, q, rfl, r2, fun H3 kb3 r3 => ?_⟩
          have hq3 := r3.ob
          have k3 : Keep2 a D H H3 := kb.trans (.of kb3)
          have hle3 := kb3 _ _ nDa hle2
          walk_at "rf"
          refine ⟨L, _, rfl, .inr r3.lt.sqt, rfl, let_flat n, _, rfl, ?_⟩
          rw [if_neg Bool.false_ne_true, let_in]
          have fac := fun (st' : St3) (e : Nat) => I.step (st' := st') (e := e) hql
          have facE := fun (s : Nat) => I.err (s := s) hql
          unfold facR at fac facE
          cases hl : lttI n X (skp X q) with
          | some i =>
            rw [hl] at fac facE
            rw [Option.isSome_some]
            walk_at "rd"
            refine ⟨_, _, _, rfl, hq3, rfl, ?_⟩
            walk_at "rd"
            refine ⟨a, dx, f, n, L, X, skp X q, D, st.2.2, i, rfl, r3, hle3, I.ok.es.1, hl, fun es' e hp H4 k4 hl4 r4 => ?_, fun s hs => ?_⟩
            · simp only [hp] at fac
              obtain ⟨I', hlt⟩ := fac _ _ rfl
              walk_at "rd"
              refine ⟨_, _, _, rfl, r4.ob, rfl, ?_⟩
              walk_at "rd"
              refine ⟨a, dx, f, n, L, X, e, 42, congrArg (fun z => [V.ref a, V.str z]) s_star, r4, fun H5 k5 r5 => ?_⟩
              have hle5 := k5 _ _ nDa hl4
              refine ⟨⟨_, (st.1, st.2.1, es'), _, _, _, rfl, k3.trans (k4.trans (.of k5)), hle5, r5, I'⟩, ?_⟩
              have hr5 := r5.le
              show (match (some (some (V.bl (pasB X e 42))) : Option (Option V)) with | some (some (V.bl true)) => rdM a H5 + 1 | _ => 0) < rdM a H2 + 1
              rw [rdM_at hq2, rdM_at r5.ob]
              cases pasB X e 42
              · show 0 < _; omega
              · show 1001 - pasP X e 42 + 1 < _; omega
            · have e0 := facE s (by simp only [hs])
              exact fun d H' k' ed => k2 s e0 d H' ((k3.trans k').but hD) ed
          | none =>
            rw [hl] at fac facE
            rw [Option.isSome_none]
            walk_at "rd"
            refine ⟨_, _, _, rfl, hq3, rfl, a, dx, f, n, L, X, skp X q, rfl, r3, hF.lt.1, fun u l e hu H4 t k4 r4 ht => ?_, fun s hs => ?_⟩
            · simp only [hu] at fac
              obtain ⟨I', hlt⟩ := fac _ _ rfl
              refine ⟨t, _, rfl, .inl (.inl ht), rfl, ?_⟩
              obtain ⟨v1, v2⟩ := quoR_val hu
              have b1 : u < BB ∧ l < BB := by
                have := ten_bb (k := e - skp X q) (by have := r4.le; omega)
                unfold wt at v1
                rw [Int.natAbs_natCast, Int.natAbs_natCast] at v1
                omega
              have b2 : st.1.natAbs < BB ∧ st.2.1.natAbs < BB := by
                have h1 := I.ok.w
                have := ten_bb (k := q - p) (by omega)
                unfold wt at h1
                omega
              walk_at "rd"
              refine ⟨bb_mul b2.1 (by rw [Int.natAbs_natCast]; exact b1.1), ?_⟩
              walk_at "rd"
              refine ⟨bb_mul b2.2 (by rw [Int.natAbs_natCast]; exact b1.2), ?_⟩
              walk_at "rd"
              refine ⟨_, _, _, rfl, r4.ob, rfl, ?_⟩
              walk_at "rd"
              refine ⟨a, dx, f, n, L, X, e, 42, congrArg (fun z => [V.ref a, V.str z]) s_star, r4, fun H5 k5 r5 => ?_⟩
              have hle5 := k5 _ _ nDa (k4 _ _ nDa hle3)
              refine ⟨⟨_, (st.1 * (u : Int), st.2.1 * (l : Int), st.2.2), _, _, _, rfl, k3.trans (.of (k4.trans k5)), hle5, r5, I'⟩, ?_⟩
              have hr5 := r5.le
              show (match (some (some (V.bl (pasB X e 42))) : Option (Option V)) with | some (some (V.bl true)) => rdM a H5 + 1 | _ => 0) < rdM a H2 + 1
              rw [rdM_at hq2, rdM_at r5.ob]
              cases pasB X e 42
              · show 0 < _; omega
              · show 1001 - pasP X e 42 + 1 < _; omega
            · have e0 := facE s (by simp only [hs])
              exact fun d H' k' ed => k2 s e0 d H' ((k3.trans (.of k')).but hD) ed
        | false =>
          have b2 : st.1.natAbs < BB ∧ st.2.1.natAbs < BB := by
            have h1 := I.ok.w
            have := ten_bb (k := q - p) (by omega)
            unfold wt at h1
            omega
          walk_at "rf"
          refine ⟨f, st.1, st.2.1, rfl, hF, b2.1, b2.2, fun f0 => I.ok.z.resolve_right fun z => z f0, fun v H3 nv s3 => ?_⟩
          walk_at "rd"
          have hl3 := s3 _ _ hle2
          refine ⟨D, _, rfl, .inl ⟨.inl (.inl hl3), fun l hl => ?_⟩⟩
          refine ⟨(show 2 ≤ sizeLine by decide), fun t ht => ?_⟩
          have s4 := same_upd (o := .tup (st.2.2.map V.int)) hl
          have s5 := same_upd (o := .tup [v, V.ref l]) ht
          have s35 := Same.trans s3 (Same.trans s4 s5)
          have kf : Keep2 a D H (upd (upd H3 l (.tup (st.2.2.map V.int))) t (.tup [v, V.ref l])) := kb.trans (.of (.of s35))
          refine k1 st q (I.off rfl) _ t (kf.but hD) (r2.mv (.of s35) (s35 _ _ hq2) hql) ⟨t, l, v, rfl, .inl (.inl upd_same), ?_, s5 _ _ upd_same⟩
          exact nv.same (Same.trans s4 s5)
      · rintro σ H2 Q1 Q2 hQ ⟨v, e, k, tv, q⟩
        exact ⟨v, e, k, tv, hQ _ _ q⟩
end

local macro_rules | `(tactic| walk_at "rf") => `(tactic| repeat (first | walk_at "rd1" | refine ⟨_, _, _, _, _, rfl, (by assumption), (by assumption), (by assumption), rfl, ?_⟩))

/-! ### all terms of a text -/
theorem tq_but {a C dx : Addr} {fs : List (Str × V)} {H H' : Hp} (ha : H a = some (.ins C dx fs)) (k : KeepBut a H H') : Tq H H' := fun b xs => by
  have n : ∀ {u}, H b = some u → (∀ C dx fs, u ≠ .ins C dx fs) → b ≠ a := fun {u} e z y => by
    subst y
    rw [ha] at e
    cases e
    exact z _ _ _ rfl
  exact ⟨fun e => k _ _ (n e fun _ _ _ z => by cases z) e, fun o e => k _ _ (n e fun _ _ _ z => by cases z) e⟩
theorem sgnP_gt {T : List Nat} {p : Nat} (h : T[skp T p]? = some 43 ∨ T[skp T p]? = some 45) : skp T p < sgnP T (skp T p) := by
  have e := skp_skp T p
  unfold sgnP
  by_cases c : pasB T (skp T p) 45 = true
  · rw [if_pos c]
    unfold pasP
    rw [if_pos c, e]
    omega
  · rw [if_neg c]
    have h43 : T[skp T p]? = some 43 := by
      refine h.resolve_right fun z => c ?_
      unfold pasB
      rw [e]
      exact decide_eq_true z
    have e2 : pasP T (skp T p) 45 = skp T p := by unfold pasP; rw [if_neg c, e]
    rw [e2]
    have e3 : pasB T (skp T p) 43 = true := by unfold pasB; rw [e]; exact decide_eq_true h43
    unfold pasP
    rw [if_pos e3, e]
    omega
theorem pm_in (c : Nat) : inV (V.str (tx [c])) [V.str ("+" : Str), V.str ("-" : Str)] = decide (c = 43 ∨ c = 45) := by
  rw [s_plus, s_minus]
  have e : ∀ d : Nat, eqV (V.str (tx [d])) (V.str (tx [c])) = decide (c = d) := fun d => by
    show (tx [d] == tx [c]) = _
    by_cases hd : c = d
    · subst hd; simp
    · rw [decide_eq_false hd]
      exact beq_eq_false_iff_ne.mpr fun z => hd (by have := tx_inj z; simpa using this.symm)
  unfold inV
  simp only [List.any_cons, List.any_nil, e, Bool.or_false]
  by_cases h1 : c = 43 <;> by_cases h2 : c = 45 <;> simp [h1, h2]
/-- what the loop holds -/
structure MoI (f : Int) (n : Nat) (X : List Nat) (q : Nat) (l : List St3) : Prop where
  ok : LsOk f n l (q + 1)
  few : l.length ≤ q
  on : ∃ g, termsR f n X = moreR f n X g q l ∧ X.length < q + g
theorem MoI.fin {f : Int} {n : Nat} {X : List Nat} {q : Nat} {l : List St3} (I : MoI f n X q l) (hq : q ≤ X.length) (h : X[skp X q]? = none) : termsR f n X = .ok l (skp X q) := by
  obtain ⟨g, h1, h2⟩ := I.on
  obtain ⟨g', rfl⟩ : ∃ g', g = g' + 1 := ⟨g - 1, by omega⟩
  rw [h1]
  unfold moreR
  rw [if_pos h]
theorem MoI.bad {f : Int} {n : Nat} {X : List Nat} {q : Nat} {l : List St3} (I : MoI f n X q l) (hq : q ≤ X.length) (h : X[skp X q]? ≠ none) (h2 : ¬ (X[skp X q]? = some 43 ∨ X[skp X q]? = some 45)) : termsR f n X = .err (skp X q) := by
  obtain ⟨g, h1, h3⟩ := I.on
  obtain ⟨g', rfl⟩ : ∃ g', g = g' + 1 := ⟨g - 1, by omega⟩
  rw [h1]
  unfold moreR
  rw [if_neg h, if_neg h2]
theorem MoI.err {f : Int} {n : Nat} {X : List Nat} {q s : Nat} {l : List St3} (I : MoI f n X q l) (hq : q ≤ X.length) (h2 : X[skp X q]? = some 43 ∨ X[skp X q]? = some 45) (h : oneR f n X (skp X q) = .err s) : termsR f n X = .err s := by
  obtain ⟨g, h1, h3⟩ := I.on
  obtain ⟨g', rfl⟩ : ∃ g', g = g' + 1 := ⟨g - 1, by omega⟩
  rw [h1]
  unfold moreR
  rw [if_neg (fun z => by rw [z] at h2; rcases h2 with h2 | h2 <;> cases h2), if_pos h2, h]
theorem MoI.step {f : Int} {n : Nat} {X : List Nat} {q q' : Nat} {l : List St3} {st : St3} (I : MoI f n X q l) (hq : q ≤ X.length) (h2 : X[skp X q]? = some 43 ∨ X[skp X q]? = some 45) (h : oneR f n X (skp X q) = .ok st q') : MoI f n X q' (l ++ [st]) ∧ q < q' ∧ q' ≤ X.length := by
  obtain ⟨g, h1, h3⟩ := I.on
  obtain ⟨g', rfl⟩ : ∃ g', g = g' + 1 := ⟨g - 1, by omega⟩
  have l1 := skp_ge X q
  have l2 := sgnP_gt h2
  obtain ⟨s1, s2, s3⟩ := oneR_st (skp_le hq) h
  refine ⟨⟨?_, ?_, g', ?_, ?_⟩, by omega, s3⟩
  · have e : q' + 1 = (q + 1) + (q' - q) := by omega
    rw [e]
    refine I.ok.snoc s1 ?_ ?_
    · have := ten_pos (q' - sgnP X (skp X q)); omega
    · have h4 : 10 ^ (q' - sgnP X (skp X q) + 1) ≤ 10 ^ (q' - q) := Nat.pow_le_pow_right (by decide) (by omega)
      rw [Nat.pow_succ] at h4
      omega
  · rw [List.length_append, List.length_singleton]
    have := I.few
    omega
  · rw [h1]
    conv => lhs; unfold moreR
    rw [if_neg (fun z => by rw [z] at h2; rcases h2 with h2 | h2 <;> cases h2), if_pos h2, h]
  · omega
section
variable {P : Program} {w : World} {K : PySem.W.Frag} {mg : Str → Option Value} {base : Heap}
def sp_terms (C CI : Addr) (K : PySem.W.Frag) : Sp := fun vs H Q E => ∃ (a dx : Addr) (f : Int) (n : Nat) (L : Addr) (T : List Nat), vs = [.ref a] ∧ Rdr C K H a dx f n L T 0 ∧ IsF f ∧
  (∀ l q, termsR f n T = .ok l q → LsOk f n l (T.length + 1) → l.length ≤ T.length → ∀ H' v, KeepBut a H H' → PolyL K H' f v (l.map (tmO f)) → Q v H') ∧
  (∀ s, termsR f n T = .err s → OutI CI a H E s)
theorem ok_Reader_terms (T : Txt K mg) (PF : PFl P T.InvalidText.file) : FnOk P w K mg base (L2.CX P w) 8 T.Reader.f_terms T.Reader.d_terms P_Reader_terms (sp_terms T.Reader.C T.InvalidText.C K) := by
  refine T.Reader.F_terms.okX sc_Reader_terms (fun vs H Q E h => ?_) (fun cdv A outer s H vs Q E hr h => ?_)
  · obtain ⟨a, dx, f, n, L, T, rfl, _⟩ := h; rfl
  · obtain ⟨a, dx, f, n, L, X, rfl, hR, hF, k1, k2⟩ := h
    refine ⟨_, (pss_cons (ps_set (i := 1) sc_Reader_terms.nd rfl (Or.inl rfl) (pe_lst (pa_cons (pe_meth (pv 0) T.Reader.cls T.Reader.m_term (ok_Reader_term T PF) (hr.mono (by decide)) (b_Reader_term T) .nil (passes_call (takes_of rfl rfl rfl rfl) (fun _ _ _ _ h => h)) (pa_cons (pe_meth0 (pv 0) T.Reader.cls T.Reader.m_sign (ok_Reader_sign T) (hr.mono (by decide)) (b_Reader_sign T) .nil pass0) pa_nil)) pa_nil)))
  (pss_cons (ps_while (passes_of rfl) (pt_cmpR op_ne (pe_meth0 (pv 0) T.Reader.cls T.Reader.m_ahead (ok_Reader_ahead T) (hr.mono (by decide)) (b_Reader_ahead T) .nil pass0) pe_str (nomark _)) (pss_cons (ps_if (pt_cmpR (r := rIn K true) op_notIn_seq (pe_meth0 (pv 0) T.Reader.cls T.Reader.m_ahead (ok_Reader_ahead T) (hr.mono (by decide)) (b_Reader_ahead T) .nil pass0) (pe_tup (pa_cons pe_str (pa_cons pe_str pa_nil))) (by rfl)) (pss_one (ps_raise rfl (takes_of rfl rfl rfl rfl) (pmk_oex T.InvalidText.sup.ex T.InvalidText.ini T.InvalidText.tyI (ok_Inv_init T PF) (hr.mono (by decide)) (b_Inv_init T) .nil passL rfl T.InvalidText.g (pa_cons (pe_fld (pv 0) rfl) pa_nil)))) pss_nil)
  (pss_one (ps_expr (pe_bm PySem.F.plainAttrs_list PySem.F.slot_list_append PySem.F.type_list_append mt_append (pv 1) (pa_cons (pe_meth (pv 0) T.Reader.cls T.Reader.m_term (ok_Reader_term T PF) (hr.mono (by decide)) (b_Reader_term T) .nil (passes_call (takes_of rfl rfl rfl rfl) (fun _ _ _ _ h => h)) (pa_cons (pe_meth0 (pv 0) T.Reader.cls T.Reader.m_sign (ok_Reader_sign T) (hr.mono (by decide)) (b_Reader_sign T) .nil pass0) pa_nil)) pa_nil))))))
  (pss_one (ps_ret (pv 1))))), ?_⟩
    have f1 := T.Reader.cls
    have f3 := T.Reader.n_place
    have hXl := hR.len
    have hq := hR.ob
    have hbig : 10000 < sizeLine := by decide
    walk_at "rd"
    refine ⟨_, _, _, rfl, hq, rfl, ?_⟩
    walk_at "rd"
    refine ⟨_, _, _, rfl, hq, rfl, a, dx, f, n, L, X, 0, rfl, hR, fun H1 kb1 r1 => ?_⟩
    walk_at "rd"
    refine ⟨a, dx, f, n, L, X, sgnP X 0, sgnB X 0, rfl, r1, hF, fun st q hst H2 t1 kb2 r2 ht => ?_, fun s hs => OutI.of (k2 s (by unfold termsR oneR; rw [hs])) kb1⟩
    have one : oneR f n X 0 = .ok st q := hst
    obtain ⟨s1, s2, s3⟩ := oneR_st (Nat.zero_le _) one
    have I0 : MoI f n X q [st] := ⟨LsOk.one s1 (by have := ten_pos (q - sgnP X 0); omega) (by
        have h4 : 10 ^ (q - sgnP X 0 + 1) ≤ 10 ^ (q + 1) := Nat.pow_le_pow_right (by decide) (by omega)
        rw [Nat.pow_succ] at h4
        omega), by rw [List.length_singleton]; omega, X.length + 1, by unfold termsR; rw [one], by omega⟩
    refine ⟨(show 1 ≤ sizeLine by decide), fun F hF0 => ?_⟩
    have s4 := same_upd (o := .lst [V.ref t1]) hF0
    have hF1 : (upd H2 F (.lst [V.ref t1])) F = some (.lst [V.ref t1]) := upd_same
    have nFa : F ≠ a := fun z => by rw [z, r2.ob] at hF0; cases hF0
    have kb3 : KeepBut a H (upd H2 F (.lst [V.ref t1])) := (kb1.trans kb2).trans (.of s4)
    have r3 := r2.mv (.of s4) (s4 _ _ r2.ob) r2.le
    have t3 : TermV K (upd H2 F (.lst [V.ref t1])) f (.ref t1) (tmO f st) := ht.tq (tq_same s4)
    have hFn : H F = none := by
      cases z : H F with
      | none => rfl
      | some o => have := (kb1.trans kb2) _ _ nFa z; rw [this] at hF0; cases hF0
    generalize upd H2 F (.lst [V.ref t1]) = G at *
    delta gName
    dsimp only
    delta tSeq
    dsimp only
    refine while_by (fun σ Hx => ∃ (q : Nat) (l : List St3) (zs : List V), σ = [some (.ref a), some (.ref F)] ∧ Keep2 a F H Hx ∧ Hx F = some (.lst zs) ∧ zs.length = l.length ∧ (∀ (i : Nat) v u, zs[i]? = some v → (l.map (tmO f))[i]? = some u → TermV K Hx f v u) ∧ Rdr T.Reader.C K Hx a dx f n L X q ∧ MoI f n X q l) (fun _ Hx => rdM a Hx)
      ⟨q, [st], [V.ref t1], rfl, .of kb3, hF1, rfl, fun i v u e1 e2 => ?_, r3, I0⟩ ?_ ?_
    · cases i with
      | zero => cases e1; cases e2; exact t3
      | succ i => simp at e1
    · rintro σ Hx ⟨q, l, zs, rfl, kx, hzs, hzl, hzt, rx, I⟩
      have hqx := rx.ob
      have hql := rx.le
      have hfew := I.few
      walk_at "rd"
      refine ⟨_, _, _, rfl, hqx, rfl, a, dx, f, n, L, X, q, rfl, rx, fun H4 kb4 r4 => ?_⟩
      have hq4 := r4.ob
      have tq4 := tq_but hqx kb4
      have hz4 := kb4 _ _ nFa hzs
      walk_at "rd"
      rw [s_empty, vstr]
      refine iteDn (fun hne => ?_) (fun he => ?_)
      · have hsome : X[skp X q]? ≠ none := fun z => hne (sg_none z)
        walk_at "rd"
        refine ⟨_, _, _, rfl, hq4, rfl, a, dx, f, n, L, X, skp X q, rfl, r4, fun H5 kb5 r5 => ?_⟩
        have hq5 := r5.ob
        rw [skp_skp] at r5 hq5 ⊢
        walk_at "rd"
        obtain ⟨c, hc⟩ : ∃ c, X[skp X q]? = some c := by
          cases z : X[skp X q]? with
          | none => exact absurd z hsome
          | some c => exact ⟨c, rfl⟩
        refine ⟨(show 2 ≤ sizeLine by decide), fun tp htp => ?_⟩
        have s6 := same_upd (o := .tup [V.str ("+" : Str), V.str ("-" : Str)]) htp
        have hq6 := s6 _ _ hq5
        have kb46 : KeepBut a Hx (upd H5 tp (.tup [V.str ("+" : Str), V.str ("-" : Str)])) := (kb4.trans kb5).trans (.of s6)
        have r6 := r5.mv (.of s6) hq6 r5.le
        refine ⟨tp, _, rfl, .inr (.inl (.inl upd_same)), rfl, rfl, _, rfl, ?_⟩
        rw [if_pos rfl, sg_some hc, pm_in]
        generalize upd H5 tp (.tup [V.str ("+" : Str), V.str ("-" : Str)]) = H6 at *
        have h8 := skp_le hql
        refine iteDn (fun hno => ?_) (fun hyes => ?_)
        · have e0 := I.bad hql hsome (by rw [hc]; simpa using hno)
          walk_at "rf"
          refine raise_leaf (by omega) fun d H' k' ed => k2 _ e0 d H' ((kx.trans ((Keep2.of kb46).trans (.of k'))).but hFn) ed
        · have h43 : X[skp X q]? = some 43 ∨ X[skp X q]? = some 45 := by rw [hc]; simpa using hyes
          have hz6 := kb46 _ _ nFa hzs
          walk_at "rd"
          refine ⟨.inl ⟨rfl, _, .inl (.inl hz6)⟩, ?_⟩
          walk_at "rd"
          refine ⟨_, _, _, rfl, hq6, rfl, ?_⟩
          walk_at "rd"
          refine ⟨_, _, _, rfl, hq6, rfl, a, dx, f, n, L, X, skp X q, rfl, r6, fun H7 kb7 r7 => ?_⟩
          walk_at "rd"
          refine ⟨a, dx, f, n, L, X, sgnP X (skp X q), sgnB X (skp X q), rfl, r7, hF, fun st q' hst H8 t8 kb8 r8 ht8 => ?_, fun s hs => ?_⟩
          · obtain ⟨I', l1, l2⟩ := I.step hql h43 hst
            have kb68 : KeepBut a Hx H8 := (kb46.trans kb7).trans kb8
            have hz8 := kb68 _ _ nFa hzs
            have tq8 := tq_but hqx kb68
            walk_at "rd"
            refine ⟨F, zs, .ref t8, rfl, rfl, hz8, by omega, ?_⟩
            have tqF : Tq H8 (upd H8 F (.lst (zs ++ [V.ref t8]))) := tq_upd hz8 trivial
            refine ⟨⟨q', l ++ [st], zs ++ [.ref t8], rfl, fun b o nb nf e => (upd_ne nf).trans ((kx.trans (.of kb68)) b o nb nf e), upd_same, by simp [hzl], fun i v u e1 e2 => ?_, r8.mvL (fun o xs e => (upd_ne fun z => by rw [z, hz8] at e; cases e).trans e) ((upd_ne nFa.symm).trans r8.ob) r8.le, I'⟩, ?_⟩
            · rw [List.map_append] at e2
              by_cases hi : i < zs.length
              · rw [List.getElem?_append_left hi] at e1
                rw [List.getElem?_append_left (by rw [List.length_map]; omega)] at e2
                exact ((hzt i v u e1 e2).tq tq8).tq tqF
              · rw [List.getElem?_append_right (by omega)] at e1
                rw [List.getElem?_append_right (by rw [List.length_map]; omega), List.length_map] at e2
                have z : i - zs.length = 0 := by
                  have := (List.getElem?_eq_some_iff.mp e1).1
                  simp at this
                  omega
                rw [z] at e1
                rw [show i - l.length = 0 by omega] at e2
                cases e1; cases e2
                exact ht8.tq tqF
            · rw [rdM_at hqx, rdM_at ((upd_ne nFa.symm).trans r8.ob)]
              omega
          · exact fun d H' k' ed => k2 s (I.err hql h43 hs) d H' ((kx.trans ((Keep2.of (kb46.trans kb7)).trans (.of k'))).but hFn) ed
      · have hnone : X[skp X q]? = none := by
          cases z : X[skp X q]? with
          | none => rfl
          | some c => rw [sg_some z] at he; cases he
        walk_at "rd"
        refine k1 l _ (I.fin hql hnone) ?_ ?_ H4 _ ?_ ⟨F, zs, rfl, hz4, by rw [List.length_map]; exact hzl, fun i v u e1 e2 => (hzt i v u e1 e2).tq tq4⟩
        · obtain ⟨Bs, b1, b2, b3, b4⟩ := I.ok.bs
          exact ⟨Bs, b1, b2, b3, Nat.le_trans b4 (Nat.pow_le_pow_right (by decide) (by omega))⟩
        · omega
        · exact (kx.trans (.of kb4)).but hFn
    · rintro σ Hx Q1 Q2 hQ hc
      exact mo_test (mo_op mo_ne (mo_meth0 (mo_var _) sp_ahead_mono) (mo_c _)) σ Hx Q1 Q2 hQ hc
end

local macro_rules | `(tactic| walk_at "rf") => `(tactic| repeat (first | walk_at "rd1" | refine ⟨_, _, _, _, _, rfl, (by assumption), (by assumption), (by assumption), rfl, ?_⟩))

/-! ### the reader made; read -/
section
variable {P : Program} {w : World} {K : PySem.W.Frag} {mg : Str → Option Value} {base : Heap}
theorem ltrs_cut (n : Nat) (h : n ≤ 4) : cutV (namesV.map V.str) none (some (n : Int)) = ((ltrs n).map fun c => tx [c]).map V.str := by
  have : n = 0 ∨ n = 1 ∨ n = 2 ∨ n = 3 ∨ n = 4 := by omega
  rcases this with rfl | rfl | rfl | rfl | rfl <;> rfl
def sp_Reader_init (C CC : Addr) (K : PySem.W.Frag) : Sp := fun vs H Q _ => ∃ (a dx c : Addr) (f : Int) (n : Nat) (rs : List (List Int)) (T : List Nat), vs = [.ref a, .ref c, .str (tx T)] ∧ H a = some (.ins C dx []) ∧ c ≠ a ∧ CodO CC K H c n rs ∧ CodF CC H c f ∧ n ≤ 4 ∧ T.length ≤ 1000 ∧ ∀ H' L, KeepBut a H H' → Rdr C K H' a dx f n L T 0 → Q .non H'
theorem ok_Reader___init__ (T : Txt K mg) : FnOk P w K mg base CX0 1 T.Reader.f___init__ T.Reader.d___init__ P_Reader___init__ (sp_Reader_init T.Reader.C T.Coding.C K) := by
  refine T.Reader.F___init__.ok sc_Reader___init__ (fun vs H Q E h => ?_) (fun cdv A outer s H vs Q E hr h => ?_)
  · obtain ⟨a, dx, c, f, n, rs, X, rfl, _⟩ := h; rfl
  · obtain ⟨a, dx, c, f, n, rs, X, rfl, ha, nca, hco, hcf, hn4, hXl, k⟩ := h
    refine ⟨_, (pss_cons (ps_fld (pv 0) (pe_fld (pv 1) rfl) rfl)
  (pss_cons (ps_fld (pv 0) (pe_slice (r := rSlF K) sl_tupF (pe_glob rfl T.g_NAMES (v := .ref T.aNAMES) rfl) po_none (po_some (pe_fld (pv 1) rfl))) rfl)
  (pss_cons (ps_fld (pv 0) (pv 2) rfl)
  (pss_one (ps_fld (pv 0) pe_int rfl))))), ?_⟩
    obtain ⟨dx1, fs1, c1, c2, _⟩ := id hcf
    obtain ⟨dx2, L2', fs2, rv2, c3, c4, _⟩ := id hco
    have z := c1.symm.trans c3
    cases z
    have f1 := T.Reader.cls
    have g1 := T.Coding.cls
    have g2 := T.Coding.n_field
    have g3 := T.Coding.n_many
    walk_at "rd"
    refine ⟨_, _, _, _, _, rfl, c1, g1, g2, c2, ?_⟩
    walk_at "rd"
    refine ⟨_, _, _, _, rfl, ha, f1, T.Reader.n_field, (show 0 < 1000 by decide), ?_⟩
    obtain ⟨G1, e1⟩ : ∃ G1, G1 = upd H a (.ins T.Reader.C dx (putF "field" (V.int f) [])) := ⟨_, rfl⟩
    have a1 : G1 a = some (.ins T.Reader.C dx [(("field" : Str), V.int f)]) := by rw [e1, upd_same]; rfl
    have k1 : KeepBut a H G1 := fun b o nb e => by rw [e1, upd_ne nb]; exact e
    rw [← e1]
    have cc1 := k1 _ _ nca c1
    walk_at "rd"
    refine ⟨_, _, _, _, _, rfl, cc1, g1, g3, c4, ?_⟩
    walk_at "rd"
    have fin : ∀ (G2 : Hp) (L : Addr), KeepBut a H G2 → G2 a = some (.ins T.Reader.C dx [(("field" : Str), V.int f)]) → PlT K G2 L (((ltrs n).map fun c => tx [c]).map V.str) →
        sFld K (tVar 0) (tC (V.ref L)) "letters" { nx := fun σ2 H2 => sFld K (tVar 0) (tVar 2) "text" { nx := fun σ3 H3 => sFld K (tVar 0) (tC (V.int 0)) "place" { nx := fun x H' => Q V.non H', rt := Q } σ3 H3, rt := Q } σ2 H2, rt := Q } [some (.ref a), some (.ref c), some (.str (tx X))] G2 := fun G2 L k2 a2 pl => by
      refine ⟨.ref a, rfl, _, _, _, _, rfl, a2, f1, T.Reader.n_letters, (show 1 < 1000 by decide), ?_⟩
      refine ⟨.str (tx X), rfl, .ref a, rfl, _, _, _, _, rfl, upd_same, f1, T.Reader.n_text, (show 2 < 1000 by decide), ?_⟩
      refine ⟨.ref a, rfl, _, _, _, _, rfl, upd_same, f1, T.Reader.n_place, (show 3 < 1000 by decide), ?_⟩
      refine k _ L (fun b o nb e => ?_) ⟨?_, Nat.zero_le _, hXl, ?_, hn4⟩
      · rw [upd_ne nb, upd_ne nb, upd_ne nb]; exact k2 b o nb e
      · rw [upd_same]; rfl
      · rcases pl with ⟨o, c1, c2, h1⟩ | h1
        · refine .inl ⟨o, c1, c2, ?_⟩
          have nL : L ≠ a := fun z => by rw [z, a2] at h1; cases h1
          rw [upd_ne nL, upd_ne nL, upd_ne nL]; exact h1
        · exact .inr h1
    refine ⟨T.aNAMES, _, rfl, T.t_NAMES, fun hw => ?_, fun hw p o hp oc od => ?_⟩
    · have h4 : n = 4 := by
        have h5 := hw.2
        rw [HT.sIx_nat] at h5
        have h6 : (namesV.map V.str).length = 4 := rfl
        rw [h6] at h5
        omega
      exact fin G1 T.aNAMES k1 a1 (.inr (by rw [h4]; exact T.t_NAMES))
    · have npa : p ≠ a := fun z => by rw [z, a1] at hp; cases hp
      exact fin _ p (k1.trans (.of (same_upd hp))) ((upd_ne npa.symm).trans a1) (.inl ⟨o, oc, od, by rw [upd_same, ltrs_cut n hn4]⟩)
def sp_polynomial_of (C CI : Addr) (t : TabsAt) (K : PySem.W.Frag) : Sp := fun vs H Q E => ∃ (c : Addr) (f : Int) (n : Nat) (rs : List (List Int)) (T : List Nat), vs = [.ref c, .str (tx T)] ∧ n ≤ 4 ∧ RowsOk n rs ∧ IsF f ∧ CodO C K H c n rs ∧ CodF C H c f ∧ T.length ≤ 190 ∧ TS t H ∧
  (∀ l q, termsR f n T = .ok l q → ∀ v H', Ex t H H' → PolyV K H' f v (polyL f n rs (l.map (tmO f))) → Q v H') ∧
  (∀ s, termsR f n T = .err s → ∀ d H', Ex t H H' → H' d = some (.xd [("place", .int s)]) → E (.ref CI) (some d) H')
theorem ok_polynomial_of (T : Txt K mg) {t : TabsAt} (B : TBs T base t) (PF : PFl P T.InvalidText.file) : FnOk P w K mg base (L2.CX P w) 17 T.polynomial_of.f T.polynomial_of.fd P_polynomial_of (sp_polynomial_of T.Coding.C T.InvalidText.C t K) := by
  refine T.polynomial_of.F.okX sc_polynomial_of (fun vs H Q E h => ?_) (fun cdv A outer s H vs Q E hr h => ?_)
  · obtain ⟨c, f, n, rs, X, rfl, _⟩ := h; rfl
  · obtain ⟨c, f, n, rs, X, rfl, hn4, hrs, hF, hco, hcf, hXl, ts, k1, k2⟩ := h
    refine ⟨_, (pss_one (ps_ret (pe_call (ok_sum_of_list T B) (hr.mono (by decide)) rfl T.sum_of_terms.g T.sum_of_terms.F.kp (b_sum_of_terms T) .nil pass0 (pa_cons (pv 0) (pa_cons (pe_meth0 (pe_make T.Reader.mkr (ok_Reader___init__ T) (hr.mono (by decide)) rfl T.Reader.g (b_Reader___init__ T) .nil pass0 (pa_cons (pv 0) (pa_cons (pv 1) pa_nil))) T.Reader.cls T.Reader.m_terms (ok_Reader_terms T PF) (hr.mono (by decide)) (b_Reader_terms T) .nil (passes_call (takes_of rfl rfl rfl rfl) (fun _ _ _ _ h => h))) pa_nil))))), ?_⟩
    obtain ⟨dx1, fs1, c1, c2, _⟩ := id hcf
    walk_at "rd"
    intro a dx ha hdx nd
    have nca : c ≠ a := fun z => by rw [z, ha] at c1; cases c1
    have hdx' : (upd H dx (.own a)) a = none := (upd_ne fun z => nd z.symm).trans ha
    have s1 : Same H (upd (upd H dx (.own a)) a (.ins T.Reader.C dx [])) := Same.trans (same_upd hdx) (same_upd hdx')
    have x1 := Ex.of ts s1
    refine ⟨a, dx, c, f, n, rs, X, rfl, upd_same, nca, hco.ex x1, hcf.ex x1.keep, hn4, by omega, fun H2 L kb r => ⟨rfl, ?_⟩⟩
    have hna : ∀ {G : Hp}, KeepBut a (upd (upd H dx (.own a)) a (.ins T.Reader.C dx [])) G → Same H G := fun k b o e => k b o (fun z => by rw [z, ha] at e; cases e) (s1 b o e)
    refine ⟨a, dx, _, rfl, r.ob, rfl, a, dx, f, n, L, X, rfl, r, hF, fun l q hl ls few H3 v kb3 pv => ?_, fun s hs d H' k' ed => k2 s hs d H' (Ex.of ts (hna (kb.trans k'))) ed⟩
    have x3 := Ex.of ts (hna (kb.trans kb3))
    obtain ⟨m1, m2⟩ := ls_sum hF.lt.1 ls (by omega)
    walk_at "rd"
    refine ⟨c, f, n, rs, v, l.map (tmO f), rfl, hn4, hrs, hF, hco.ex x3, hcf.ex x3.keep, pv, by rw [List.length_map]; omega, m2, m1, x3.ts, fun v' H' x' p' => ?_⟩
    exact k1 l q hl v' H' (x3.trans x') p'
/-- read -/
def sp_read (CN CI : Addr) (t : TabsAt) (K : PySem.W.Frag) : Sp := fun vs H Q E => ∃ (f : Int) (n : Nat) (o : Ord) (v x : V), vs = [v, x] ∧ RgV K H v f n o ∧ TS t H ∧
  ((∃ T : List Nat, x = .str (tx T) ∧ T.length ≤ 190 ∧ (∀ l q, termsR f n T = .ok l q → ∀ v' H', Ex t H H' → PolyV K H' f v' (polyL f n (rowsL n o) (l.map (tmO f))) → Q v' H') ∧
    (∀ s, termsR f n T = .err s → ∀ d H', Ex t H H' → H' d = some (.xd [("place", .int s)]) → E (.ref CI) (some d) H')) ∨
  (∃ c, (∀ H', Ex t H H' → TyX K H' x c) ∧ PySem.W.kitOne K c (.type "str") = some false ∧ ∀ H', Ex t H H' → E (.ref CN) none H'))
theorem ok_read (T : Txt K mg) {t : TabsAt} (B : TBs T base t) (PF : PFl P T.InvalidText.file) : FnOk P w K mg base (L2.CX P w) 18 T.read.f T.read.fd P_read (sp_read T.NotText.C T.InvalidText.C t K) := by
  refine T.read.F.okX sc_read (fun vs H Q E h => ?_) (fun cdv A outer s H vs Q E hr h => ?_)
  · obtain ⟨f, n, o, v, x, rfl, _⟩ := h; rfl
  · obtain ⟨f, n, o, v, x, rfl, hv, ts, hx⟩ := h
    refine ⟨_, (pss_cons (ps_set (i := 2) sc_read.nd rfl (Or.inl rfl) (pe_call (ok_check_ring T B) (hr.mono (by decide)) rfl T.check_ring.g T.check_ring.F.kp (b_check_ring T) .nil pass0 (pa_cons (pv 0) pa_nil)))
  (pss_cons (ps_if (pt_not (pt_val (pe_callB (r := rIsi K) call_isi rfl T.n_isinstance bo_isinstance (pa_cons (pv 1) (pa_cons (pe_bltn (v := .ty "str") rfl T.n_str bo_str rfl) pa_nil))))) (pss_one (ps_raise rfl (takes_of rfl rfl rfl rfl) (pmk_own PySem.F.excBase_ValueError T.NotText.x T.NotText.g T.NotText.k (raises_own T.NotText.be T.NotText.ty) rfl))) pss_nil)
  (pss_one (ps_ret (pe_call (ok_polynomial_of T B PF) (hr.mono (by decide)) rfl T.polynomial_of.g T.polynomial_of.F.kp (b_polynomial_of T) .nil (passes_call (takes_of rfl rfl rfl rfl) (fun _ _ _ _ h => h)) (pa_cons (pv 2) (pa_cons (pv 1) pa_nil))))))), ?_⟩
    walk_at "rd"
    refine ⟨f, n, o, v, rfl, hv.hf, hv.h1, hv.h4, hv.ho, hv.hd, ts, fun c H1 x1 hc => ?_⟩
    rcases hx with ⟨X, rfl, hXl, k1, k2⟩ | ⟨ty, hty, hk, k⟩
    · walk_at "rd"
      refine ⟨_, _, _, _, _, rfl, .ty _, .base (.str _), kit_str_str, ?_⟩
      walk_at "rd"
      refine ⟨c, f, n, rowsL n o, X, rfl, hv.h4, rows_ok hv.h1 hv.h4 hv.ho, hv.hf.isF, hc.1, hc.2, hXl, x1.ts, fun l q hl v' H' x' p' => k1 l q hl v' H' (x1.trans x') p', fun s hs d H' x' ed => k2 s hs d H' (x1.trans x') ed⟩
    · walk_at "rd"
      refine ⟨_, _, _, _, _, rfl, .ty _, hty H1 x1, hk, ?_⟩
      walk_at "rd"
      exact k H1 x1
end

local macro_rules | `(tactic| walk_at "rf") => `(tactic| repeat (first | walk_at "rd1" | refine ⟨_, _, _, _, _, rfl, (by assumption), (by assumption), (by assumption), rfl, ?_⟩))

/-! ### texts written -/
def powT (c : Nat) (e : Int) : List Nat := if e = 1 then [c] else [c, 94] ++ TL.numL e.toNat
def numT (x : Int × Int) : List Nat := if x.2 = 1 then TL.numL x.1.natAbs else TL.numL x.1.natAbs ++ [47] ++ TL.numL x.2.natAbs
def facT (es : List Int) : List (List Nat) := (((ltrs 4).zip es).filter fun e => decide (0 < e.2)).map fun e => powT e.1 e.2
def termT (x : Int × Int) (es : List Int) : List Nat := TL.joinL [42] (if numT x ≠ [49] ∨ facT es = [] then numT x :: facT es else facT es)
def sgnT (x : Int × Int) : List Nat := if x.1 < 0 then [45] else [43]
def cutP : List Nat → List Nat
  | c :: r => if c = 43 then r else c :: r
  | [] => []
def textT (ts : List Tm) : List Nat := if ts = [] then [48] else cutP (ts.map fun t => sgnT t.1 ++ termT t.1 t.2).flatten
theorem tx_app (a b : List Nat) : tx a ++ tx b = tx (a ++ b) := by
  show (⟨a.toArray ++ b.toArray⟩ : Str) = ⟨(a ++ b).toArray⟩
  congr 1
  simp
theorem tx_num (n : Nat) : Str.ofString (toString ((n : Nat) : Int)) = tx (TL.numL n) := SX.num_S n
section
variable {P : Program} {w : World} {K : PySem.W.Frag} {mg : Str → Option Value} {base : Heap}
def sp_as_fraction : Sp := fun vs H Q _ => ∃ (f : Int) (v : V) (x : Int × Int), vs = [.int f, v] ∧ NumV H f v x ∧ ∀ p H', Same H H' → H' p = some (.tup [.int x.1, .int x.2]) → Q (.ref p) H'
theorem ok_as_fraction (T : Txt K mg) : FnOk P w K mg base CX0 1 T.as_fraction.f T.as_fraction.fd P_as_fraction sp_as_fraction := by
  refine T.as_fraction.F.ok sc_as_fraction (fun vs H Q E h => ?_) (fun cdv A outer s H vs Q E hr h => ?_)
  · obtain ⟨f, v, x, rfl, _⟩ := h; rfl
  · obtain ⟨f, v, x, rfl, hv, k⟩ := h
    refine ⟨_, (pss_one (ps_ret (pe_ifExp (pt_truth (pv 0) (by intro _; rfl)) (pe_tup (pa_cons (pv 1) (pa_cons pe_int pa_nil))) (pv 1)))), ?_⟩
    walk_at "rd"
    refine iteN0 (fun h => ?_) (fun h => ?_)
    · rcases hv with ⟨z, _⟩ | ⟨_, rfl, h1⟩
      · exact absurd z h
      · walk_at "rd"
        refine ⟨(show 2 ≤ sizeLine by decide), fun p hp => ?_⟩
        exact k p _ (same_upd hp) (by rw [upd_same, h1])
    · rcases hv with ⟨_, p, rfl, h1⟩ | ⟨z, _⟩
      · walk_at "rd"
        exact k p H (Same.refl _) h1
      · exact absurd h z
def sp_sign_of : Sp := fun vs H Q _ => ∃ (f : Int) (v : V) (x : Int × Int), vs = [.int f, v] ∧ NumV H f v x ∧ ∀ H', Same H H' → Q (.str (tx (sgnT x))) H'
theorem ok_sign_of (T : Txt K mg) : FnOk P w K mg base CX0 2 T.sign_of.f T.sign_of.fd P_sign_of sp_sign_of := by
  refine T.sign_of.F.ok sc_sign_of (fun vs H Q E h => ?_) (fun cdv A outer s H vs Q E hr h => ?_)
  · obtain ⟨f, v, x, rfl, _⟩ := h; rfl
  · obtain ⟨f, v, x, rfl, hv, k⟩ := h
    refine ⟨_, (pss_one (ps_ret (pe_ifExp (pt_cmpR op_lt (pe_ix (r := rIxT K) ix_tup (pe_call (ok_as_fraction T) (hr.mono (by decide)) rfl T.as_fraction.g T.as_fraction.F.kp (b_as_fraction T) .nil pass0 (pa_cons (pv 0) (pa_cons (pv 1) pa_nil))) pe_int (fun _ _ => rfl)) pe_int (nomark _)) pe_str pe_str))), ?_⟩
    walk_at "rd"
    refine ⟨f, v, x, rfl, hv, fun p H1 s1 h1 => ?_⟩
    unfold sgnT at k
    walk_at "rd"
    refine iteD (fun h => ?_) (fun h => ?_)
    · rw [if_pos h] at k
      walk_at "rd"
      rw [s_minus]
      exact k H1 s1
    · rw [if_neg h] at k
      walk_at "rd"
      rw [s_plus]
      exact k H1 s1
def sp_power_text : Sp := fun vs H Q _ => ∃ (c e : Nat), vs = [.str (tx [c]), .int (e : Int)] ∧ e ≤ 60 ∧ Q (.str (tx (powT c e))) H
theorem ok_power_text (T : Txt K mg) : FnOk P w K mg base CX0 1 T.power_text.f T.power_text.fd P_power_text sp_power_text := by
  refine T.power_text.F.ok sc_power_text (fun vs H Q E h => ?_) (fun cdv A outer s H vs Q E hr h => ?_)
  · obtain ⟨c, e, rfl, _⟩ := h; rfl
  · obtain ⟨c, e, rfl, he, k⟩ := h
    refine ⟨_, (pss_one (ps_ret (pe_ifExp (pt_cmpR op_eq (pv 1) pe_int (nomark _)) (pv 0) (pe_joined (.cons (pe_fmt (pv 0)) (.cons pe_str (.cons (pe_fmt (pv 1)) .nil))))))), ?_⟩
    have hb : 1000 < sizeLine := by decide
    have hn : (TL.numL e).length ≤ 2 := TL.numL_len (by decide) (Nat.lt_of_le_of_lt he (by decide))
    unfold powT at k
    walk_at "rd"
    refine iteV (fun h => ?_) (fun h => ?_)
    · rw [if_pos h] at k
      walk_at "rd"
      exact k
    · rw [if_neg h, Int.toNat_natCast] at k
      walk_at "rd"
      have e0 : Str.empty = tx [] := rfl
      have l1 : (Str.empty ++ tx [c]).length ≤ sizeLine := by rw [e0, tx_app]; exact tx_line (by simp)
      have l2 : (Str.empty ++ tx [c] ++ ("^" : Str)).length ≤ sizeLine := by rw [e0, s_hat, tx_app, tx_app]; exact tx_line (by simp)
      have l3 : (Str.empty ++ tx [c] ++ ("^" : Str) ++ Str.ofString (toString ((e : Nat) : Int))).length ≤ sizeLine := by rw [e0, s_hat, tx_num, tx_app, tx_app, tx_app]; exact tx_line (by simp; omega)
      refine ⟨tx_line (by simp), _, rfl, l1, _, rfl, l2, ?_⟩
      refine ⟨_, rfl, .inr ⟨(e : Int), rfl, ?_, _, rfl, l3, ?_⟩⟩
      · rw [Int.natAbs_natCast]
        exact Nat.lt_of_le_of_lt (Nat.log2_le_self e) (by omega)
      · show Q (.str (Str.empty ++ tx [c] ++ ("^" : Str) ++ Str.ofString (toString ((e : Nat) : Int)))) H
        rw [e0, s_hat, tx_num, tx_app, tx_app, tx_app]
        exact k
theorem num_len {i m : Nat} (h : i < 10 ^ m) (hm : 0 < m) : (TL.numL i).length ≤ m := TL.numL_len hm h
def sp_number_text : Sp := fun vs H Q _ => ∃ (f : Int) (v : V) (x : Int × Int), vs = [.int f, v] ∧ NumV H f v x ∧ x.1.natAbs < NBn ∧ 0 < x.2 ∧ x.2.natAbs < NBn ∧ ∀ H', Same H H' → Q (.str (tx (numT x))) H'
theorem nb_log {i : Nat} (h : i < NBn) : i.log2 < 1920 := by
  have h1 : NBn < 2 ^ 1000 := by decide +kernel
  by_cases h0 : i = 0
  · subst h0; decide
  · have := Nat.log2_lt (k := 1000) h0
    omega
theorem ok_number_text (T : Txt K mg) : FnOk P w K mg base CX0 2 T.number_text.f T.number_text.fd P_number_text sp_number_text := by
  refine T.number_text.F.ok sc_number_text (fun vs H Q E h => ?_) (fun cdv A outer s H vs Q E hr h => ?_)
  · obtain ⟨f, v, x, rfl, _⟩ := h; rfl
  · obtain ⟨f, v, x, rfl, hv, hn, hd0, hd, k⟩ := h
    refine ⟨_, (pss_cons (ps_asg (pe_call (ok_as_fraction T) (hr.mono (by decide)) rfl T.as_fraction.g T.as_fraction.F.kp (b_as_fraction T) .nil pass0 (pa_cons (pv 0) (pa_cons (pv 1) pa_nil))) (pg_tup rfl (pgs_cons (pg_name (i := 2) sc_number_text.nd rfl (Or.inl rfl)) (pgs_cons (pg_name (i := 3) sc_number_text.nd rfl (Or.inl rfl)) pgs_nil))))
  (pss_one (ps_ret (pe_ifExp (pt_cmpR op_eq (pv 3) pe_int (nomark _)) (pe_joined1 (pe_fmt (pe_callB call_abs rfl T.n_abs bo_abs (pa_cons (pv 2) pa_nil)))) (pe_joined (.cons (pe_fmt (pe_callB call_abs rfl T.n_abs bo_abs (pa_cons (pv 2) pa_nil))) (.cons pe_str (.cons (pe_fmt (pv 3)) .nil)))))))), ?_⟩
    have hb : 1000 < sizeLine := by decide
    have e0 : Str.empty = tx [] := rfl
    have n1 : (TL.numL x.1.natAbs).length ≤ 200 := TL.numL_len (by decide) hn
    have n2 : (TL.numL x.2.natAbs).length ≤ 200 := TL.numL_len (by decide) hd
    have ea : (if x.1 < 0 then -x.1 else x.1) = ((x.1.natAbs : Nat) : Int) := by split <;> omega
    have e2 : x.2 = ((x.2.natAbs : Nat) : Int) := by omega
    unfold numT at k
    walk_at "rd"
    refine ⟨f, v, x, rfl, hv, fun p H1 s1 h1 => ?_⟩
    refine ⟨p, _, rfl, .inl (.inl h1), rfl, ?_⟩
    walk_at "rd"
    refine iteV (fun h => ?_) (fun h => ?_)
    · rw [if_pos h] at k
      walk_at "rd"
      rw [ea]
      refine .inr ⟨_, rfl, by rw [Int.natAbs_natCast]; exact nb_log hn, ?_⟩
      rw [tx_num]
      exact k H1 s1
    · rw [if_neg h] at k
      walk_at "rd"
      rw [ea]
      have l1 : (Str.empty ++ Str.ofString (toString ((x.1.natAbs : Nat) : Int))).length ≤ sizeLine := by rw [e0, tx_num, tx_app]; exact tx_line (by simp; omega)
      have l2 : (Str.empty ++ Str.ofString (toString ((x.1.natAbs : Nat) : Int)) ++ ("/" : Str)).length ≤ sizeLine := by rw [e0, s_slash, tx_num, tx_app, tx_app]; exact tx_line (by simp; omega)
      have l3 : (Str.empty ++ Str.ofString (toString ((x.1.natAbs : Nat) : Int)) ++ ("/" : Str) ++ Str.ofString (toString ((x.2.natAbs : Nat) : Int))).length ≤ sizeLine := by rw [e0, s_slash, tx_num, tx_num, tx_app, tx_app, tx_app]; exact tx_line (by simp; omega)
      refine .inr ⟨_, rfl, by rw [Int.natAbs_natCast]; exact nb_log hn, _, rfl, l1, _, rfl, l2, ?_⟩
      refine ⟨V.int x.2, rfl, .inr ⟨x.2, rfl, nb_log hd, _, rfl, by rw [e2]; exact l3, ?_⟩⟩
      show Q (.str (Str.empty ++ Str.ofString (toString ((x.1.natAbs : Nat) : Int)) ++ ("/" : Str) ++ Str.ofString (toString x.2))) H1
      rw [e2, e0, s_slash, tx_num, tx_num, tx_app, tx_app, tx_app]
      exact k H1 s1
end

/-! ### comprehensions over a model's items -/
/-- the values of a list fit its model -/
def Fits {β : Type} (R : β → V → Prop) (bs : List β) (zs : List V) : Prop := zs.length = bs.length ∧ ∀ (i : Nat) b v, bs[i]? = some b → zs[i]? = some v → R b v
theorem Fits.nil {β : Type} {R : β → V → Prop} : Fits R [] [] := ⟨rfl, fun i b v h _ => by simp at h⟩
theorem Fits.snoc {β : Type} {R : β → V → Prop} {bs : List β} {zs : List V} {b : β} {v : V} (h : Fits R bs zs) (r : R b v) : Fits R (bs ++ [b]) (zs ++ [v]) := by
  obtain ⟨h1, h2⟩ := h
  refine ⟨by simp [h1], fun i b' v' hb hv => ?_⟩
  by_cases hi : i < zs.length
  · rw [List.getElem?_append_left (by omega)] at hb
    rw [List.getElem?_append_left hi] at hv
    exact h2 i b' v' hb hv
  · rw [List.getElem?_append_right (by omega)] at hb hv
    have hi0 : i - zs.length = 0 := by
      have := (List.getElem?_eq_some_iff.mp hv).1
      simp at this
      omega
    rw [hi0] at hv
    rw [show i - bs.length = 0 by omega] at hb
    simp at hb hv
    subst hb hv
    exact r
theorem Fits.mono {β : Type} {R S : β → V → Prop} {bs : List β} {zs : List V} (h : Fits R bs zs) (r : ∀ b v, R b v → S b v) : Fits S bs zs := ⟨h.1, fun i b v hb hv => r b v (h.2 i b v hb hv)⟩
theorem Fits.map {β : Type} {g : β → V} {bs : List β} {zs : List V} (h : Fits (fun b v => v = g b) bs zs) : zs = bs.map g := by
  refine List.ext_getElem? fun i => ?_
  rw [List.getElem?_map]
  by_cases hi : i < zs.length
  · have hib : i < bs.length := by rw [← h.1]; exact hi
    rw [List.getElem?_eq_getElem hi, List.getElem?_eq_getElem hib, h.2 i _ _ (List.getElem?_eq_getElem hib) (List.getElem?_eq_getElem hi)]
    rfl
  · rw [List.getElem?_eq_none (by omega), List.getElem?_eq_none (by have := h.1; omega)]
    rfl
/-- a row's own tuple -/
def Plain (H : Hp) (r : List Int) (v : V) : Prop := ∃ b, v = .ref b ∧ H b = some (.tup (r.map V.int))
theorem Plain.same {H H' : Hp} {r : List Int} {v : V} (s : Same H H') (h : Plain H r v) : Plain H' r v := by
  obtain ⟨b, e, hb⟩ := h
  exact ⟨b, e, s _ _ hb⟩
theorem Plain.lst {H : Hp} {D : Addr} {xs ys : List V} {r : List Int} {v : V} (hD : H D = some (.lst xs)) (h : Plain H r v) : Plain (upd H D (.lst ys)) r v := by
  obtain ⟨b, e, hb⟩ := h
  exact ⟨b, e, by rw [upd_ne fun z => by rw [z, hD] at hb; cases hb]; exact hb⟩
theorem Fits.pairs {β : Type} {R : β → V → Prop} {bs : List β} {zs : List V} (h : Fits R bs zs) : ∀ e ∈ zs.zip bs, R e.2 e.1 := fun e he => by
  obtain ⟨i, hi, rfl⟩ := List.getElem_of_mem he
  rw [List.length_zip] at hi
  rw [List.getElem_zip]
  exact h.2 i _ _ (List.getElem?_eq_getElem (by omega)) (List.getElem?_eq_getElem (by omega))
theorem Fits.ofPairs {β : Type} {R : β → V → Prop} {l : List (V × β)} (h : ∀ e ∈ l, R e.2 e.1) : Fits R (l.map (·.2)) (l.map (·.1)) := ⟨by simp, fun i b v hb hv => by
  rw [List.getElem?_map] at hb hv
  obtain ⟨e, he, rfl⟩ := Option.map_eq_some_iff.mp hb
  rw [he] at hv
  cases hv
  exact h e (List.mem_of_getElem? he)⟩
/-- all but a list's own items stay -/
def Keep (D : Addr) (H H' : Hp) : Prop := (∀ b o, b ≠ D → H b = some o → H' b = some o) ∧ ∃ xs ys, H D = some (.lst xs) ∧ H' D = some (.lst ys)
theorem Keep.tp {D : Addr} {H H' : Hp} (k : Keep D H H') : Tp H H' := fun b xs h => by
  obtain ⟨k1, x, y, hx, hy⟩ := k
  have nb : b ≠ D := fun z => by
    subst z
    rcases h with h | ⟨u, h⟩ <;> rw [hx] at h <;> cases h
  rcases h with h | ⟨u, h⟩
  · exact .inl (k1 _ _ nb h)
  · exact .inr ⟨u, k1 _ _ nb h⟩
section
variable {P : Program} {w : World} {K : PySem.W.Frag} {mg : Str → Option Value} {base : Heap}
/-- a comprehension of one loop: items of a model, those that a test keeps, and what is made of them -/
theorem lc_gen {α β : Type} {J : It} {n : Nat} {G : Hp → Prop} {Y : Nat → Hp → V → Hp → Prop} {g : TG} {tt : TT} {te : TE} {vs : List Nat} {σ : L2.St} {H1 : Hp} {D : Addr} {Qd : Hp → Prop}
    (w : Walk J n G Y) (as : List α) (p : α → Bool) (f : α → β) (R : β → V → Hp → Prop) (hn : as.length = n) (hG : ∀ H', Same H1 H' → G H') (hD : H1 D = none) (hl : n ≤ 100000)
    (hR : ∀ b v H H', Keep D H H' → R b v H → R b v H')
    (hs : ∀ i a x Ha Hb (Qn : Hp → Prop) (Qy : V → Hp → Prop), as[i]? = some a → Same H1 Ha → Y i Ha x Hb → (p a = false → ∀ H4, Same Ha H4 → Qn H4) → (p a = true → ∀ y H4, Same Ha H4 → R (f a) y H4 → Qy y H4) →
      g x (wipe σ vs) Hb fun σ2 H2 => wipe σ2 vs = wipe σ vs ∧ tt σ2 H2 fun b H3 => if b = true then te σ2 H3 Qy else Qn H3)
    (hend : ∀ H' zs, Same H1 H' → H' D = some (.lst zs) → Fits (fun b v => R b v H') ((as.filter p).map f) zs → Qd H') :
    ∃ W : Nat → Nat → Hp → Prop, (∃ m, W 0 m (upd H1 D (.lst []))) ∧ ∀ i m H, W i m H →
      (J.stop i H ∧ Qd H) ∨ (J.go i H ∧ ∃ Nx : Hp → Prop, (∀ H', Nx H' → ∃ m', m' < m ∧ W (i + 1) m' H') ∧ ∀ x H', J.yld i H x H' → g x (wipe σ vs) H' fun σ2 H2 => wipe σ2 vs = wipe σ vs ∧ tt σ2 H2 fun b H3 =>
        if b = true then te σ2 H3 fun y H4 => ∃ acc, H4 D = some (.lst acc) ∧ acc.length < sizeLine ∧ Nx (upd H4 D (.lst (acc ++ [y]))) else Nx H3) := by
  have hbig : 100000 < sizeLine := by decide
  refine lc_it w (tt := tt) (fun i H' => ∃ zs : List V, Same H1 H' ∧ H' D = some (.lst zs) ∧ zs.length ≤ i ∧ Fits (fun b v => R b v H') (((as.take i).filter p).map f) zs) ⟨[], same_upd hD, upd_same, Nat.le_refl _, .nil⟩ (fun i H' _ q => hG _ q.choose_spec.1) (fun i x Ha Hb hi q y => ?_) (fun H' q => ?_)
  · obtain ⟨zs, q1, q2, q3, q4⟩ := q
    have ha : as[i]? = some as[i] := List.getElem?_eq_getElem (by omega)
    have et : as.take (i + 1) = as.take i ++ [as[i]] := by rw [List.take_add_one, ha]; rfl
    refine hs i _ x Ha Hb _ _ ha q1 y (fun pf H4 s4 => ?_) (fun pt y H4 s4 r4 => ?_)
    · refine ⟨zs, Same.trans q1 s4, s4 _ _ q2, by omega, ?_⟩
      rw [et, List.filter_append, List.filter_cons, if_neg (by rw [pf]; exact Bool.false_ne_true), List.filter_nil, List.append_nil]
      exact q4.mono fun b v r => hR b v _ _ ⟨fun x o _ e => s4 _ _ e, zs, zs, q2, s4 _ _ q2⟩ r
    · have z4 := s4 _ _ q2
      have k4 : Keep D H4 (upd H4 D (.lst (zs ++ [y]))) := ⟨fun x o nx e => (upd_ne nx).trans e, _, _, z4, upd_same⟩
      refine ⟨zs, z4, by omega, zs ++ [y], fun b' v e => ?_, upd_same, by simp; omega, ?_⟩
      · rw [upd_ne (ne_of_none e hD)]
        exact s4 _ _ (q1 _ _ e)
      · rw [et, List.filter_append, List.filter_cons, if_pos pt, List.filter_nil, List.map_append]
        refine Fits.snoc (q4.mono fun b v r => hR b v _ _ k4 (hR b v _ _ ⟨fun x o _ e => s4 _ _ e, zs, zs, q2, z4⟩ r)) (hR _ _ _ _ k4 r4)
  · obtain ⟨zs, q1, q2, q3, q4⟩ := q
    rw [← hn, List.take_length] at q4
    exact hend H' zs q1 q2 q4
theorem Plain.dp {H : Hp} {r : List Int} {v : V} (h : Plain H r v) : Dp K H v (rD r) := by
  obtain ⟨b, rfl, hb⟩ := h
  exact dp_ints (.inl (.inl hb))
theorem fits_rows {H : Hp} {rs : List (List Int)} {zs : List V} (h : Fits (fun r v => Dp K H v (rD r)) rs zs) : DpAll K H zs (rs.map rD) := by
  refine dpAll_get (by rw [List.length_map]; exact h.1) fun j y d h1 h2 => ?_
  rw [List.getElem?_map] at h2
  obtain ⟨r, hr, rfl⟩ := Option.map_eq_some_iff.mp h2
  exact h.2 j r y hr h1
theorem filterT {α : Type} (l : List α) : l.filter (fun _ => true) = l := List.filter_eq_self.mpr fun _ _ => rfl
theorem rows_list {H : Hp} {xs : List V} {rs : List (List Int)} (h : DpAll K H xs (rs.map rD)) : xs.length = rs.length := by
  have := Toy.DpAll.len h
  rwa [List.length_map] at this
theorem same_none {H H' : Hp} {d : Addr} (s : Same H H') (h : H' d = none) : H d = none := by
  cases c : H d with
  | none => rfl
  | some o => rw [s _ _ c] at h; cases h
theorem sql_sm {H H' : Hp} {a : Addr} {xs : List V} (h : SqL K H a xs) (s : Same H H') : SqL K H' a xs := by
  rcases h with (h | ⟨u, h⟩) | h
  · exact .inl (.inl (s _ _ h))
  · exact .inl (.inr ⟨u, s _ _ h⟩)
  · exact .inr h
theorem dpAll_snoc {H : Hp} {xs : List V} {ds : List PyData} {x : V} {d : PyData} (h : DpAll K H xs ds) (hx : Dp K H x d) : DpAll K H (xs ++ [x]) (ds ++ [d]) := dpAll_app h (.cons hx .nil)
end
theorem Fits.app {β : Type} {R : β → V → Prop} {bs cs : List β} {ys zs : List V} (h : Fits R bs ys) (k : Fits R cs zs) : Fits R (bs ++ cs) (ys ++ zs) := by
  refine ⟨by rw [List.length_append, List.length_append, h.1, k.1], fun i b v hb hv => ?_⟩
  have e := h.1
  by_cases c : i < ys.length
  · rw [List.getElem?_append_left (by omega)] at hb
    rw [List.getElem?_append_left c] at hv
    exact h.2 i b v hb hv
  · rw [List.getElem?_append_right (by omega)] at hb hv
    rw [e] at hv
    exact k.2 _ b v hb hv
theorem fst_range {n i : Nat} {a : Nat} (h : (List.range n)[i]? = some a) : i < n ∧ a = i := by
  obtain ⟨h1, h2⟩ := List.getElem?_eq_some_iff.mp h
  rw [List.getElem_range] at h2
  rw [List.length_range] at h1
  exact ⟨h1, h2.symm⟩

local macro_rules | `(tactic| walk_at "rf") => `(tactic| repeat (first | walk_at "rd1" | refine ⟨_, _, _, _, _, rfl, (by assumption), (by assumption), (by assumption), rfl, ?_⟩))

/-! ### terms and polynomials written -/
theorem facT_len (es : List Int) : (facT es).length ≤ 4 := by
  unfold facT
  rw [List.length_map]
  refine Nat.le_trans (List.length_filter_le _ _) ?_
  rw [List.length_zip]
  exact Nat.min_le_left _ _
theorem powT_len {c : Nat} {e : Int} (h : 0 ≤ e ∧ e ≤ 60) : (powT c e).length ≤ 4 := by
  have hn : (TL.numL e.toNat).length ≤ 2 := TL.numL_len (by decide) (Nat.lt_of_le_of_lt (show e.toNat ≤ 60 by omega) (by decide))
  unfold powT
  split
  · simp
  · simp; omega
theorem facT_each {es : List Int} (h : ∀ e ∈ es, 0 ≤ e ∧ e ≤ 60) : ∀ l ∈ facT es, l.length ≤ 4 := fun l hl => by
  unfold facT at hl
  obtain ⟨q, hq, rfl⟩ := List.mem_map.mp hl
  exact powT_len (h q.2 (List.of_mem_zip (List.mem_filter.mp hq).1).2)
theorem joinL_len (s : List Nat) : ∀ l : List (List Nat), (TL.joinL s l).length ≤ (l.map List.length).sum + l.length * s.length
  | [] => by simp [TL.joinL]
  | [p] => by simp [TL.joinL]
  | p :: q :: r => by
    have := joinL_len s (q :: r)
    unfold TL.joinL
    rw [List.length_append, List.length_append, List.map_cons, List.sum_cons, List.length_cons, Nat.succ_mul]
    omega
theorem lens_le {l : List (List Nat)} {m : Nat} (h : ∀ x ∈ l, x.length ≤ m) : (l.map List.length).sum ≤ l.length * m := by
  induction l with
  | nil => simp
  | cons a l ih =>
    have h1 := ih fun x hx => h x (List.mem_cons_of_mem _ hx)
    have h2 := h a List.mem_cons_self
    rw [List.map_cons, List.sum_cons, List.length_cons, Nat.succ_mul]
    omega
def NumB (x : Int × Int) : Prop := x.1.natAbs < NBn ∧ 0 < x.2 ∧ x.2.natAbs < NBn
theorem numT_len {x : Int × Int} (h : NumB x) : (numT x).length ≤ 401 := by
  have n1 : (TL.numL x.1.natAbs).length ≤ 200 := TL.numL_len (by decide) h.1
  have n2 : (TL.numL x.2.natAbs).length ≤ 200 := TL.numL_len (by decide) h.2.2
  unfold numT
  split
  · omega
  · simp; omega
theorem termL_sum {x : Int × Int} {es : List Int} (hx : NumB x) (h : ∀ e ∈ es, 0 ≤ e ∧ e ≤ 60) : ((if numT x ≠ [49] ∨ facT es = [] then numT x :: facT es else facT es).map List.length).sum + (if numT x ≠ [49] ∨ facT es = [] then numT x :: facT es else facT es).length ≤ 500 := by
  have h1 := lens_le (facT_each h)
  have h2 := facT_len es
  have h3 := numT_len hx
  have h4 : (facT es).length * 4 ≤ 16 := by omega
  split
  · rw [List.map_cons, List.sum_cons, List.length_cons]; omega
  · omega
theorem termT_len {x : Int × Int} {es : List Int} (hx : NumB x) (h : ∀ e ∈ es, 0 ≤ e ∧ e ≤ 60) : (termT x es).length ≤ 500 := by
  have h1 := joinL_len [42] (if numT x ≠ [49] ∨ facT es = [] then numT x :: facT es else facT es)
  have h2 := termL_sum hx h
  rw [List.length_singleton, Nat.mul_one] at h1
  unfold termT
  omega
theorem map_tx_len (l : List (List Nat)) : ((l.map tx).map (·.length)).sum = (l.map List.length).sum := by
  rw [List.map_map]
  exact congrArg List.sum (List.map_congr_left fun x _ => tx_len x)
section
variable {P : Program} {w : World} {K : PySem.W.Frag} {mg : Str → Option Value} {base : Heap}
def sp_term_text (K : PySem.W.Frag) : Sp := fun vs H Q _ => ∃ (f : Int) (v : V) (x : Int × Int) (M : Addr) (es : List Int), vs = [.int f, v, .ref M] ∧ NumV H f v x ∧ NumB x ∧ H M = some (.tup (es.map V.int)) ∧ es.length ≤ 4 ∧ (∀ e ∈ es, 0 ≤ e ∧ e ≤ 60) ∧ ∀ H', Same H H' → Q (.str (tx (termT x es))) H'
theorem ok_term_text (T : Txt K mg) : FnOk P w K mg base CX0 3 T.term_text.f T.term_text.fd P_term_text (sp_term_text K) := by
  refine T.term_text.F.ok sc_term_text (fun vs H Q E h => ?_) (fun cdv A outer s H vs Q E hr h => ?_)
  · obtain ⟨f, v, x, M, es, rfl, _⟩ := h; rfl
  · obtain ⟨f, v, x, M, es, rfl, hv, hx, hM, hl, he, k⟩ := h
    refine ⟨_, (pss_cons (ps_setLc (i := 3) (own := [("name", 4), ("exponent", 5)]) rfl sc_term_text.nd rfl rfl (sw_true rfl rfl rfl (by decide +kernel)) (RZ.pi_zipA rfl T.n_zip (pa_cons (pe_glob rfl T.g_NAMES (v := .ref T.aNAMES) rfl) (pa_cons (pv 2) pa_nil))) (blkOk_by (own := [("name", 4), ("exponent", 5)]) (N := N_term_text) (sc := defScope s_term_text) (by decide +kernel)) (fun _ _ _ _ _ => (pg_tupK (K := K) (n := 2) rfl rfl (pgs_cons (pg_name (i := 4) sc_term_text.nd rfl (Or.inl rfl)) (pgs_cons (pg_name (i := 5) sc_term_text.nd rfl (Or.inl rfl)) pgs_nil)))) (fun _ _ _ _ _ => pts_one (pt_cmpR op_gt (pv 5) pe_int (nomark _))) (fun _ _ _ _ _ => (pe_call (ok_power_text T) (hr.mono (by decide)) rfl T.power_text.g T.power_text.F.kp (b_power_text T) .nil pass0 (pa_cons (pv 4) (pa_cons (pv 5) pa_nil)))))
  (pss_cons (ps_set (i := 6) sc_term_text.nd rfl (Or.inl rfl) (pe_call (ok_number_text T) (hr.mono (by decide)) rfl T.number_text.g T.number_text.F.kp (b_number_text T) .nil pass0 (pa_cons (pv 0) (pa_cons (pv 1) pa_nil))))
  (pss_cons (ps_if (PW.pt (pw_or (pt_cmpR op_ne (pv 6) pe_str (nomark _)) (pw_or1 (pt_not (pt_truth (pv 3) (by intro _; rfl)))))) (pss_one (ps_set (i := 3) sc_term_text.nd rfl (Or.inl rfl) (pe_op op_cat (pe_lst (pa_cons (pv 6) pa_nil)) (pv 3)))) pss_nil)
  (pss_one (ps_ret (pe_join pe_str (pv 3))))))), ?_⟩
    have hb : 1000 < sizeLine := by decide
    have hMs : SqT K H M (es.map V.int) := .inl (.inl hM)
    have hzl : ((ltrs 4).zip es).length = min (namesV.map V.str).length (es.map V.int).length := by rw [List.length_zip, List.length_map, List.length_map]; rfl
    walk_at "rd"
    refine ⟨T.aNAMES, M, _, _, rfl, .inr ⟨T.t_NAMES.sqt, hMs, fun D hD => ?_⟩⟩
    refine lc_gen (walk_zipTT (K := K) (a := T.aNAMES) (b := M) (xs := namesV.map V.str) (ys := es.map V.int) rfl) ((ltrs 4).zip es) (fun e => decide (0 < e.2)) (fun e => powT e.1 e.2) (fun b v _ => v = V.str (tx b)) hzl (fun H' s => ⟨T.t_NAMES.sqt, Toy.Same.tup s hMs⟩) hD (by rw [← hzl, List.length_zip]; have := Nat.min_le_left (ltrs 4).length es.length; have h4 : (ltrs 4).length = 4 := rfl; omega) (fun _ _ _ _ _ h => h) (fun i q y Ha Hb Qn Qy hq sa yy hf ht => ?_) (fun H' zs s' e' fz => ?_)
    · obtain ⟨Tz, x1, y1, rfl, nT, rfl, ex, ey⟩ := yy
      have ex : (namesV.map V.str)[i]? = some x1 := ex
      have ey : (es.map V.int)[i]? = some y1 := ey
      rw [List.getElem?_map] at ex ey
      obtain ⟨c1, hc1, rfl⟩ := Option.map_eq_some_iff.mp ex
      obtain ⟨e1, he1, rfl⟩ := Option.map_eq_some_iff.mp ey
      have hc2 : ∃ c, (ltrs 4)[i]? = some c ∧ c1 = tx [c] := by
        have hn : namesV = (ltrs 4).map fun c => tx [c] := rfl
        rw [hn, List.getElem?_map] at hc1
        obtain ⟨c, h1, h2⟩ := Option.map_eq_some_iff.mp hc1
        exact ⟨c, h1, h2.symm⟩
      obtain ⟨c, hc3, rfl⟩ := hc2
      have hq2 : q = (c, e1) := by
        have := List.getElem?_zip_eq_some.mp (show ((ltrs 4).zip es)[i]? = some (q.1, q.2) from hq)
        rw [hc3, he1] at this
        exact Prod.ext (Option.some.inj this.1).symm (Option.some.inj this.2).symm
      subst hq2
      have heb := he e1 (List.mem_of_getElem? he1)
      have s7 := same_upd (o := .tup [V.str (tx [c]), V.int e1]) nT
      refine ⟨Tz, _, rfl, .inl (.inl upd_same), rfl, ?_⟩
      walk_at "rd"
      refine iteD (fun h => ?_) (fun h => hf (decide_eq_false h) _ s7)
      walk_at "rd"
      refine ⟨c, e1.toNat, congrArg (fun z => [V.str (tx [c]), V.int z]) (Int.toNat_of_nonneg heb.1).symm, by omega, ?_⟩
      exact ht (decide_eq_true h) _ _ s7 (by rw [Int.toNat_of_nonneg heb.1])
    · have ez : zs = (facT es).map fun b => V.str (tx b) := fz.map (g := fun b => V.str (tx b))
      subst ez
      have hfl := facT_len es
      walk_at "rd"
      refine ⟨f, v, x, rfl, hv.same s', hx.1, hx.2.1, hx.2.2, fun H2 s2 => ?_⟩
      have e2 := s2 _ _ e'
      have s02 := Same.trans s' s2
      have hjl := termL_sum hx he
      have fin : ∀ (G : Hp) (p : Addr) (L : List (List Nat)), Same H G → G p = some (.lst (L.map fun b => V.str (tx b))) → L = (if numT x ≠ [49] ∨ facT es = [] then numT x :: facT es else facT es) → ∃ (a : Str) (q : Addr) (ys : List Str), V.str ("*" : Str) = .str a ∧ [V.ref p] = [.ref q] ∧ (SqL K G q (ys.map V.str) ∨ SqT K G q (ys.map V.str)) ∧ (ys.map (·.length)).sum + ys.length * a.length ≤ 16777216 ∧ Q (.str (Txt.join a ys)) G := fun G p L sG hp hL => by
        refine ⟨_, p, L.map tx, rfl, rfl, .inl (.inl (.inl ?_)), ?_, ?_⟩
        · rw [hp, List.map_map]; rfl
        · rw [map_tx_len, List.length_map, s_star, tx_len, List.length_singleton, Nat.mul_one, hL]
          omega
        · rw [s_star, show Txt.join (tx [42]) (L.map tx) = tx (TL.joinL [42] L) from SX.join_S [42] L, hL]
          exact k G sG
      walk_at "rd"
      have s1 : ("1" : Str) = tx [49] := by decide
      rw [s1, vstr]
      have caseA : ∀ L, L = numT x :: facT es → (numT x ≠ [49] ∨ facT es = []) → L = (if numT x ≠ [49] ∨ facT es = [] then numT x :: facT es else facT es) := fun L h1 h2 => by rw [if_pos h2]; exact h1
      refine iteDn (fun hne => ?_) (fun he1 => ?_)
      · walk_at "rd"
        refine ⟨(show 1 ≤ sizeLine by decide), fun pl hpl => ?_⟩
        have s3 := same_upd (o := .lst [V.str (tx (numT x))]) hpl
        walk_at "rd"
        refine ⟨pl, D, _, _, rfl, rfl, upd_same, s3 _ _ e2, (show ([V.str (tx (numT x))].length + ((facT es).map fun b => V.str (tx b)).length ≤ sizeLine) by rw [List.length_map, List.length_singleton]; omega), fun p hp => ?_⟩
        have s4 := same_upd (o := .lst ([V.str (tx (numT x))] ++ (facT es).map fun b => V.str (tx b))) hp
        walk_at "rd"
        refine ⟨⟨_, rfl⟩, ?_⟩
        walk_at "rd"
        exact fin _ p (numT x :: facT es) (Same.trans s02 (Same.trans s3 s4)) upd_same (caseA _ rfl (.inl hne))
      · walk_at "rd"
        refine ⟨_, .inl ⟨_, .inl (.inl e2), rfl⟩, ?_⟩
        cases hfe : facT es with
        | nil =>
          rw [hfe] at e2
          walk_at "rd"
          refine ⟨(show 1 ≤ sizeLine by decide), fun pl hpl => ?_⟩
          have s3 := same_upd (o := .lst [V.str (tx (numT x))]) hpl
          walk_at "rd"
          refine ⟨pl, D, _, _, rfl, rfl, upd_same, (s3 _ _ e2).trans (by rw [hfe]), (show ([V.str (tx (numT x))].length + ((facT es).map fun b => V.str (tx b)).length ≤ sizeLine) by rw [List.length_map, List.length_singleton]; omega), fun p hp => ?_⟩
          have s4 := same_upd (o := .lst ([V.str (tx (numT x))] ++ (facT es).map fun b => V.str (tx b))) hp
          walk_at "rd"
          refine ⟨⟨_, rfl⟩, ?_⟩
          walk_at "rd"
          exact fin _ p (numT x :: facT es) (Same.trans s02 (Same.trans s3 s4)) upd_same (caseA _ rfl (.inr hfe))
        | cons y ys =>
          walk_at "rd"
          refine ⟨⟨_, rfl⟩, ?_⟩
          walk_at "rd"
          exact fin H2 D (facT es) s02 e2 (by rw [if_neg (fun z => z.elim (fun z => z he1) fun z => by rw [hfe] at z; cases z)])
end

local macro_rules | `(tactic| walk_at "rf") => `(tactic| repeat (first | walk_at "rd1" | refine ⟨_, _, _, _, _, rfl, (by assumption), (by assumption), (by assumption), rfl, ?_⟩))

/-! ### write -/
theorem cut_plus (l : List Nat) : Txt.removeprefix (tx l) (tx [43]) = tx (cutP l) := by
  unfold Txt.removeprefix Txt.affix
  cases l with
  | nil =>
    rw [if_neg (by decide)]
    rfl
  | cons c r =>
    have e1 : Builtin.Str.subAt (tx (c :: r)) (tx [43]) 0 = decide (c = 43) := by
      unfold Builtin.Str.subAt
      show ((c :: r).toArray.extract 0 (0 + [43].toArray.size) == [43].toArray) = _
      by_cases h : c = 43
      · subst h
        simp
      · rw [decide_eq_false h]
        simp [h]
    rw [e1]
    by_cases h : c = 43
    · rw [if_pos (decide_eq_true h)]
      show (if ((tx (c :: r)).length - (tx [43]).length == (tx (c :: r)).length) = true then _ else _) = _
      have l1 : (tx (c :: r)).length = r.length + 1 := tx_len _
      have l2 : (tx [43]).length = 1 := rfl
      rw [l1, l2, if_neg (by simp)]
      show (⟨(c :: r).toArray.extract 1 (r.length + 1)⟩ : Str) = tx (if c = 43 then r else c :: r)
      rw [if_pos h]
      unfold tx
      simp
    · rw [if_neg (by rw [decide_eq_false h]; exact Bool.false_ne_true)]
      show tx (c :: r) = tx (if c = 43 then r else c :: r)
      rw [if_neg h]
theorem joinL_nil : ∀ l : List (List Nat), TL.joinL [] l = l.flatten
  | [] => rfl
  | [p] => by simp [TL.joinL]
  | p :: q :: r => by
    have := joinL_nil (q :: r)
    unfold TL.joinL
    rw [this]
    simp
theorem cutP_len (l : List Nat) : (cutP l).length ≤ l.length := by
  cases l with
  | nil => exact Nat.le_refl _
  | cons c r =>
    show (if c = 43 then r else c :: r).length ≤ _
    split <;> simp
theorem flat_len {l : List (List Nat)} {m : Nat} (h : ∀ x ∈ l, x.length ≤ m) : l.flatten.length ≤ l.length * m := by
  rw [List.length_flatten]
  exact lens_le h
section
variable {P : Program} {w : World} {K : PySem.W.Frag} {mg : Str → Option Value} {base : Heap}
def sp_text_of (C : Addr) (K : PySem.W.Frag) : Sp := fun vs H Q _ => ∃ (c : Addr) (f : Int) (pv : V) (ts : List Tm), vs = [.ref c, pv] ∧ CodF C H c f ∧ PolyV K H f pv ts ∧ ts.length ≤ 500 ∧ (∀ t ∈ ts, NumB t.1 ∧ t.2.length ≤ 4 ∧ ∀ e ∈ t.2, 0 ≤ e ∧ e ≤ 60) ∧ ∀ H', Same H H' → Q (.str (tx (textT ts))) H'
theorem ok_text_of (T : Txt K mg) : FnOk P w K mg base CX0 4 T.text_of.f T.text_of.fd P_text_of (sp_text_of T.Coding.C K) := by
  refine T.text_of.F.ok sc_text_of (fun vs H Q E h => ?_) (fun cdv A outer s H vs Q E hr h => ?_)
  · obtain ⟨c, f, pv, ts, rfl, _⟩ := h; rfl
  · obtain ⟨c, f, pv, ts, rfl, hc, hp, hl, hok, k⟩ := h
    obtain ⟨pa, vs, rfl, hP, hvl, hT⟩ := id hp
    obtain ⟨dx, fs, c1, c2, _⟩ := id hc
    refine ⟨_, (pss_cons (ps_if (pt_not (pt_truth (pv 1) (by intro _; rfl))) (pss_one (ps_ret pe_str)) pss_nil)
  (pss_cons (ps_set (i := 2) sc_text_of.nd rfl (Or.inl rfl) (pe_join pe_str (pe_lc (own := [("number", 3), ("monomial", 4)]) rfl sc_text_of.nd (pi_tup (pv 1)) (blkOk_by (own := [("number", 3), ("monomial", 4)]) (N := N_text_of) (sc := defScope s_text_of) (by decide +kernel)) (fun _ _ _ _ _ => (pg_tupK (K := K) (n := 2) rfl rfl (pgs_cons (pg_name (i := 3) sc_text_of.nd rfl (Or.inl rfl)) (pgs_cons (pg_name (i := 4) sc_text_of.nd rfl (Or.inl rfl)) pgs_nil)))) (fun _ _ _ _ _ => pts_nil) (fun _ _ _ _ _ => (pe_op op_add_str (pe_call (ok_sign_of T) (hr.mono (by decide)) rfl T.sign_of.g T.sign_of.F.kp (b_sign_of T) .nil pass0 (pa_cons (pe_fldK (K := K) rfl (pv 0) rfl) (pa_cons (pv 3) pa_nil))) (pe_call (ok_term_text T) (hr.mono (by decide)) rfl T.term_text.g T.term_text.F.kp (b_term_text T) .nil pass0 (pa_cons (pe_fldK (K := K) rfl (pv 0) rfl) (pa_cons (pv 3) (pa_cons (pv 4) pa_nil)))))))))
  (pss_one (ps_ret (pe_bm PySem.F.plainAttrs_str PySem.F.slot_str_removeprefix PySem.F.type_str_removeprefix mt_removeprefix (pv 2) (pa_cons pe_str pa_nil)))))), ?_⟩
    have hb : 1000000 < sizeLine := by decide
    walk_at "rd"
    refine ⟨_, .inr (.inl ⟨_, hP, rfl⟩), ?_⟩
    unfold textT at k
    cases vs with
    | nil =>
      have hts : ts = [] := List.eq_nil_of_length_eq_zero (by simpa using hvl.symm)
      rw [if_pos hts] at k
      walk_at "rd"
      rw [s_zero]
      exact k H (Same.refl _)
    | cons v0 vr =>
      have hts : ts ≠ [] := fun z => by rw [z] at hvl; cases hvl
      rw [if_neg hts] at k
      walk_at "rd"
      generalize v0 :: vr = vs at *
      refine ⟨⟨_, rfl⟩, ?_⟩
      walk_at "rd"
      refine ⟨⟨_, hP⟩, fun D hD => ?_⟩
      refine lc_gen (walk_tup (K := K) (a := pa) (xs := vs)) ts (fun _ => true) (fun t => sgnT t.1 ++ termT t.1 t.2) (fun b v _ => v = V.str (tx b)) hvl.symm (fun H' s => Toy.Same.tup s hP) hD (by omega) (fun _ _ _ _ _ h => h) (fun i t y Ha Hb Qn Qy ht sa yy _ hy => ?_) (fun H' zs s' e' fz => ?_)
      · obtain ⟨rfl, ey⟩ := yy
        obtain ⟨tp, M, nv, rfl, h1, h2, h3⟩ := hT i y t ey ht
        obtain ⟨o1, o2, o3⟩ := hok t (List.mem_of_getElem? ht)
        have h1' := Toy.Same.tup sa h1
        refine ⟨tp, _, rfl, h1', rfl, ?_⟩
        walk_at "rd"
        refine ⟨_, _, _, _, _, rfl, sa _ _ c1, T.Coding.cls, T.Coding.n_field, c2, ?_⟩
        walk_at "rd"
        refine ⟨f, nv, t.1, rfl, h2.same sa, fun G1 s1 => ?_⟩
        walk_at "rd"
        refine ⟨_, _, _, _, _, rfl, s1 _ _ (sa _ _ c1), T.Coding.cls, T.Coding.n_field, c2, ?_⟩
        walk_at "rd"
        refine ⟨f, nv, t.1, M, t.2, rfl, (h2.same sa).same s1, o1, s1 _ _ (sa _ _ h3), o2, o3, fun G2 s2 => ?_⟩
        have hl1 : (sgnT t.1).length ≤ 1 := by unfold sgnT; split <;> simp
        have hl2 := termT_len o1 o3
        refine ⟨_, _, rfl, rfl, by rw [tx_len, tx_len]; omega, ?_⟩
        rw [tx_app]
        exact hy rfl _ _ (Same.trans s1 s2) rfl
      · have ez : zs = ((ts.filter fun _ => true).map fun t => sgnT t.1 ++ termT t.1 t.2).map fun b => V.str (tx b) := fz.map (g := fun b => V.str (tx b))
        rw [filterT] at ez
        subst ez
        walk_at "rd"
        have each : ∀ x ∈ ts.map (fun t => sgnT t.1 ++ termT t.1 t.2), x.length ≤ 501 := fun x hx => by
          obtain ⟨t, ht, rfl⟩ := List.mem_map.mp hx
          obtain ⟨o1, o2, o3⟩ := hok t ht
          have hl1 : (sgnT t.1).length ≤ 1 := by unfold sgnT; split <;> simp
          have hl2 := termT_len o1 o3
          rw [List.length_append]
          omega
        generalize eL : ts.map (fun t => sgnT t.1 ++ termT t.1 t.2) = L at *
        have hLl : L.length ≤ 500 := by rw [← eL, List.length_map]; exact hl
        have h1 := lens_le each
        have h2 := flat_len each
        have h3 : L.length * 501 ≤ 500 * 501 := Nat.mul_le_mul_right _ hLl
        refine ⟨_, D, L.map tx, rfl, rfl, .inl (.inl (.inl (by rw [e', List.map_map]; rfl))), by rw [map_tx_len, List.length_map, s_empty, tx_len]; simp only [List.length_nil, Nat.mul_zero]; omega, ?_⟩
        rw [s_empty, show Txt.join (tx []) (L.map tx) = tx (TL.joinL [] L) from SX.join_S [] L, joinL_nil]
        have hfl : (tx L.flatten).length ≤ sizeLine := by rw [tx_len]; omega
        walk_at "rd"
        refine ⟨hfl, ?_⟩
        rw [s_plus, cut_plus]
        exact k H' s'
end

local macro_rules | `(tactic| walk_at "rf") => `(tactic| repeat (first | walk_at "rd1" | refine ⟨_, _, _, _, _, rfl, (by assumption), (by assumption), (by assumption), rfl, ?_⟩))

theorem numok_B {f : Int} {x : Int × Int} (hF : IsF f) (h : NumOk f x) : NumB x := by
  have h31 := hF.lt
  have hb : 100 < NBn := by decide +kernel
  unfold NumOk at h
  by_cases f0 : f = 0
  · rw [if_pos f0] at h
    exact ⟨h.1, h.2.1, h.2.2.1⟩
  · rw [if_neg f0] at h
    obtain ⟨h1, h2, h3⟩ := h
    exact ⟨by omega, by omega, by omega⟩
/-- small numbers -/
def NumT (x : Int × Int) : Prop := x.1.natAbs < 100 ∧ 0 < x.2 ∧ (x.2 = 1 ∨ (x.1.natAbs < 10 ∧ x.2.natAbs < 10))
theorem numT_small {x : Int × Int} (h : NumT x) : (numT x).length ≤ 3 := by
  unfold numT
  split
  · exact Nat.le_trans (TL.numL_len (k := 2) (by decide) (by have := h.1; omega)) (by decide)
  · rename_i h1
    obtain ⟨h2, h3⟩ := h.2.2.resolve_left h1
    have n1 : (TL.numL x.1.natAbs).length ≤ 1 := TL.numL_len (by decide) (by omega)
    have n2 : (TL.numL x.2.natAbs).length ≤ 1 := TL.numL_len (by decide) (by omega)
    simp
    omega
theorem termT_small {x : Int × Int} {es : List Int} (hx : NumT x) (h : ∀ e ∈ es, 0 ≤ e ∧ e ≤ 60) : (termT x es).length ≤ 24 := by
  have h0 := joinL_len [42] (if numT x ≠ [49] ∨ facT es = [] then numT x :: facT es else facT es)
  rw [List.length_singleton, Nat.mul_one] at h0
  have h1 := lens_le (facT_each h)
  have h2 := facT_len es
  have h3 := numT_small hx
  have h4 : (facT es).length * 4 ≤ 16 := by omega
  have h5 : ((if numT x ≠ [49] ∨ facT es = [] then numT x :: facT es else facT es).map List.length).sum + (if numT x ≠ [49] ∨ facT es = [] then numT x :: facT es else facT es).length ≤ 24 := by
    split
    · rw [List.map_cons, List.sum_cons, List.length_cons]; omega
    · omega
  unfold termT
  omega
theorem textT_small {ts : List Tm} {k : Nat} (hk : ts.length ≤ k) (h : ∀ t ∈ ts, NumT t.1 ∧ ∀ e ∈ t.2, 0 ≤ e ∧ e ≤ 60) : (textT ts).length ≤ 25 * k + 1 := by
  unfold textT
  split
  · simp
  · have h1 := cutP_len (ts.map fun t => sgnT t.1 ++ termT t.1 t.2).flatten
    have h2 : (ts.map fun t => sgnT t.1 ++ termT t.1 t.2).flatten.length ≤ (ts.map fun t => sgnT t.1 ++ termT t.1 t.2).length * 25 := flat_len fun x hx => by
      obtain ⟨t, ht, rfl⟩ := List.mem_map.mp hx
      obtain ⟨o1, o2⟩ := h t ht
      have hl1 : (sgnT t.1).length ≤ 1 := by unfold sgnT; split <;> simp
      have hl2 := termT_small o1 o2
      rw [List.length_append]
      omega
    rw [List.length_map] at h2
    have h3 : ts.length * 25 ≤ k * 25 := Nat.mul_le_mul_right _ hk
    omega
section
variable {P : Program} {w : World} {K : PySem.W.Frag} {mg : Str → Option Value} {base : Heap}
def sp_write (t : TabsAt) (K : PySem.W.Frag) : Sp := fun vs H Q _ => ∃ (f : Int) (n : Nat) (o : Ord) (v pv : V) (ts : List Tm), vs = [v, pv] ∧ RgV K H v f n o ∧ PolyV K H f pv ts ∧ PolyOk f n (rowsL n o) ts ∧ TS t H ∧ ∀ H', Ex t H H' → Q (.str (tx (textT ts))) H'
theorem ok_write (T : Txt K mg) {t : TabsAt} (B : TBs T base t) : FnOk P w K mg base CX0 22 T.write.f T.write.fd P_write (sp_write t K) := by
  refine T.write.F.ok sc_write (fun vs H Q E h => ?_) (fun cdv A outer s H vs Q E hr h => ?_)
  · obtain ⟨f, n, o, v, qv, ts, rfl, _⟩ := h; rfl
  · obtain ⟨f, n, o, v, qv, ts, rfl, hv, hp, hok, tsH, k⟩ := h
    refine ⟨_, (pss_cons (ps_set (i := 2) sc_write.nd rfl (Or.inl rfl) (pe_call (ok_check_ring T B) (hr.mono (by decide)) rfl T.check_ring.g T.check_ring.F.kp (b_check_ring T) .nil pass0 (pa_cons (pv 0) pa_nil)))
  (pss_cons (ps_expr (pe_call (ok_check_polynomial T B) (hr.mono (by decide)) rfl T.check_polynomial.g T.check_polynomial.F.kp (b_check_polynomial T) .nil pass0 (pa_cons (pv 2) (pa_cons (pv 1) pa_nil))))
  (pss_one (ps_ret (pe_call (ok_text_of T) (hr.mono (by decide)) rfl T.text_of.g T.text_of.F.kp (b_text_of T) .nil pass0 (pa_cons (pv 2) (pa_cons (pv 1) pa_nil))))))), ?_⟩
    walk_at "rd"
    refine ⟨f, n, o, v, rfl, hv.hf, hv.h1, hv.h4, hv.ho, hv.hd, tsH, fun c H1 x1 hc => ?_⟩
    have hp1 := hp.ex x1.keep
    walk_at "rd"
    refine ⟨c, f, n, rowsL n o, qv, ts, rfl, hv.h4, rows_ok hv.h1 hv.h4 hv.ho, hc.1, hc.2, hp1, hok, x1.ts, fun H2 x2 => ?_⟩
    walk_at "rd"
    refine ⟨c, f, qv, ts, rfl, hc.2.ex x2.keep, hp1.ex x2.keep, ?_, fun u hu => ?_, fun H3 s3 => k H3 ((x1.trans x2).same s3)⟩
    · exact hok.1
    · obtain ⟨h1, h2⟩ := (hok.2.1 u hu).1
      exact ⟨numok_B hv.hf.isF h1, by rw [h2.1.1]; exact hv.h4, h2.1.2⟩
end

local macro_rules | `(tactic| walk_at "rf") => `(tactic| repeat (first | walk_at "rd1" | refine ⟨_, _, _, _, _, rfl, (by assumption), (by assumption), (by assumption), rfl, ?_⟩))

/-! ### the law's reader: spaces, figures, integers -/
def fgB (T : List Nat) (p : Nat) : Bool := match T[p]? with
  | some c => digB c
  | none => false
theorem dig_mem (c : Nat) : decide (c ∈ ("0123456789" : Str).cps.toList) = digB c := by
  have e : ("0123456789" : Str).cps.toList = [48, 49, 50, 51, 52, 53, 54, 55, 56, 57] := by decide +kernel
  rw [e]
  unfold digB
  by_cases h : 48 ≤ c ∧ c ≤ 57
  · rw [decide_eq_true h.1, decide_eq_true h.2]
    refine decide_eq_true ?_
    simp only [List.mem_cons, List.not_mem_nil, or_false]
    omega
  · have z : (decide (48 ≤ c) && decide (c ≤ 57)) = false := by
      rw [Bool.and_eq_false_iff, decide_eq_false_iff_not, decide_eq_false_iff_not]; omega
    rw [z]
    refine decide_eq_false ?_
    simp only [List.mem_cons, List.not_mem_nil, or_false]
    omega
theorem fgs_stepB {T : List Nat} {p : Nat} (h : fgB T p = true) : fgs T p = fgs T (p + 1) ∧ p < T.length := by
  unfold fgB at h
  cases e : T[p]? with
  | none => rw [e] at h; cases h
  | some c => rw [e] at h; exact ⟨fgs_step e h, (List.getElem?_eq_some_iff.mp e).1⟩
theorem fgs_stopB {T : List Nat} {p : Nat} (h : fgB T p = false) : fgs T p = p := fgs_stop fun c e => by
  unfold fgB at h
  rw [e] at h
  exact h
section
variable {P : Program} {w : World} {K : PySem.W.Frag} {mg : Str → Option Value} {base : Heap}
def sp_law_skip : Sp := fun vs H Q _ => ∃ (T : List Nat) (p : Nat), vs = [.str (tx T), .int p] ∧ T.length ≤ 1000 ∧ p ≤ T.length ∧ Q (.int (skp T p : Nat)) H
theorem ok_law_skip (T : Txt K mg) : FnOk P w K mg base CX0 1 T.law_skip.f T.law_skip.fd P_law_skip sp_law_skip := by
  refine T.law_skip.F.ok sc_law_skip (fun vs H Q E h => ?_) (fun cdv A outer s H vs Q E hr h => ?_)
  · obtain ⟨X, p, rfl, _⟩ := h; rfl
  · obtain ⟨X, p, rfl, hX, hp, k⟩ := h
    refine ⟨_, (pss_cons (ps_for PassesOwn.never rfl (pi_range1 rfl T.n_range (pa_cons (pe_callB call_len_str rfl T.n_len bo_len (pa_cons (pv 0) pa_nil)) pa_nil)) (pg_name (i := 2) sc_law_skip.nd rfl (Or.inl rfl)) (pss_one (ps_set (i := 1) sc_law_skip.nd rfl (Or.inl rfl) (pe_op op_add (pv 1) (pe_callTy call_int1 rfl T.n_int bo_int (pa_cons (pe_cmpR op_eq (pe_slice sl_str (pv 0) (po_some (pv 1)) (po_some (pe_op op_add (pv 1) pe_int))) pe_str (nomark _)) pa_nil))))))
  (pss_one (ps_ret (pv 1)))), ?_⟩
    have hl := skp_le hp
    walk_at "rd"
    refine ⟨tx_line (by omega), ?_⟩
    rw [tx_len]
    walk_at "rd"
    refine ⟨(show (-2 ^ 62 : Int) ≤ (X.length : Int) by omega), (show (X.length : Int) < 2 ^ 62 by omega), ?_⟩
    rw [Int.toNat_natCast]
    refine for_range (lo := 0) (n := X.length) (fun i σ H' => H' = H ∧ ∃ (q : Nat) (y : Option V), σ = [some (.str (tx X)), some (.int (q : Int)), y] ∧ q ≤ skp X p ∧ skp X q = skp X p ∧ (q = skp X p ∨ q = p + i)) ⟨rfl, p, none, rfl, skp_ge X p, rfl, .inr rfl⟩ ?_ ?_
    · rintro i σ H' hi ⟨rfl, q, y, rfl, h1, h2, h3⟩
      walk_at "rd"
      refine ⟨tx_line (by omega), ?_⟩
      rw [cut_one (by omega)]
      walk_at "rd"
      rw [s_space, vstr]
      refine .inr ⟨_, rfl, ?_⟩
      walk_at "rd"
      cases hc : decide (sg X q = [32]) with
      | true =>
        have h4 := sg_iff.mp (of_decide_eq_true hc)
        have h5 := skp_step h4
        have h6 := skp_ge X (q + 1)
        exact ⟨q + 1, some (.int (0 + (i : Int))), rfl, by omega, by omega, .inr (by omega)⟩
      | false =>
        have h4 : X[q]? ≠ some 32 := fun z => (of_decide_eq_false hc) (sg_iff.mpr z)
        have h5 := skp_stop h4
        exact ⟨q, some (.int (0 + (i : Int))), by simp, by omega, h2, .inl (by omega)⟩
    · rintro σ H' ⟨rfl, q, y, rfl, h1, h2, h3⟩
      walk_at "rd"
      have : q = skp X p := by omega
      rw [this]
      exact k
def sp_law_is_figure : Sp := fun vs H Q _ => ∃ (T : List Nat) (p : Nat), vs = [.str (tx T), .int p] ∧ T.length ≤ 1000 ∧ Q (.bl (fgB T p)) H
theorem ok_law_is_figure (T : Txt K mg) : FnOk P w K mg base CX0 1 T.law_is_figure.f T.law_is_figure.fd P_law_is_figure sp_law_is_figure := by
  refine T.law_is_figure.F.ok sc_law_is_figure (fun vs H Q E h => ?_) (fun cdv A outer s H vs Q E hr h => ?_)
  · obtain ⟨X, p, rfl, _⟩ := h; rfl
  · obtain ⟨X, p, rfl, hX, k⟩ := h
    refine ⟨_, (pss_one (ps_ret (pe_and (pe_cmpR op_lt (pv 1) (pe_callB call_len_str rfl T.n_len bo_len (pa_cons (pv 0) pa_nil)) (nomark _)) (pe_one (pe_cmpR op_in_sign (pe_ix ix_str (pv 0) (pv 1) (fun _ _ => rfl)) pe_str (by rfl)))))), ?_⟩
    unfold fgB at k
    walk_at "rd"
    refine ⟨tx_line (by omega), ?_⟩
    rw [tx_len]
    walk_at "rd"
    cases e : X[p]? with
    | none =>
      have h1 := List.getElem?_eq_none_iff.mp e
      rw [e] at k
      rw [decide_eq_false (show ¬ (p : Int) < (X.length : Int) by omega)]
      walk_at "rd"
      exact k
    | some c =>
      have h1 := (List.getElem?_eq_some_iff.mp e).1
      rw [e] at k
      rw [decide_eq_true (show (p : Int) < (X.length : Int) by omega)]
      walk_at "rd"
      refine ⟨_, _, c, rfl, rfl, tx_line (by omega), at_str e, ?_⟩
      refine ⟨c, _, rfl, rfl, ?_⟩
      rw [dig_mem]
      exact k
def sp_law_integer : Sp := fun vs H Q _ => ∃ (T : List Nat) (p : Nat), vs = [.str (tx T), .int p] ∧ T.length ≤ 1000 ∧ fgB T p = true ∧ ∀ t H' (v : Nat), Same H H' → (okI (figL T p) = true → v = NumText.digitsVal (figL T p)) → H' t = some (.tup [.int (fgs T p : Nat), .bl (okI (figL T p)), .int (v : Int)]) → Q (.ref t) H'
theorem ok_law_integer (T : Txt K mg) : FnOk P w K mg base CX0 2 T.law_integer.f T.law_integer.fd P_law_integer sp_law_integer := by
  refine T.law_integer.F.ok sc_law_integer (fun vs H Q E h => ?_) (fun cdv A outer s H vs Q E hr h => ?_)
  · obtain ⟨X, p, rfl, _⟩ := h; rfl
  · obtain ⟨X, p, rfl, hX, hfp, k⟩ := h
    refine ⟨_, (pss_cons (ps_set (i := 2) sc_law_integer.nd rfl (Or.inl rfl) (pv 1))
  (pss_cons (ps_for PassesOwn.never rfl (pi_range1 rfl T.n_range (pa_cons (pe_callB call_len_str rfl T.n_len bo_len (pa_cons (pv 0) pa_nil)) pa_nil)) (pg_name (i := 3) sc_law_integer.nd rfl (Or.inl rfl)) (pss_one (ps_set (i := 2) sc_law_integer.nd rfl (Or.inl rfl) (pe_op op_add (pv 2) (pe_callTy call_int1 rfl T.n_int bo_int (pa_cons (pe_call (ok_law_is_figure T) (hr.mono (by decide)) rfl T.law_is_figure.g T.law_is_figure.F.kp (b_law_is_figure T) .nil pass0 (pa_cons (pv 0) (pa_cons (pv 2) pa_nil))) pa_nil))))))
  (pss_cons (ps_set (i := 4) sc_law_integer.nd rfl (Or.inl rfl) (pe_slice sl_str (pv 0) (po_some (pv 1)) (po_some (pv 2))))
  (pss_cons (ps_set (i := 5) sc_law_integer.nd rfl (Or.inl rfl) (pe_and (pe_cmpR op_lt (pe_callB call_len_str rfl T.n_len bo_len (pa_cons (pv 4) pa_nil)) pe_int (nomark _)) (pe_one (pe_or (pe_cmpR op_eq (pe_callB call_len_str rfl T.n_len bo_len (pa_cons (pv 4) pa_nil)) pe_int (nomark _)) (pe_one (pe_cmpR op_ne (pe_ix ix_str (pv 4) pe_int (fun _ _ => rfl)) pe_str (nomark _)))))))
  (pss_one (ps_ret (pe_tup (pa_cons (pv 2) (pa_cons (pv 5) (pa_cons (pe_ifExp (pt_truth (pv 5) (by intro _; rfl)) (pe_callTy call_int_str rfl T.n_int bo_int (pa_cons (pv 4) pa_nil)) pe_int) pa_nil)))))))))), ?_⟩
    have hpl := (fgs_stepB hfp).2
    have hl := fgs_le (T := X) (p := p) (by omega)
    walk_at "rd"
    refine ⟨tx_line (by omega), ?_⟩
    rw [tx_len]
    walk_at "rd"
    refine ⟨(show (-2 ^ 62 : Int) ≤ (X.length : Int) by omega), (show (X.length : Int) < 2 ^ 62 by omega), ?_⟩
    rw [Int.toNat_natCast]
    refine for_range (lo := 0) (n := X.length) (fun i σ H' => H' = H ∧ ∃ (q : Nat) (y : Option V), σ = [some (.str (tx X)), some (.int (p : Int)), some (.int (q : Int)), y, none, none] ∧ q ≤ fgs X p ∧ fgs X q = fgs X p ∧ (q = fgs X p ∨ q = p + i)) ⟨rfl, p, none, rfl, fgs_ge X p, rfl, .inr rfl⟩ ?_ ?_
    · rintro i σ H' hi ⟨rfl, q, y, rfl, h1, h2, h3⟩
      walk_at "rd"
      refine ⟨hX, ?_⟩
      refine .inr ⟨_, rfl, ?_⟩
      walk_at "rd"
      cases hc : fgB X q with
      | true =>
        have h5 := (fgs_stepB hc).1
        have h6 := fgs_ge X (q + 1)
        exact ⟨q + 1, some (.int (0 + (i : Int))), rfl, by omega, by omega, .inr (by omega)⟩
      | false =>
        have h5 := fgs_stopB hc
        exact ⟨q, some (.int (0 + (i : Int))), by simp, by omega, h2, .inl (by omega)⟩
    · rintro σ H' ⟨rfl, q, y, rfl, h1, h2, h3⟩
      have : q = fgs X p := by omega
      subst this
      walk_at "rd"
      refine ⟨tx_line (by omega), ?_⟩
      rw [cut_tx (by omega), ← figL_cut]
      have hne : figL X p ≠ [] := fun z => by
        have h4 := figL_len (T := X) (p := p)
        rw [z] at h4
        have h5 := (fgs_stepB hfp).1
        have h6 := fgs_ge X (p + 1)
        simp at h4
        omega
      have hdl : (figL X p).length ≤ 1000 := by rw [figL_len]; omega
      have hdig := figL_dig X p
      generalize figL X p = ds at *
      walk_at "rd"
      refine ⟨tx_line (by omega), ?_⟩
      rw [tx_len]
      walk_at "rd"
      rcases ds with _ | ⟨c, r⟩
      · exact absurd rfl hne
      · have ho : okI (c :: r) = (decide ((((c :: r).length : Nat) : Int) < 61) && (decide ((((c :: r).length : Nat) : Int) = 1) || !decide (c = 48))) := by
          have hm : 1 ≤ (c :: r).length := by simp
          rw [Bool.eq_iff_iff]
          unfold okI
          generalize (c :: r).length = m at *
          simp only [Bool.and_eq_true, Bool.or_eq_true, Bool.not_eq_true', decide_eq_true_eq, decide_eq_false_iff_not, Bool.and_eq_false_iff, List.head?_cons, Option.some.injEq, ne_eq, reduceCtorEq, not_false_eq_true, true_and]
          omega
        have hleaf : ∀ b, okI (c :: r) = b → ∀ t H'_1 (v : Nat), Same H' H'_1 → (b = true → v = NumText.digitsVal (c :: r)) → H'_1 t = some (.tup [.int (fgs X p : Nat), .bl b, .int (v : Int)]) → Q (.ref t) H'_1 := fun b hb => by subst hb; exact k
        refine iteD (fun h1 => ?_) (fun h1 => ?_)
        · rw [decide_eq_true h1] at ho
          walk_at "rd"
          refine ⟨tx_line (by omega), ?_⟩
          rw [tx_len]
          walk_at "rd"
          refine iteV (fun h2 => ?_) (fun h2 => ?_)
          · have h3 : (((c :: r).length : Nat) : Int) = 1 := by simpa using h2
            rw [decide_eq_true h3] at ho
            walk_at "rd"
            refine ⟨tx (c :: r), _, rfl, SX.int_S hdig (by simp) (by omega), by rw [tx_len]; omega, ?_⟩
            walk_at "rd"
            refine ⟨(show 3 ≤ sizeLine by decide), fun t ht => ?_⟩
            exact hleaf true ho t _ _ (same_upd ht) (fun _ => rfl) upd_same
          · have h3 : ¬ (((c :: r).length : Nat) : Int) = 1 := fun z => h2 (by rw [z])
            rw [decide_eq_false h3] at ho
            walk_at "rd"
            refine ⟨_, _, c, rfl, rfl, tx_line (T := c :: r) (by omega), at_str (T := c :: r) (p := 0) rfl, ?_⟩
            walk_at "rd"
            rw [show (⟨#[c]⟩ : Str) = tx [c] from rfl, s_zero, vstr]
            by_cases h48 : c = 48
            · rw [decide_eq_true h48] at ho
              rw [decide_eq_true (show [c] = [48] by rw [h48])]
              walk_at "rd"
              refine ⟨(show 3 ≤ sizeLine by decide), fun t ht => ?_⟩
              exact hleaf false ho t _ 0 (same_upd ht) (fun z => by cases z) upd_same
            · rw [decide_eq_false h48] at ho
              rw [decide_eq_false (show ¬ [c] = [48] by simpa using h48)]
              walk_at "rd"
              refine ⟨tx (c :: r), _, rfl, SX.int_S hdig (by simp) (by omega), by rw [tx_len]; omega, ?_⟩
              walk_at "rd"
              refine ⟨(show 3 ≤ sizeLine by decide), fun t ht => ?_⟩
              exact hleaf true ho t _ _ (same_upd ht) (fun _ => rfl) upd_same
        · rw [decide_eq_false h1] at ho
          walk_at "rd"
          walk_at "rd"
          refine ⟨(show 3 ≤ sizeLine by decide), fun t ht => ?_⟩
          exact hleaf false ho t _ 0 (same_upd ht) (fun z => by cases z) upd_same
end

local macro_rules | `(tactic| walk_at "rf") => `(tactic| repeat (first | walk_at "rd1" | refine ⟨_, _, _, _, _, rfl, (by assumption), (by assumption), (by assumption), rfl, ?_⟩))

/-! ### the law's reader: numbers and powers -/
theorem figL_nil {T : List Nat} {p : Nat} (h : fgB T p = false) : figL T p = [] := by
  have h1 := figL_len (T := T) (p := p)
  rw [fgs_stopB h] at h1
  exact List.length_eq_zero_iff.mp (by omega)
theorem skp_fig {T : List Nat} {p : Nat} (h : fgB T p = true) : skp T p = p := skp_stop fun z => by
  unfold fgB at h
  rw [z] at h
  revert h
  decide
theorem intR_fig {T : List Nat} {p : Nat} (h : fgB T p = true) : intR T p = if okI (figL T p) = true then .ok (p, NumText.digitsVal (figL T p)) (fgs T p) else .err p := by
  unfold intR
  rw [skp_fig h]
theorem intR_no {T : List Nat} {p : Nat} (h : fgB T (skp T p) = false) : intR T p = .err (skp T p) := by
  unfold intR
  rw [figL_nil h]
  rfl
theorem sg_dec (T : List Nat) (p c : Nat) : decide (sg T (skp T p) = [c]) = pasB T p c := by
  unfold pasB
  exact decide_eq_decide.mpr sg_iff
theorem pasP_f {T : List Nat} {p c : Nat} (h : pasB T p c = false) : pasP T p c = skp T p := by
  unfold pasP; rw [h, if_neg Bool.false_ne_true]
theorem pasP_t {T : List Nat} {p c : Nat} (h : pasB T p c = true) : pasP T p c = skp T p + 1 := by
  unfold pasP; rw [if_pos h]
theorem pasB_lt {T : List Nat} {p c : Nat} (h : pasB T p c = true) : skp T p < T.length :=
  (List.getElem?_eq_some_iff.mp (of_decide_eq_true h)).1
theorem addE_sum : ∀ {es : List Int} {i k : Nat}, i < es.length → (addE es i k).sum = es.sum + (k : Int)
  | [], i, k, h => by simp at h
  | a :: es, 0, k, _ => by
    show ((a + (k : Int)) :: es).sum = _
    rw [List.sum_cons, List.sum_cons]
    omega
  | a :: es, i + 1, k, h => by
    have ih := addE_sum (es := es) (i := i) (k := k) (by simpa using h)
    have e : addE (a :: es) (i + 1) k = a :: addE es i k := by
      unfold addE
      rw [List.set_cons_succ, List.getD_cons_succ]
    rw [e, List.sum_cons, List.sum_cons, ih]
    omega
/-- what the law's reader says of a number and of a power -/
def EndR {α : Type} (T : List Nat) (p e : Nat) (r : RR α) (wv : V) (G : α → Prop) : Prop := match r with
  | .err s => wv = .int (s : Int)
  | .ok x q => wv = .non ∧ skp T e = skp T q ∧ e ≤ T.length ∧ p < e ∧ G x
section
variable {P : Program} {w : World} {K : PySem.W.Frag} {mg : Str → Option Value} {base : Heap}
def sp_law_number_end (K : PySem.W.Frag) : Sp := fun vs H Q _ => ∃ (rv : V) (f : Int) (n : Nat) (o : Ord) (T : List Nat) (p : Nat), vs = [rv, .str (tx T), .int p] ∧ RgV K H rv f n o ∧ T.length ≤ 1000 ∧ fgB T p = true ∧
  ∀ t H' (e : Nat) wv, Same H H' → H' t = some (.tup [.int e, wv]) → EndR T p e (quoR f T p) wv (fun _ => True) → Q (.ref t) H'
theorem ok_law_number_end (T : Txt K mg) : FnOk P w K mg base CX0 3 T.law_number_end.f T.law_number_end.fd P_law_number_end (sp_law_number_end K) := by
  refine T.law_number_end.F.ok sc_law_number_end (fun vs H Q E h => ?_) (fun cdv A outer s H vs Q E hr h => ?_)
  · obtain ⟨rv, f, n, o, X, p, rfl, _⟩ := h; rfl
  · obtain ⟨rv, f, n, o, X, p, rfl, hv, hX, hfp, k⟩ := h
    obtain ⟨ra, ov, rfl, hR, hov⟩ := ring_parts hv.hd
    refine ⟨_, (pss_cons (ps_asg (pe_call (ok_law_integer T) (hr.mono (by decide)) rfl T.law_integer.g T.law_integer.F.kp (b_law_integer T) .nil pass0 (pa_cons (pv 1) (pa_cons (pv 2) pa_nil))) (pg_tup rfl (pgs_cons (pg_name (i := 3) sc_law_number_end.nd rfl (Or.inl rfl)) (pgs_cons (pg_name (i := 4) sc_law_number_end.nd rfl (Or.inl rfl)) (pgs_cons (pg_name (i := 5) sc_law_number_end.nd rfl (Or.inl rfl)) pgs_nil)))))
  (pss_cons (ps_if (pt_not (pt_truth (pv 4) (by intro _; rfl))) (pss_one (ps_ret (pe_tup (pa_cons (pv 3) (pa_cons (pv 2) pa_nil))))) pss_nil)
  (pss_cons (ps_set (i := 6) sc_law_number_end.nd rfl (Or.inl rfl) (pe_call (ok_law_skip T) (hr.mono (by decide)) rfl T.law_skip.g T.law_skip.F.kp (b_law_skip T) .nil pass0 (pa_cons (pv 1) (pa_cons (pv 3) pa_nil))))
  (pss_cons (ps_if (pt_cmpR op_ne (pe_slice sl_str (pv 1) (po_some (pv 6)) (po_some (pe_op op_add (pv 6) pe_int))) pe_str (nomark _)) (pss_one (ps_ret (pe_tup (pa_cons (pv 3) (pa_cons pe_non pa_nil))))) pss_nil)
  (pss_cons (ps_set (i := 7) sc_law_number_end.nd rfl (Or.inl rfl) (pe_call (ok_law_skip T) (hr.mono (by decide)) rfl T.law_skip.g T.law_skip.F.kp (b_law_skip T) .nil pass0 (pa_cons (pv 1) (pa_cons (pe_op op_add (pv 6) pe_int) pa_nil))))
  (pss_cons (ps_if (pt_not (pt_val (pe_call (ok_law_is_figure T) (hr.mono (by decide)) rfl T.law_is_figure.g T.law_is_figure.F.kp (b_law_is_figure T) .nil pass0 (pa_cons (pv 1) (pa_cons (pv 7) pa_nil))))) (pss_one (ps_ret (pe_tup (pa_cons (pv 7) (pa_cons (pv 7) pa_nil))))) pss_nil)
  (pss_cons (ps_asg (pe_call (ok_law_integer T) (hr.mono (by decide)) rfl T.law_integer.g T.law_integer.F.kp (b_law_integer T) .nil pass0 (pa_cons (pv 1) (pa_cons (pv 7) pa_nil))) (pg_tup rfl (pgs_cons (pg_name (i := 3) sc_law_number_end.nd rfl (Or.inl rfl)) (pgs_cons (pg_name (i := 4) sc_law_number_end.nd rfl (Or.inl rfl)) (pgs_cons (pg_name (i := 8) sc_law_number_end.nd rfl (Or.inl rfl)) pgs_nil)))))
  (pss_cons (ps_if (PW.pt (pw_or (pt_not (pt_truth (pv 4) (by intro _; rfl))) (pw_or (pt_cmpR op_eq (pv 8) pe_int (nomark _)) (pw_or1 (PW.pt (pw_and (pt_cmpR op_gt (pe_ix (r := rIxT K) ix_tup (pv 0) pe_int (fun _ _ => rfl)) pe_int (nomark _)) (pw_and1 (pt_cmpR op_eq (pe_op op_mod (pe_callTy call_int1 rfl T.n_int bo_int (pa_cons (pv 8) pa_nil)) (pe_ix (r := rIxT K) ix_tup (pv 0) pe_int (fun _ _ => rfl))) pe_int (nomark _))))))))) (pss_one (ps_ret (pe_tup (pa_cons (pv 3) (pa_cons (pv 7) pa_nil))))) pss_nil)
  (pss_one (ps_ret (pe_tup (pa_cons (pv 3) (pa_cons pe_non pa_nil))))))))))))), ?_⟩
    have hpl := (fgs_stepB hfp).2
    have hl := fgs_le (T := X) (p := p) (by omega)
    have hf0 : 0 ≤ f := by have := hv.hf; unfold FieldOk at this; omega
    walk_at "rd"
    refine ⟨hX, hfp, fun t1 H1 v1 s1 hv1 ht1 => ?_⟩
    refine ⟨t1, _, rfl, .inl (.inl ht1), rfl, ?_⟩
    walk_at "rd"
    unfold quoR at k
    rw [intR_fig hfp] at k
    cases hok : okI (figL X p) with
    | false =>
      rw [hok, if_neg Bool.false_ne_true] at k
      walk_at "rd"
      refine ⟨(show 2 ≤ sizeLine by decide), fun t ht => ?_⟩
      exact k t _ (fgs X p) _ (Same.trans s1 (same_upd ht)) upd_same rfl
    | true =>
      rw [hok, if_pos rfl] at k
      dsimp only at k
      walk_at "rd"
      refine ⟨hX, hl, ?_⟩
      have l1 := skp_le (T := X) (p := fgs X p) hl
      walk_at "rd"
      refine ⟨tx_line (by omega), ?_⟩
      rw [cut_one l1]
      walk_at "rd"
      rw [s_slash, vstr, sg_dec]
      have l5 := fgs_ge X (p + 1)
      have l6 := (fgs_stepB hfp).1
      cases hb : pasB X (fgs X p) 47 with
      | false =>
        rw [hb, if_neg Bool.false_ne_true] at k
        walk_at "rd"
        refine ⟨(show 2 ≤ sizeLine by decide), fun t ht => ?_⟩
        exact k t _ (fgs X p) _ (Same.trans s1 (same_upd ht)) upd_same ⟨rfl, by rw [pasP_f hb, skp_skp], hl, by omega, trivial⟩
      | true =>
        rw [hb, if_pos rfl, pasP_t hb] at k
        have l2 := pasB_lt hb
        walk_at "rd"
        refine ⟨hX, (show skp X (fgs X p) + 1 ≤ X.length from l2), ?_⟩
        have l3 := skp_le (T := X) (p := skp X (fgs X p) + 1) (by omega)
        walk_at "rd"
        refine ⟨hX, ?_⟩
        have hsk := intR_no (T := X) (p := skp X (fgs X p) + 1)
        have hdf : intR X (skp X (fgs X p) + 1) = if okI (figL X (skp X (skp X (fgs X p) + 1))) = true then .ok (skp X (skp X (fgs X p) + 1), NumText.digitsVal (figL X (skp X (skp X (fgs X p) + 1)))) (fgs X (skp X (skp X (fgs X p) + 1))) else .err (skp X (skp X (fgs X p) + 1)) := rfl
        have l7 := skp_ge X (skp X (fgs X p) + 1)
        have l8 := skp_ge X (fgs X p)
        generalize skp X (skp X (fgs X p) + 1) = st at *
        cases hfs : fgB X st with
        | false =>
          rw [hsk hfs] at k
          walk_at "rd"
          refine ⟨(show 2 ≤ sizeLine by decide), fun t ht => ?_⟩
          exact k t _ st _ (Same.trans s1 (same_upd ht)) upd_same rfl
        | true =>
          walk_at "rd"
          refine ⟨hX, hfs, fun t2 H2 v2 s2 hv2 ht2 => ?_⟩
          refine ⟨t2, _, rfl, .inl (.inl ht2), rfl, ?_⟩
          walk_at "rd"
          have l9 := (fgs_stepB hfs).1
          have l10 := fgs_ge X (st + 1)
          have l11 := fgs_le (T := X) (p := st) l3
          have s12 := Same.trans s1 s2
          rw [hdf] at k
          cases hok2 : okI (figL X st) with
          | false =>
            rw [hok2, if_neg Bool.false_ne_true] at k
            walk_at "rd"
            refine ⟨(show 2 ≤ sizeLine by decide), fun t ht => ?_⟩
            exact k t _ (fgs X st) _ (Same.trans s12 (same_upd ht)) upd_same rfl
          | true =>
            rw [hok2, if_pos rfl] at k
            dsimp only at k
            have e2 := hv2 hok2
            rw [← e2] at k
            have fin : ∀ b G, Same H2 G → isZ0 f (v2 : Int) = b → ∀ t wv, G t = some (.tup [.int (fgs X st : Nat), wv]) → (wv = if b = true then V.int (st : Int) else V.non) → Q (.ref t) G := fun b G sG hb t wv ht hw => by
              rw [hb] at k
              cases b with
              | true => exact k t _ (fgs X st) _ (Same.trans s12 sG) ht hw
              | false => exact k t _ (fgs X st) _ (Same.trans s12 sG) ht ⟨hw, rfl, l11, by omega, trivial⟩
            walk_at "rd"
            unfold isZ0 at fin
            refine iteV (fun h0 => ?_) (fun h0 => ?_)
            · have h0 : (v2 : Int) = 0 := by simpa using h0
              walk_at "rd"
              refine ⟨(show 2 ≤ sizeLine by decide), fun t ht => ?_⟩
              refine fin true _ (same_upd ht) ?_ t _ upd_same rfl
              rw [h0]
              split
              · rfl
              · simp
            · have h0 : ¬ (v2 : Int) = 0 := by simpa using h0
              walk_at "rd"
              refine ⟨ra, _, _, _, rfl, rfl, Toy.Same.tup s12 hR, rfl, ?_⟩
              walk_at "rd"
              refine iteD (fun hf => ?_) (fun hf => ?_)
              · rw [if_neg (show ¬ f = 0 by omega)] at fin
                walk_at "rd"
                refine ⟨ra, _, _, _, rfl, rfl, Toy.Same.tup s12 hR, rfl, ?_⟩
                walk_at "rd"
                refine iteV (fun hz => ?_) (fun hz => ?_)
                · walk_at "rd"
                  refine ⟨(show 2 ≤ sizeLine by decide), fun t ht => ?_⟩
                  exact fin true _ (same_upd ht) (decide_eq_true (by simpa using hz)) t _ upd_same rfl
                · walk_at "rd"
                  refine ⟨(show 2 ≤ sizeLine by decide), fun t ht => ?_⟩
                  exact fin false _ (same_upd ht) (decide_eq_false fun z => hz (by rw [z])) t _ upd_same rfl
              · rw [if_pos (show f = 0 by omega)] at fin
                walk_at "rd"
                refine ⟨(show 2 ≤ sizeLine by decide), fun t ht => ?_⟩
                exact fin false _ (same_upd ht) (decide_eq_false h0) t _ upd_same rfl
def sp_law_power_end : Sp := fun vs H Q _ => ∃ (T : List Nat) (p : Nat) (i : Nat) (es : List Int), vs = [.str (tx T), .int p, .int es.sum] ∧ T.length ≤ 1000 ∧ p < T.length ∧ i < es.length ∧ (∀ e ∈ es, 0 ≤ e) ∧
  ∀ t H' (e : Nat) wv dg, Same H H' → H' t = some (.tup [.int e, wv, .int dg]) → EndR T p e (powR T p i es) wv (fun es' => dg = es'.sum) → Q (.ref t) H'
theorem ok_law_power_end (T : Txt K mg) : FnOk P w K mg base CX0 3 T.law_power_end.f T.law_power_end.fd P_law_power_end sp_law_power_end := by
  refine T.law_power_end.F.ok sc_law_power_end (fun vs H Q E h => ?_) (fun cdv A outer s H vs Q E hr h => ?_)
  · obtain ⟨X, p, i, es, rfl, _⟩ := h; rfl
  · obtain ⟨X, p, i, es, rfl, hX, hp, hi, he, k⟩ := h
    refine ⟨_, (pss_cons (ps_par rfl sc_law_power_end.nd (i := 3) (j := 4) rfl rfl (by decide) rfl rfl (pa_cons (pe_op op_add (pv 1) pe_int) (pa_cons pe_int pa_nil)) rfl)
  (pss_cons (ps_set (i := 5) sc_law_power_end.nd rfl (Or.inl rfl) (pe_call (ok_law_skip T) (hr.mono (by decide)) rfl T.law_skip.g T.law_skip.F.kp (b_law_skip T) .nil pass0 (pa_cons (pv 0) (pa_cons (pv 3) pa_nil))))
  (pss_cons (ps_if (pt_cmpR op_eq (pe_slice sl_str (pv 0) (po_some (pv 5)) (po_some (pe_op op_add (pv 5) pe_int))) pe_str (nomark _)) (pss_cons (ps_set (i := 6) sc_law_power_end.nd rfl (Or.inl rfl) (pe_call (ok_law_skip T) (hr.mono (by decide)) rfl T.law_skip.g T.law_skip.F.kp (b_law_skip T) .nil pass0 (pa_cons (pv 0) (pa_cons (pe_op op_add (pv 5) pe_int) pa_nil))))
  (pss_cons (ps_if (pt_not (pt_val (pe_call (ok_law_is_figure T) (hr.mono (by decide)) rfl T.law_is_figure.g T.law_is_figure.F.kp (b_law_is_figure T) .nil pass0 (pa_cons (pv 0) (pa_cons (pv 6) pa_nil))))) (pss_one (ps_ret (pe_tup (pa_cons (pv 6) (pa_cons (pv 6) (pa_cons (pv 2) pa_nil)))))) pss_nil)
  (pss_cons (ps_asg (pe_call (ok_law_integer T) (hr.mono (by decide)) rfl T.law_integer.g T.law_integer.F.kp (b_law_integer T) .nil pass0 (pa_cons (pv 0) (pa_cons (pv 6) pa_nil))) (pg_tup rfl (pgs_cons (pg_name (i := 3) sc_law_power_end.nd rfl (Or.inl rfl)) (pgs_cons (pg_name (i := 7) sc_law_power_end.nd rfl (Or.inl rfl)) (pgs_cons (pg_name (i := 4) sc_law_power_end.nd rfl (Or.inl rfl)) pgs_nil)))))
  (pss_one (ps_if (PW.pt (pw_or (pt_not (pt_truth (pv 7) (by intro _; rfl))) (pw_or1 (pt_cmpR op_gt (pv 4) pe_int (nomark _))))) (pss_one (ps_ret (pe_tup (pa_cons (pv 3) (pa_cons (pv 6) (pa_cons (pv 2) pa_nil)))))) pss_nil))))) pss_nil)
  (pss_one (ps_ret (pe_tup (pa_cons (pv 3) (pa_cons (pe_ifExp (pt_cmpR op_gt (pe_op op_add (pv 2) (pv 4)) pe_int (nomark _)) (pv 1) pe_non) (pa_cons (pe_op op_add (pv 2) (pv 4)) pa_nil))))))))), ?_⟩
    walk_at "rd"
    refine ⟨hX, (show p + 1 ≤ X.length from hp), ?_⟩
    have l1 := skp_le (T := X) (p := p + 1) (by omega)
    walk_at "rd"
    refine ⟨tx_line (by omega), ?_⟩
    rw [cut_one l1]
    walk_at "rd"
    rw [s_hat, vstr, sg_dec]
    unfold powR at k
    cases hb : pasB X (p + 1) 94 with
    | false =>
      rw [hb, if_neg Bool.false_ne_true] at k
      walk_at "rd"
      refine iteD (fun h60 => ?_) (fun h60 => ?_)
      · rw [if_pos (show 60 < (addE es i 1).sum by rw [addE_sum hi]; exact h60)] at k
        walk_at "rd"
        refine ⟨(show 3 ≤ sizeLine by decide), fun t ht => ?_⟩
        exact k t _ (p + 1) _ _ (same_upd ht) upd_same rfl
      · rw [if_neg (show ¬ 60 < (addE es i 1).sum by rw [addE_sum hi]; exact h60)] at k
        walk_at "rd"
        refine ⟨(show 3 ≤ sizeLine by decide), fun t ht => ?_⟩
        exact k t _ (p + 1) _ _ (same_upd ht) upd_same ⟨rfl, by rw [pasP_f hb, skp_skp], by omega, by omega, (addE_sum hi).symm⟩
    | true =>
      rw [hb, if_pos rfl, pasP_t hb] at k
      have l2 := pasB_lt hb
      have l8 := skp_ge X (p + 1)
      walk_at "rd"
      refine ⟨hX, (show skp X (p + 1) + 1 ≤ X.length from l2), ?_⟩
      have l3 := skp_le (T := X) (p := skp X (p + 1) + 1) (by omega)
      walk_at "rd"
      refine ⟨hX, ?_⟩
      have hsk := intR_no (T := X) (p := skp X (p + 1) + 1)
      have hdf : intR X (skp X (p + 1) + 1) = if okI (figL X (skp X (skp X (p + 1) + 1))) = true then .ok (skp X (skp X (p + 1) + 1), NumText.digitsVal (figL X (skp X (skp X (p + 1) + 1)))) (fgs X (skp X (skp X (p + 1) + 1))) else .err (skp X (skp X (p + 1) + 1)) := rfl
      have l7 := skp_ge X (skp X (p + 1) + 1)
      unfold expR at k
      generalize skp X (skp X (p + 1) + 1) = st at *
      cases hfs : fgB X st with
      | false =>
        rw [hsk hfs] at k
        walk_at "rd"
        refine ⟨(show 3 ≤ sizeLine by decide), fun t ht => ?_⟩
        exact k t _ st _ _ (same_upd ht) upd_same rfl
      | true =>
        walk_at "rd"
        refine ⟨hX, hfs, fun t2 H2 v2 s2 hv2 ht2 => ?_⟩
        refine ⟨t2, _, rfl, .inl (.inl ht2), rfl, ?_⟩
        walk_at "rd"
        have l9 := (fgs_stepB hfs).1
        have l10 := fgs_ge X (st + 1)
        have l11 := fgs_le (T := X) (p := st) l3
        rw [hdf] at k
        cases hok2 : okI (figL X st) with
        | false =>
          rw [hok2, if_neg Bool.false_ne_true] at k
          walk_at "rd"
          refine ⟨(show 3 ≤ sizeLine by decide), fun t ht => ?_⟩
          exact k t _ (fgs X st) _ _ (Same.trans s2 (same_upd ht)) upd_same rfl
        | true =>
          rw [hok2, if_pos rfl] at k
          dsimp only at k
          have e2 := hv2 hok2
          rw [← e2] at k
          walk_at "rd"
          refine iteD (fun h60 => ?_) (fun h60 => ?_)
          · rw [if_pos (show 60 < v2 by omega)] at k
            walk_at "rd"
            refine ⟨(show 3 ≤ sizeLine by decide), fun t ht => ?_⟩
            exact k t _ (fgs X st) _ _ (Same.trans s2 (same_upd ht)) upd_same rfl
          · rw [if_neg (show ¬ 60 < v2 by omega)] at k
            dsimp only at k
            walk_at "rd"
            refine iteD (fun hs => ?_) (fun hs => ?_)
            · rw [if_pos (show 60 < (addE es i v2).sum by rw [addE_sum hi]; exact hs)] at k
              walk_at "rd"
              refine ⟨(show 3 ≤ sizeLine by decide), fun t ht => ?_⟩
              exact k t _ (fgs X st) _ _ (Same.trans s2 (same_upd ht)) upd_same rfl
            · rw [if_neg (show ¬ 60 < (addE es i v2).sum by rw [addE_sum hi]; exact hs)] at k
              walk_at "rd"
              refine ⟨(show 3 ≤ sizeLine by decide), fun t ht => ?_⟩
              exact k t _ (fgs X st) _ _ (Same.trans s2 (same_upd ht)) upd_same ⟨rfl, rfl, l11, by omega, (addE_sum hi).symm⟩
end

local macro_rules | `(tactic| walk_at "rf") => `(tactic| repeat (first | walk_at "rd1" | refine ⟨_, _, _, _, _, rfl, (by assumption), (by assumption), (by assumption), rfl, ?_⟩))

/-! ### the law's reader: a whole text -/
theorem MoI.first {f : Int} {n : Nat} {X : List Nat} {q : Nat} {st : St3} (one : oneR f n X 0 = .ok st q) : MoI f n X q [st] ∧ 0 < q ∧ q ≤ X.length := by
  obtain ⟨s1, s2, s3⟩ := oneR_st (Nat.zero_le _) one
  have h0 := sgnP_ge X 0
  exact ⟨⟨LsOk.one s1 (by have := ten_pos (q - sgnP X 0); omega) (by
        have h4 : 10 ^ (q - sgnP X 0 + 1) ≤ 10 ^ (q + 1) := Nat.pow_le_pow_right (by decide) (by omega)
        rw [Nat.pow_succ] at h4
        omega), by rw [List.length_singleton]; omega, X.length + 1, by unfold termsR; rw [one], by omega⟩, by omega, s3⟩
theorem oneR_sk (X : List Nat) (p : Nat) : sgnP X p = (if X[skp X p]? = some 43 ∨ X[skp X p]? = some 45 then skp X p + 1 else skp X p) := by
  by_cases h45 : X[skp X p]? = some 45
  · have hb : pasB X p 45 = true := decide_eq_true h45
    unfold sgnP
    rw [if_pos hb, pasP_t hb, if_pos (Or.inr h45)]
  · have hb : pasB X p 45 = false := decide_eq_false h45
    unfold sgnP
    rw [if_neg (by rw [hb]; exact Bool.false_ne_true), pasP_f hb]
    by_cases h43 : X[skp X p]? = some 43
    · have hc : pasB X (skp X p) 43 = true := decide_eq_true (by rw [skp_skp]; exact h43)
      rw [pasP_t hc, skp_skp, if_pos (Or.inl h43)]
    · have hc : pasB X (skp X p) 43 = false := decide_eq_false (by rw [skp_skp]; exact h43)
      rw [pasP_f hc, skp_skp, if_neg fun z => z.elim h43 h45]
theorem dig_ltt {n : Nat} {X : List Nat} {p : Nat} (h : fgB X p = true) : lttI n X p = none := by
  cases e : lttI n X p with
  | none => rfl
  | some i =>
    obtain ⟨c, hc, hi, _⟩ := ltt_ok e
    have hm : c ∈ ltrs n := List.mem_of_getElem? hi
    have hm4 : c ∈ [120, 121, 122, 119] := List.mem_of_mem_take hm
    unfold fgB at h
    rw [hc] at h
    unfold digB at h
    simp only [List.mem_cons, List.not_mem_nil, or_false] at hm4
    simp only [Bool.and_eq_true, decide_eq_true_eq] at h
    omega
theorem ltt_mem {n : Nat} {X : List Nat} {p c : Nat} (h : X[p]? = some c) : decide (c ∈ ltrs n) = (lttI n X p).isSome := by
  unfold lttI
  rw [h]
  show _ = ((ltrs n).findIdx? fun x => decide (x = c)).isSome
  rw [List.findIdx?_isSome, Bool.eq_iff_iff]
  simp
theorem xyzw_cut {n : Nat} (h1 : 1 ≤ n) (h4 : n ≤ 4) : cutS ("xyzw" : Str) none (some (n : Int)) = tx (ltrs n) := by
  have : n = 1 ∨ n = 2 ∨ n = 3 ∨ n = 4 := by omega
  rcases this with rfl | rfl | rfl | rfl <;> decide
theorem facR_noB {f : Int} {n : Nat} {X : List Nat} {q : Nat} {st : St3} (h : fgB X (skp X q) = false) (hl : lttI n X (skp X q) = none) : facR f n X q st = .err (skp X q) := by
  unfold facR quoR
  rw [hl]
  dsimp only
  rw [intR_no (by rw [skp_skp]; exact h), skp_skp]
theorem sum_rep0 (n : Nat) : (List.replicate n (0 : Int)).sum = 0 := by
  induction n with
  | zero => rfl
  | succ n ih => rw [List.replicate_succ, List.sum_cons, ih]; rfl
/-- a statement's end, told apart from what follows it -/
theorem s_cut {S : L2.TS} {D : Ends} {σ : St} {H : Hp} (G : St → Hp → Prop) (h1 : ∀ R : St → Hp → Prop, (∀ σ' H', G σ' H' → R σ' H') → S { D with nx := R } σ H) (h2 : ∀ σ' H', G σ' H' → D.nx σ' H') : S D σ H := h1 D.nx h2
/-- what a whole text says -/
def WrR (r : RR (List St3)) (wv : V) : Prop := match r with
  | .err s => wv = .int (s : Int)
  | .ok _ _ => wv = .non
set_option hygiene false in
local macro_rules | `(tactic| walk_at "wr_after") => `(tactic| (
  have h10 := skp_le h2
  walk_at "rd"
  refine ⟨by omega, h2, ?_⟩
  walk_at "rd"
  refine ⟨tx_line (by omega), ?_⟩
  rw [cut_one h10]
  walk_at "rd"
  rw [s_star, vstr, sg_dec, show pasB X e4 42 = pasB X e' 42 by unfold pasB; rw [h1]]
  obtain ⟨I', l1⟩ := I.step hq hfac
  have l2 := pasP_le (T := X) (c := 42) (facR_le hq hfac).2
  cases hb : pasB X e' 42 with
  | true =>
    rw [hb] at I'
    have e5 := pasP_t hb
    walk_at "rd"
    refine ⟨s34, skp X e4 + 1, _, true, st', pasP X e' 42, _, _, _, _, rfl, I', l2, fun _ => ⟨by rw [e5, h1], by omega⟩, fun z => by cases z⟩
  | false =>
    rw [hb] at I'
    have e5 := pasP_f hb
    walk_at "rd"
    refine ⟨s34, e4, _, false, st', pasP X e' 42, _, _, _, _, rfl, I', l2, (fun z => by cases z), fun _ => ⟨by rw [e5, skp_skp, h1], h2, by omega⟩⟩))
set_option hygiene false in
local macro_rules | `(tactic| walk_at "wr_inner") => `(tactic| (
  walk_at "rd"
  refine ⟨(show 2 ≤ sizeLine by decide), fun t1 ht1 => ?_⟩
  have s2 := Same.trans s1 (same_upd (o := .tup [V.int 0, V.bl true]) ht1)
  refine ⟨t1, _, rfl, .inl (.inl upd_same), rfl, ?_⟩
  generalize upd H1 t1 (.tup [V.int 0, V.bl true]) = H2 at *
  walk_at "rd"
  refine ⟨tx_line (by omega), ?_⟩
  rw [tx_len]
  walk_at "rd"
  refine ⟨(show (-2 ^ 62 : Int) ≤ (X.length : Int) + 2 by omega), (show (X.length : Int) + 2 < 2 ^ 62 by omega), ?_⟩
  rw [show ((X.length : Int) + 2).toNat = X.length + 2 by omega]
  refine for_range (lo := 0) (n := X.length + 2) (fun j σ H3 => Same H H3 ∧ ∃ (a3 : Nat) (bf go : Bool) (st : St3) (q : Nat) (y4 y7 y8 y9 : Option V), σ = [some (.ref ra), some (.str (tx X)), some (.int (a3 : Int)), some (.bl bf), y4, some (.int st.2.2.sum), some (.bl go), y7, y8, y9] ∧
    TmI f n X p1 (sgnB X q0) q st go ∧ q ≤ X.length ∧ (go = true → a3 = q ∧ p1 + j ≤ q) ∧ (go = false → skp X a3 = skp X q ∧ a3 ≤ X.length ∧ p1 < a3)) ⟨s2, p1, _, true, st0 n (sgnB X q0), p1, _, _, _, _, by rw [show (st0 n (sgnB X q0)).2.2.sum = 0 from sum_rep0 n]; rfl, ⟨Nat.le_refl _, by rw [Nat.sub_self]; exact st0_ok f n _, fun _ => ⟨_, rfl, by omega⟩, fun z => by cases z⟩, hpl, fun _ => ⟨rfl, Nat.le_refl _⟩, fun z => by cases z⟩ ?_ ?_
  · rintro j σ H3 hj ⟨s3, a3, bf, go, st, q, y4, y7, y8, y9, rfl, I, hq, g1, g2⟩
    cases go with
    | false =>
      walk_at "rd"
      exact ⟨s3, a3, _, false, st, q, _, _, _, _, rfl, I, hq, (fun z => by cases z), g2⟩
    | true =>
      obtain ⟨e3, hj2⟩ := g1 rfl
      have e3 := e3.symm
      subst e3
      have h6 := skp_le hq
      have h7 := skp_ge X q
      have tm : ∀ s, facR f n X q st = .err s → termsR f n X = .err s := fun s hs => herr s (by unfold oneR; rw [← hp1]; exact I.err hq hs)
      walk_at "rd"
      refine ⟨by omega, hq, ?_⟩
      walk_at "rd"
      refine ⟨by omega, ?_⟩
      cases hfg : fgB X (skp X q) with
      | true =>
        have hl0 := dig_ltt (n := n) hfg
        walk_at "rd"
        refine ⟨.ref ra, f, n, o, X, skp X q, rfl, hv.tp' (tp_same s3), by omega, hfg, fun t4 H4 e4 wv s4 ht4 hE => ?_⟩
        refine ⟨t4, _, rfl, .inl (.inl ht4), rfl, ?_⟩
        have s34 := Same.trans s3 s4
        cases hqr : quoR f X (skp X q) with
        | err s =>
          rw [hqr] at hE
          have hE : wv = .int (s : Int) := hE
          subst hE
          walk_at "rd"
          refine k _ _ s34 ?_
          rw [tm s (by unfold facR; rw [hl0]; dsimp only; rw [hqr])]
          exact rfl
        | ok x e' =>
          rw [hqr] at hE
          obtain ⟨rfl, h1, h2, h3, _⟩ := hE
          obtain ⟨u, l⟩ := x
          have hfac : facR f n X q st = .ok (st.1 * (u : Int), st.2.1 * (l : Int), st.2.2) e' := by unfold facR; rw [hl0]; dsimp only; rw [hqr]
          generalize est : ((st.1 * (u : Int), st.2.1 * (l : Int), st.2.2) : St3) = st' at *
          have edg : st.2.2.sum = st'.2.2.sum := by rw [← est]
          rw [edg]
          walk_at "wr_after"
      | false =>
        walk_at "rd"
        refine ⟨tx_line (by omega), ?_⟩
        rw [tx_len]
        cases hc2 : X[skp X q]? with
        | none =>
          have h11 := List.getElem?_eq_none_iff.mp hc2
          have hl0 : lttI n X (skp X q) = none := by unfold lttI; rw [hc2]; rfl
          walk_at "rd"
          rw [decide_eq_false (show ¬ ((skp X q : Nat) : Int) < (X.length : Int) by omega)]
          walk_at "rd"
          refine k _ _ s3 ?_
          rw [tm _ (facR_noB hfg hl0)]
          exact rfl
        | some c2 =>
          have h11 := (List.getElem?_eq_some_iff.mp hc2).1
          walk_at "rd"
          rw [decide_eq_true (show ((skp X q : Nat) : Int) < (X.length : Int) by omega)]
          walk_at "rd"
          refine ⟨_, _, c2, rfl, rfl, tx_line (by omega), at_str hc2, ?_⟩
          walk_at "rd"
          refine ⟨ra, _, _, _, rfl, rfl, Toy.Same.tup s3 hR, rfl, ?_⟩
          refine ⟨_, rfl, ?_⟩
          walk_at "rd"
          refine ⟨(show ("xyzw" : Str).length ≤ sizeLine by decide), ?_⟩
          rw [xyzw_cut hv.h1 hv.h4]
          refine ⟨c2, _, rfl, rfl, ?_⟩
          rw [show (tx (ltrs n)).cps.toList = ltrs n by unfold tx; simp, ltt_mem hc2]
          refine ⟨_, rfl, ?_⟩
          cases hli : lttI n X (skp X q) with
          | none =>
            walk_at "rd"
            refine k _ _ s3 ?_
            rw [tm _ (facR_noB hfg hli)]
            exact rfl
          | some i2 =>
            walk_at "rd"
            have hes := I.ok.es
            have hin := ltt_lt hli
            refine ⟨X, skp X q, i2, st.2.2, rfl, by omega, h11, by rw [hes.1]; exact hin, hes.2.1, fun t4 H4 e4 wv dg s4 ht4 hE => ?_⟩
            refine ⟨t4, _, rfl, .inl (.inl ht4), rfl, ?_⟩
            have s34 := Same.trans s3 s4
            cases hqr : powR X (skp X q) i2 st.2.2 with
            | err s =>
              rw [hqr] at hE
              have hE : wv = .int (s : Int) := hE
              subst hE
              walk_at "rd"
              refine k _ _ s34 ?_
              rw [tm s (by unfold facR; rw [hli]; dsimp only; rw [hqr])]
              exact rfl
            | ok es' e' =>
              rw [hqr] at hE
              obtain ⟨rfl, h1, h2, h3, rfl⟩ := hE
              have hfac : facR f n X q st = .ok (st.1, st.2.1, es') e' := by unfold facR; rw [hli]; dsimp only; rw [hqr]
              generalize est : ((st.1, st.2.1, es') : St3) = st' at *
              have edg : es'.sum = st'.2.2.sum := by rw [← est]
              rw [edg]
              walk_at "wr_after"
  · rintro σ H3 ⟨s3, a3, bf, go, st, q, y4, y7, y8, y9, rfl, I, hq, g1, g2⟩
    cases go with
    | true =>
      have := g1 rfl
      omega
    | false =>
      obtain ⟨h1, h2, h3⟩ := g2 rfl
      have hone : oneR f n X q0 = .ok st q := by unfold oneR; rw [← hp1]; exact I.off rfl
      obtain ⟨h4, l, hM⟩ := hok st q hone
      walk_at "rd"
      exact ⟨s3, a3, false, _, _, _, _, _, _, rfl, .inr ⟨rfl, by omega, h2, q, l, h1, h4, hM⟩⟩))
section
variable {P : Program} {w : World} {K : PySem.W.Frag} {mg : Str → Option Value} {base : Heap}
def sp_law_wrong (K : PySem.W.Frag) : Sp := fun vs H Q _ => ∃ (rv : V) (f : Int) (n : Nat) (o : Ord) (T : List Nat), vs = [rv, .str (tx T)] ∧ RgV K H rv f n o ∧ T.length ≤ 190 ∧
  ∀ wv H', Same H H' → WrR (termsR f n T) wv → Q wv H'
theorem ok_law_wrong (T : Txt K mg) : FnOk P w K mg base CX0 4 T.law_wrong.f T.law_wrong.fd P_law_wrong (sp_law_wrong K) := by
  refine T.law_wrong.F.ok sc_law_wrong (fun vs H Q E h => ?_) (fun cdv A outer s H vs Q E hr h => ?_)
  · obtain ⟨rv, f, n, o, X, rfl, _⟩ := h; rfl
  · obtain ⟨rv, f, n, o, X, rfl, hv, hX, k⟩ := h
    obtain ⟨ra, ov, rfl, hR, hov⟩ := ring_parts hv.hd
    refine ⟨_, (pss_cons (ps_asg (pe_tup (pa_cons pe_int (pa_cons pe_bl pa_nil))) (pg_tup rfl (pgs_cons (pg_name (i := 2) sc_law_wrong.nd rfl (Or.inl rfl)) (pgs_cons (pg_name (i := 3) sc_law_wrong.nd rfl (Or.inl rfl)) pgs_nil))))
  (pss_cons (ps_for PassesOwn.never rfl (pi_range1 rfl T.n_range (pa_cons (pe_op op_add (pe_callB call_len_str rfl T.n_len bo_len (pa_cons (pv 1) pa_nil)) pe_int) pa_nil)) (pg_name (i := 4) sc_law_wrong.nd rfl (Or.inl rfl)) (pss_cons (ps_set (i := 2) sc_law_wrong.nd rfl (Or.inl rfl) (pe_call (ok_law_skip T) (hr.mono (by decide)) rfl T.law_skip.g T.law_skip.F.kp (b_law_skip T) .nil pass0 (pa_cons (pv 1) (pa_cons (pv 2) pa_nil))))
  (pss_cons (ps_if (pt_cmpR op_eq (pv 2) (pe_callB call_len_str rfl T.n_len bo_len (pa_cons (pv 1) pa_nil)) (nomark _)) (pss_one (ps_ret (pe_ifExp (pt_truth (pv 3) (by intro _; rfl)) (pv 2) pe_non))) pss_nil)
  (pss_cons (ps_if (pt_cmpR op_in_sign (pe_ix ix_str (pv 1) (pv 2) (fun _ _ => rfl)) pe_str (by rfl)) (pss_one (ps_set (i := 2) sc_law_wrong.nd rfl (Or.inl rfl) (pe_op op_add (pv 2) pe_int))) (pss_one (ps_if (pt_not (pt_truth (pv 3) (by intro _; rfl))) (pss_one (ps_ret (pv 2))) pss_nil)))
  (pss_cons (ps_asg (pe_tup (pa_cons pe_int (pa_cons pe_bl pa_nil))) (pg_tup rfl (pgs_cons (pg_name (i := 5) sc_law_wrong.nd rfl (Or.inl rfl)) (pgs_cons (pg_name (i := 6) sc_law_wrong.nd rfl (Or.inl rfl)) pgs_nil))))
  (pss_cons (ps_for PassesOwn.never rfl (pi_range1 rfl T.n_range (pa_cons (pe_op op_add (pe_callB call_len_str rfl T.n_len bo_len (pa_cons (pv 1) pa_nil)) pe_int) pa_nil)) (pg_name (i := 7) sc_law_wrong.nd rfl (Or.inl rfl)) (pss_one (ps_if (pt_truth (pv 6) (by intro _; rfl)) (pss_cons (ps_par rfl sc_law_wrong.nd (i := 2) (j := 8) rfl rfl (by decide) rfl rfl (pa_cons (pe_call (ok_law_skip T) (hr.mono (by decide)) rfl T.law_skip.g T.law_skip.F.kp (b_law_skip T) .nil pass0 (pa_cons (pv 1) (pa_cons (pv 2) pa_nil))) (pa_cons pe_non pa_nil)) rfl)
  (pss_cons (ps_if (pt_val (pe_call (ok_law_is_figure T) (hr.mono (by decide)) rfl T.law_is_figure.g T.law_is_figure.F.kp (b_law_is_figure T) .nil pass0 (pa_cons (pv 1) (pa_cons (pv 2) pa_nil)))) (pss_one (ps_asg (pe_call (ok_law_number_end T) (hr.mono (by decide)) rfl T.law_number_end.g T.law_number_end.F.kp (b_law_number_end T) .nil pass0 (pa_cons (pv 0) (pa_cons (pv 1) (pa_cons (pv 2) pa_nil)))) (pg_tup rfl (pgs_cons (pg_name (i := 2) sc_law_wrong.nd rfl (Or.inl rfl)) (pgs_cons (pg_name (i := 8) sc_law_wrong.nd rfl (Or.inl rfl)) pgs_nil))))) (pss_one (ps_if (PW.pt (pw_and (pt_cmpR op_lt (pv 2) (pe_callB call_len_str rfl T.n_len bo_len (pa_cons (pv 1) pa_nil)) (nomark _)) (pw_and1 (pt_cmpR op_in_sign (pe_ix ix_str (pv 1) (pv 2) (fun _ _ => rfl)) (pe_slice sl_str pe_str po_none (po_some (pe_ix (r := rIxT K) ix_tup (pv 0) pe_int (fun _ _ => rfl)))) (by rfl))))) (pss_one (ps_asg (pe_call (ok_law_power_end T) (hr.mono (by decide)) rfl T.law_power_end.g T.law_power_end.F.kp (b_law_power_end T) .nil pass0 (pa_cons (pv 1) (pa_cons (pv 2) (pa_cons (pv 5) pa_nil)))) (pg_tup rfl (pgs_cons (pg_name (i := 2) sc_law_wrong.nd rfl (Or.inl rfl)) (pgs_cons (pg_name (i := 8) sc_law_wrong.nd rfl (Or.inl rfl)) (pgs_cons (pg_name (i := 5) sc_law_wrong.nd rfl (Or.inl rfl)) pgs_nil)))))) (pss_one (ps_set (i := 8) sc_law_wrong.nd rfl (Or.inl rfl) (pv 2))))))
  (pss_cons (ps_if (pt_cmpR op_notN (pv 8) pe_non (nomark _)) (pss_one (ps_ret (pv 8))) pss_nil)
  (pss_cons (ps_set (i := 9) sc_law_wrong.nd rfl (Or.inl rfl) (pe_call (ok_law_skip T) (hr.mono (by decide)) rfl T.law_skip.g T.law_skip.F.kp (b_law_skip T) .nil pass0 (pa_cons (pv 1) (pa_cons (pv 2) pa_nil))))
  (pss_cons (ps_set (i := 6) sc_law_wrong.nd rfl (Or.inl rfl) (pe_cmpR op_eq (pe_slice sl_str (pv 1) (po_some (pv 9)) (po_some (pe_op op_add (pv 9) pe_int))) pe_str (nomark _)))
  (pss_one (ps_set (i := 2) sc_law_wrong.nd rfl (Or.inl rfl) (pe_ifExp (pt_truth (pv 6) (by intro _; rfl)) (pe_op op_add (pv 9) pe_int) (pv 2))))))))) pss_nil)))
  (pss_one (ps_set (i := 3) sc_law_wrong.nd rfl (Or.inl rfl) pe_bl))))))))
  (pss_one (ps_ret pe_non)))), ?_⟩
    walk_at "rd"
    refine ⟨(show 2 ≤ sizeLine by decide), fun t0 ht0 => ?_⟩
    have s0 := same_upd (o := .tup [V.int 0, V.bl true]) ht0
    refine ⟨t0, _, rfl, .inl (.inl upd_same), rfl, ?_⟩
    generalize upd H t0 (.tup [V.int 0, V.bl true]) = H0 at *
    walk_at "rd"
    refine ⟨tx_line (by omega), ?_⟩
    rw [tx_len]
    walk_at "rd"
    refine ⟨(show (-2 ^ 62 : Int) ≤ (X.length : Int) + 2 by omega), (show (X.length : Int) + 2 < 2 ^ 62 by omega), ?_⟩
    rw [show ((X.length : Int) + 2).toNat = X.length + 2 by omega]
    refine for_range (lo := 0) (n := X.length + 2) (fun i σ H1 => Same H H1 ∧ ∃ (a : Nat) (b : Bool) (y4 y5 y6 y7 y8 y9 : Option V), σ = [some (.ref ra), some (.str (tx X)), some (.int (a : Int)), some (.bl b), y4, y5, y6, y7, y8, y9] ∧
      ((b = true ∧ a = 0 ∧ i = 0) ∨ (b = false ∧ i ≤ a ∧ a ≤ X.length ∧ ∃ q l, skp X a = skp X q ∧ q ≤ X.length ∧ MoI f n X q l))) ⟨s0, 0, true, none, none, none, none, none, none, rfl, .inl ⟨rfl, rfl, rfl⟩⟩ ?_ ?_
    · rintro i σ H1 hi ⟨s1, a, b, y4, y5, y6, y7, y8, y9, rfl, hI⟩
      have hal : a ≤ X.length := by rcases hI with ⟨_, h, _⟩ | ⟨_, _, h, _⟩ <;> omega
      have h8 := skp_le hal
      have h9 := skp_ge X a
      walk_at "rd"
      refine ⟨by omega, hal, ?_⟩
      walk_at "rd"
      refine ⟨tx_line (by omega), ?_⟩
      rw [tx_len]
      walk_at "rd"
      refine iteV (fun he => ?_) (fun he => ?_)
      · have hend : X[skp X a]? = none := List.getElem?_eq_none_iff.mpr (Nat.le_of_eq (Int.ofNat.inj (show (X.length : Int) = ((skp X a : Nat) : Int) from (V.int.inj (by simpa using he)).symm)))
        rcases hI with ⟨rfl, rfl, rfl⟩ | ⟨rfl, h1, h2, q, l, h3, h4, I⟩
        · walk_at "rd"
          refine k _ _ s1 ?_
          have e0 : termsR f n X = .err (skp X 0) := by
            unfold termsR oneR termR
            have e1 : sgnP X 0 = skp X 0 := by rw [oneR_sk, if_neg (by rw [hend]; simp)]
            have e2 : fgB X (skp X 0) = false := by unfold fgB; rw [hend]
            have e3 : lttI n X (skp X 0) = none := by unfold lttI; rw [hend]; rfl
            rw [e1, facR_noB (by rw [skp_skp]; exact e2) (by rw [skp_skp]; exact e3), skp_skp]
          rw [e0]
          exact rfl
        · walk_at "rd"
          refine k _ _ s1 ?_
          rw [I.fin h4 (by rw [← h3]; exact hend)]
          exact rfl
      · have hlt : skp X a < X.length := by
          have : ¬ ((skp X a : Nat) : Int) = (X.length : Int) := fun z => he (by rw [z])
          omega
        obtain ⟨c, hc⟩ : ∃ c, X[skp X a]? = some c := ⟨_, List.getElem?_eq_getElem hlt⟩
        delta tNext
        dsimp only
        delta tSeq
        dsimp only
        refine s_cut (fun σ' H' => H' = H1 ∧ ∃ (q0 p1 : Nat) (bf : Bool) (y4 y5 y6 y7 y8 y9 : Option V), σ' = [some (.ref ra), some (.str (tx X)), some (.int (p1 : Int)), some (.bl bf), y4, y5, y6, y7, y8, y9] ∧ p1 = sgnP X q0 ∧ i ≤ p1 ∧ p1 ≤ X.length ∧ (∀ s, oneR f n X q0 = .err s → termsR f n X = .err s) ∧ ∀ st e, oneR f n X q0 = .ok st e → e ≤ X.length ∧ ∃ l, MoI f n X e l) (fun R hR' => ?_) ?_
        · walk_at "rd"
          refine ⟨_, _, c, rfl, rfl, tx_line (by omega), at_str hc, ?_⟩
          refine ⟨c, _, rfl, rfl, ?_⟩
          rw [show ("+-" : Str) = tx [43, 45] by decide, show (tx [43, 45]).cps.toList = [43, 45] from rfl, show decide (c ∈ [43, 45]) = decide (c = 43 ∨ c = 45) from decide_eq_decide.mpr (by simp)]
          refine ⟨_, rfl, ?_⟩
          refine iteD (fun hsg => ?_) (fun hsg => ?_)
          · walk_at "rd"
            refine hR' _ _ ⟨rfl, ?_⟩
            rcases hI with ⟨rfl, rfl, rfl⟩ | ⟨rfl, h1, h2, q, l, h3, h4, I⟩
            · exact ⟨0, skp X 0 + 1, _, _, _, _, _, _, _, rfl, by rw [oneR_sk, if_pos (by rw [hc]; simpa using hsg)], by omega, hlt, fun s hs => by unfold termsR; rw [hs], fun st e he => ⟨(MoI.first he).2.2, _, (MoI.first he).1⟩⟩
            · have h43 : X[skp X q]? = some 43 ∨ X[skp X q]? = some 45 := by rw [← h3, hc]; simpa using hsg
              exact ⟨skp X q, skp X a + 1, _, _, _, _, _, _, _, rfl, by rw [oneR_sk, skp_skp, if_pos h43, h3], by omega, hlt, fun s hs => I.err h4 h43 hs, fun st e he => ⟨(I.step h4 h43 he).2.2, _, (I.step h4 h43 he).1⟩⟩
          · rcases hI with ⟨rfl, rfl, rfl⟩ | ⟨rfl, h1, h2, q, l, h3, h4, I⟩
            · walk_at "rd"
              refine hR' _ _ ⟨rfl, ?_⟩
              exact ⟨0, skp X 0, _, _, _, _, _, _, _, rfl, by rw [oneR_sk, if_neg (by rw [hc]; simpa using hsg)], by omega, h8, fun s hs => by unfold termsR; rw [hs], fun st e he => ⟨(MoI.first he).2.2, _, (MoI.first he).1⟩⟩
            · walk_at "rd"
              refine k _ _ s1 ?_
              rw [I.bad h4 (by rw [← h3, hc]; simp) (by rw [← h3, hc]; simpa using hsg), ← h3]
              exact rfl
        · rintro σ' H' ⟨eH, q0, p1, bf, y4, y5, y6, y7, y8, y9, rfl, hp1, hip, hpl, herr, hok⟩
          have eH := eH.symm
          subst eH
          dsimp only
          walk_at "wr_inner"
    · rintro σ H1 ⟨s1, a, b, y4, y5, y6, y7, y8, y9, rfl, hI⟩
      rcases hI with ⟨_, _, h⟩ | ⟨_, h1, h2, _⟩ <;> omega
end

/-! ### try: .. except x as n: .. except y: .., where one of the two clauses surely takes what comes -/
section
open PySem PySem.Spec PyProof.Rows
/-- the ends of a clause whose name goes at its end -/
def gonD (i : Nat) (D : Ends) : Ends := { nx := fun σ H => D.nx (σ.set i none) H, rt := D.rt, bk := fun σ H => D.bk (σ.set i none) H, ct := fun σ H => D.ct (σ.set i none) H }
def wTwo (K : PySem.W.Frag) (c c2 : Value) (i : Nat) (ts ts2 : Addr → Value → Option Addr → L2.TS) (D : Ends) : WX := fun cls d σ H =>
  (PySem.W.exmOne K cls c = some true ∧ ∀ a, H a = none → ts a cls d (gonD i D) (σ.set i (some (.ref a))) H) ∨
  (PySem.W.exmOne K cls c = some false ∧ PySem.W.exmOne K cls c2 = some true ∧ ∀ a, H a = none → ts2 a cls d D σ H)
section
variable {X : Cx} {pins : List (Addr × Obj)} {σ : L2.St} {H : Hp} {D : Ends} {x y n : Str} {c c2 : Value} {i : Nat} {body u1 u2 : List Stmt} {e1 e2 : Stmt} {np np2 pos pos1 pos2 : Pos} {tb : WX → L2.TS} {ts ts2 : Addr → Value → Option Addr → L2.TS}
/-- how what a suite ends with becomes what the whole statement ends with -/
theorem sp_unsuite {a : Addr} {q : Addr × Obj} {f : Flow} {s : Shared} (ok : X.Ok) (h : SP (X.suite a (q :: (X.pn ++ pins))) [] D f s) : SP X pins D f s := by
  cases f with
  | next => obtain ⟨p, G, S, w⟩ := h; exact ⟨p, G, S.unsuite ok, w⟩
  | brk => obtain ⟨p, G, S, w⟩ := h; exact ⟨p, G, S.unsuite ok, w⟩
  | cont => obtain ⟨p, G, S, w⟩ := h; exact ⟨p, G, S.unsuite ok, w⟩
  | ret u => obtain ⟨v, p, G, S, r, w⟩ := h; exact ⟨v, p, G, S.unsuite ok, r, w⟩
theorem sp_gone {a : Addr} {q : Addr × Obj} {f : Flow} {s : Shared} (ok : X.Ok) (hN : X.N.Nodup) (hi : X.N[i]? = some n) (hl : X.env.kindOf n = some .local) (h : SP (X.suite a (q :: (X.pn ++ pins))) [] (gonD i D) f s) :
    wpAny (model X.prog X.w) X.A (do bindName X.env n .none; unbindBehindTheSuite X.env n pos) (fun _ s' => SP X pins D f s') X.xe s := by
  cases f with
  | next => obtain ⟨p, G, S, w⟩ := h; exact gone_ok (S.unsuite ok) hN hi hl fun _ J => ⟨_, _, J, w⟩
  | brk => obtain ⟨p, G, S, w⟩ := h; exact gone_ok (S.unsuite ok) hN hi hl fun _ J => ⟨_, _, J, w⟩
  | cont => obtain ⟨p, G, S, w⟩ := h; exact gone_ok (S.unsuite ok) hN hi hl fun _ J => ⟨_, _, J, w⟩
  | ret u => obtain ⟨v, p, G, S, r, w⟩ := h; exact gone_ok (S.unsuite ok) hN hi hl fun _ J => ⟨_, _, _, J, r, w⟩
/-- the class that a clause names, looked up while the exception waits -/
theorem names_at {a : Addr} {q : Addr × Obj} {s : Shared} (hc : Names X x c) (S : Inv (X.suite a (q :: (X.pn ++ pins))) [] σ H s) {Q : Value → Shared → Prop} {E : Value → Shared → Prop} (h : Q c s) :
    wpAny (model X.prog X.w) (X.A.mark (some (.ref a))) (eval (.Name x np) X.env) Q E s := by
  rcases hc with ⟨hg, hd, hm | ⟨hm, hv, hn⟩⟩
  · exact ld_glob (X := X.suite a (q :: (X.pn ++ pins))) S hg hm h hd
  · exact ld_blt (X := X.suite a (q :: (X.pn ++ pins))) S hg hm hv h hn hd
theorem ps_try_two (hs : X.stack = X.env :: X.outer) (hf : X.env.frame = some X.env.locals) (hN : X.N.Nodup) (hi : X.N[i]? = some n) (hln : X.env.kindOf n = some .local) (hc : Names X x c) (hc2 : Names X y c2)
    (hb : ∀ (W : WX) (pn : List (Addr × Obj)) (xe : Value → Shared → Prop), Takes (X.tr pn xe) W → PassesOwn (model X.prog X.w) X.A X.env xe → PSs (X.tr pn xe) body (tb W))
    (h1 : ∀ (a : Addr) (oe : Obj) (cls : Value) (d : Option Addr) (pn : List (Addr × Obj)), Zc cls d oe → (∃ vs, oe.data = .fields vs) → PSs (X.suite a ((a, oe) :: pn)) (e1 :: u1) (ts a cls d))
    (h2 : ∀ (a : Addr) (oe : Obj) (cls : Value) (d : Option Addr) (pn : List (Addr × Obj)), Zc cls d oe → (∃ vs, oe.data = .fields vs) → PSs (X.suite a ((a, oe) :: pn)) (e2 :: u2) (ts2 a cls d)) :
    PS X (.Try body [.ExceptHandler (some (.Name x np)) (some n) (e1 :: u1) pos1, .ExceptHandler (some (.Name y np2)) none (e2 :: u2) pos2] [] [] pos) (fun D σ H => tb (wTwo X.K c c2 i ts ts2 D) D σ H) := by
  refine ⟨fun pins s σ H D I h => ?_⟩
  have ok := I.ok
  have hfr : X.A.frames = some (X.env :: X.outer) := ok.frames.trans (congrArg some hs)
  refine wpAny_Try_except (wpAny_mono ((hb (wTwo X.K c c2 i ts ts2 D) (X.pn ++ pins) _ (fun u s' xx => ?_) PassesOwn.looking).run [] s σ H D (I.toTry _) h) (fun f s1 q => ?_) fun _ _ z => z)
  · obtain ⟨a, B, sI, pins', σ', H', cls, d, rfl, J', nb, up, sky, na, os, ag, wish⟩ := xx
    have J : Inv X pins σ' H' sI := J'.ofTry ok
    rw [hs] at sky
    show wpAny (model X.prog X.w) X.A (noteFrame (.ref a) X.env) _ _ _
    refine Sky.land Zc.steady hfr hf sky fun h3 fl up3 => ?_
    -- whatever heap the exception is seen in, it is pinned there
    have pin : ∀ {g : Heap}, s'.heap.UpToSlots g → B.StaysIn g → g.FunFrames B (X.env :: X.outer) → (∃ oe vs, g.get? a = some oe ∧ Zc cls d oe ∧ oe.data = .fields vs) → ∃ oe vs, g.get? a = some oe ∧ Zc cls d oe ∧ oe.data = .fields vs ∧ Inv (X.suite a ((a, oe) :: (X.pn ++ pins))) [] σ' H' { s' with heap := g } := by
      intro g ug kg ff ⟨oe, vs, he, hz, hd⟩
      have out : a ∉ frs (X.env :: X.outer) := fun hm => by
        obtain ⟨_, o', e', no⟩ := ff.mem hm
        rw [he] at e'
        cases e'
        exact no _ hd
      have Jg : Inv X pins σ' H' { s' with heap := g } := J.landed nb kg (up.trans ug) os ag
      refine ⟨oe, vs, he, hz, hd, Jg.suite he hd na (fun z => out ?_) fun hm => ?_⟩
      · exact List.mem_filterMap.mpr ⟨X.env, List.mem_cons_self, by rw [hf, z]⟩
      · obtain ⟨e, he, q⟩ := List.mem_filterMap.mp hm
        exact out (List.mem_filterMap.mpr ⟨e, List.mem_cons_of_mem _ he, q⟩)
    obtain ⟨oe, vs, he, hz, hd, S⟩ := pin up3 fl.1 fl.2.2.1 fl.there
    have cl : PySem.W.Looks (model X.prog X.w) h3 (typeOf (.ref a)) cls := fun A Q E s k q => wpAny_typeOf_ref (k _ _ he) (by rw [hz.1]; exact q)
    have J3 : Inv X pins σ' H' { s' with heap := h3 } := J.landed nb fl.1 (up.trans up3) os ag
    have KI := J3.kIn
    rcases wish with ⟨m1, go⟩ | ⟨m1, m2, go⟩
    · refine wpAny_handleBy_cons (codeAny_handlers_test (names_at hc S ?_)) (by intro q; cases q)
      refine (PySem.W.exm_one (M := model X.prog X.w) KI cl m1).here ?_
      refine codeAny_handlers_suite_as (HandSPX.lands_againZ fl fun h4 fl4 up4 => ?_)
      obtain ⟨oe4, vs4, he4, hz4, hd4, S4⟩ := pin (up3.trans up4) fl4.1 fl4.2.2.1 fl4.there
      refine store_ok (X := X.suite a ((a, oe4) :: (X.pn ++ pins))) (v := .ref a) S4 hN hi (.inl hln) rfl (fun s5 S5 => ?_) (.inr hln)
      exact wpAny_mono ((h1 a oe4 cls d (X.pn ++ pins) hz4 ⟨_, hd4⟩).run [] s5 _ H' _ S5 (go a na)) (fun f s6 q => sp_gone ok hN hi hln q) fun _ _ z => z.elim
    · refine wpAny_handleBy_cons (codeAny_handlers_test (names_at hc S ?_)) (by intro q; cases q)
      refine (PySem.W.exm_one (M := model X.prog X.w) KI cl m1).here ?_
      show wpAny _ X.A (handleBy (.ref a) X.env _) _ _ _
      refine wpAny_handleBy_cons (codeAny_handlers_test (names_at hc2 S ?_)) (by intro q; cases q)
      refine (PySem.W.exm_one (M := model X.prog X.w) KI cl m2).here ?_
      refine codeAny_handlers_suite (HandSPX.lands_againZ fl fun h4 fl4 up4 => ?_)
      obtain ⟨oe4, vs4, he4, hz4, hd4, S4⟩ := pin (up3.trans up4) fl4.1 fl4.2.2.1 fl4.there
      exact wpAny_mono ((h2 a oe4 cls d (X.pn ++ pins) hz4 ⟨_, hd4⟩).run [] _ _ H' _ S4 (go a na)) (fun f s6 q => sp_unsuite ok q) fun _ _ z => z.elim
  · cases f with
    | next =>
      obtain ⟨p, G, J, w⟩ := q
      exact wpAny_execs_nil ⟨p, G, J.ofTry ok, w⟩
    | brk => obtain ⟨p, G, J, w⟩ := q; exact ⟨p, G, J.ofTry ok, w⟩
    | cont => obtain ⟨p, G, J, w⟩ := q; exact ⟨p, G, J.ofTry ok, w⟩
    | ret u => obtain ⟨v, p, G, J, r, w⟩ := q; exact ⟨v, p, G, J.ofTry ok, r, w⟩
end
end

local macro_rules | `(tactic| walk_at "rf") => `(tactic| repeat (first | walk_at "rd1" | refine ⟨_, _, _, _, _, rfl, (by assumption), (by assumption), (by assumption), rfl, ?_⟩))

/-! ### _law_told, _law_alike -/
abbrev N_told : List Str := ["ring", "text", "found", "e"]
theorem sc_told : FnScope N_told P_law_told (defScope s_law_told) := ⟨rfl, rfl, rfl, by decide +kernel, rfl, by decide +kernel, by decide +kernel⟩
section
variable {K : PySem.W.Frag}
theorem kit_S_tuple : PySem.W.kitOne K (.type "str") (.type "tuple") = some false := kit_ty (by decide +kernel)
theorem kit_S_list : PySem.W.kitOne K (.type "str") (.type "list") = some false := kit_ty (by decide +kernel)
theorem kitA_S : PySem.W.kitAny K (.type "str") [.type "tuple", .type "list"] = some false :=
  kitAny_cons kit_S_tuple (fun _ => kitAny_cons kit_S_list (fun _ => kitAny_nil) (fun z => nomatch z)) (fun z => nomatch z)
end
section
variable {P : Program} {w : World} {K : PySem.W.Frag} {mg : Str → Option Value} {base : Heap}
def sp_law_told (t : TabsAt) (K : PySem.W.Frag) : Sp := fun vs H Q E => ∃ (f : Int) (n : Nat) (o : Ord) (v x : V), vs = [v, x] ∧ RgV K H v f n o ∧ TS t H ∧
  ((∃ T : List Nat, x = .str (tx T) ∧ T.length ≤ 190 ∧ (∀ l q, termsR f n T = .ok l q → ∀ a v' H', Ex t H H' → H' a = some (.tup [.str "read", v']) → Q (.ref a) H') ∧
    (∀ s, termsR f n T = .err s → ∀ a H', Ex t H H' → H' a = some (.tup [.str "place", .int s]) → Q (.ref a) H')) ∨
  (∃ c, (∀ H', Ex t H H' → TyX K H' x c) ∧ PySem.W.kitOne K c (.type "str") = some false ∧ ∀ H', Ex t H H' → Q (.str "text") H'))
theorem ok_law_told (T : Txt K mg) {t : TabsAt} (B : TBs T base t) (PF : PFl P T.InvalidText.file) : FnOk P w K mg base CX0 20 T.law_told.f T.law_told.fd P_law_told (sp_law_told t K) := by
  refine T.law_told.F.ok sc_told (fun vs H Q E h => ?_) (fun cdv A outer s H vs Q E hr h => ?_)
  · obtain ⟨f, n, o, v, x, rfl, _⟩ := h; rfl
  · obtain ⟨f, n, o, v, x, rfl, hv, ts, hx⟩ := h
    refine ⟨_, pss_cons (ps_set (i := 2) sc_told.nd rfl (Or.inl rfl) pe_non) (pss_cons (ps_try_two (i := 3) (c := .ref T.InvalidText.C) (c2 := .ref T.NotText.C) rfl rfl sc_told.nd rfl rfl ⟨rfl, by decide, Or.inl T.InvalidText.g⟩ ⟨rfl, by decide, Or.inl T.NotText.g⟩
      (fun W pn xe tk _ => pss_one (ps_set (i := 2) sc_told.nd rfl (Or.inl rfl) (pe_tup (pa_cons pe_str (pa_cons (pe_callS (E := WE W) (ok_read T B PF) (hr.mono (by decide)) rfl T.read.g T.read.F.kp (b_read T) (fun σ => passAt tk σ) (pa_cons (pv 0) (pa_cons (pv 1) pa_nil))) pa_nil)))))
      (fun a oe cls d pn hz hf => pss_one (ps_set (i := 2) sc_told.nd rfl (Or.inl rfl) (pe_tup (pa_cons pe_str (pa_cons (pe_xf T.InvalidText.xf T.InvalidText.fld hz hf (pv 3)) pa_nil)))))
      (fun a oe cls d pn hz hf => pss_one (ps_set (i := 2) sc_told.nd rfl (Or.inl rfl) pe_str))) (pss_one (ps_ret (pv 2)))), ?_⟩
    walk_at "rd"
    refine ⟨f, n, o, v, x, rfl, hv, ts, ?_⟩
    rcases hx with ⟨X, rfl, hXl, k1, k2⟩ | ⟨ty, hty, hk, k⟩
    · refine .inl ⟨X, rfl, hXl, fun l q hl v' H1 x1 hp => ?_, fun s hs d H1 x1 ed => ?_⟩
      · walk_at "rd"
        refine ⟨(show 2 ≤ sizeLine by decide), fun a ha => ?_⟩
        walk_at "rd"
        exact k1 l q hl a v' _ (x1.same (same_upd ha)) upd_same
      · refine .inl ⟨T.InvalidText.self, fun a na => ?_⟩
        unfold gonD
        dsimp only
        walk_at "rd"
        refine ⟨d, _, .int s, rfl, ed, rfl, ?_⟩
        walk_at "rd"
        refine ⟨(show 2 ≤ sizeLine by decide), fun p hp => ?_⟩
        walk_at "rd"
        exact k2 s hs p _ (x1.same (same_upd hp)) upd_same
    · refine .inr ⟨ty, hty, hk, fun H1 x1 => ?_⟩
      refine .inr ⟨T.x_NI, T.x_NN, fun a na => ?_⟩
      walk_at "rd"
      exact k H1 x1
def spE : Sp := fun vs H Q _ => ∃ x, vs = [x, x] ∧ (x = .str "place" ∨ ∃ i, x = .int i) ∧ ∀ H', Same H H' → Q (.bl true) H'
theorem alike_el (T : Txt K mg) (G0 : FnOk P w K mg base CX0 0 T.law_alike.f T.law_alike.fd P_law_alike (spG K 0)) : FnOk P w K mg base CX0 1 T.law_alike.f T.law_alike.fd P_law_alike spE := by
  refine T.law_alike.F.ok sc_law_alike (fun vs H Q E h => ?_) (fun cdv A outer s H vs Q E hr h => ?_)
  · obtain ⟨x, rfl, _⟩ := h; rfl
  · obtain ⟨x, rfl, hx, k⟩ := h
    refine ⟨_, (pss_cons (ps_if (pt_val (pe_callB (r := rIsiT K) call_isiT rfl T.n_isinstance bo_isinstance (pa_cons (pv 1) (pa_cons (pe_tup (pa_cons (pe_bltn (v := .ty "tuple") rfl T.n_tuple bo_tuple rfl) (pa_cons (pe_bltn (v := .ty "list") rfl T.n_list bo_list rfl) pa_nil))) pa_nil)))) (pss_cons (ps_if (PW.pt (pw_or (pt_not (pt_val (pe_callB (r := rIsiT K) call_isiT rfl T.n_isinstance bo_isinstance (pa_cons (pv 0) (pa_cons (pe_tup (pa_cons (pe_bltn (v := .ty "tuple") rfl T.n_tuple bo_tuple rfl) (pa_cons (pe_bltn (v := .ty "list") rfl T.n_list bo_list rfl) pa_nil))) pa_nil))))) (pw_or1 (pt_cmpR op_ne (pe_callB (r := rIsi K) call_isi rfl T.n_isinstance bo_isinstance (pa_cons (pv 0) (pa_cons (pe_bltn (v := .ty "list") rfl T.n_list bo_list rfl) pa_nil))) (pe_callB (r := rIsi K) call_isi rfl T.n_isinstance bo_isinstance (pa_cons (pv 1) (pa_cons (pe_bltn (v := .ty "list") rfl T.n_list bo_list rfl) pa_nil))) (nomark _))))) (pss_one (ps_ret pe_bl)) pss_nil)
  (pss_cons (ps_if (pt_cmpR op_ne (pe_callB (r := rLenS K) call_len_seq rfl T.n_len bo_len (pa_cons (pv 0) pa_nil)) (pe_callB (r := rLenS K) call_len_seq rfl T.n_len bo_len (pa_cons (pv 1) pa_nil)) (nomark _)) (pss_one (ps_ret pe_bl)) pss_nil)
  (pss_one (ps_ret (pe_cmpR (op_eqD hr.units) (pe_lc (own := [("k", 2)]) rfl sc_law_alike.nd (pi_range1 rfl T.n_range (pa_cons (pe_callB (r := rLenS K) call_len_seq rfl T.n_len bo_len (pa_cons (pv 1) pa_nil)) pa_nil)) (blkOk_by (own := [("k", 2)]) (N := N_law_alike) (sc := defScope s_law_alike) (by decide +kernel)) (fun _ _ _ _ _ => (pg_name (i := 2) sc_law_alike.nd rfl (Or.inl rfl))) (fun _ _ _ _ _ => pts_one (pt_not (pt_val (pe_call G0 hr rfl T.law_alike.g T.law_alike.F.kp (b_law_alike T) .nil pass0 (pa_cons (pe_ix (r := rIxA K) ix_any (pv 0) (pv 2) (fun _ _ => rfl)) (pa_cons (pe_ix (r := rIxA K) ix_any (pv 1) (pv 2) (fun _ _ => rfl)) pa_nil)))))) (fun _ _ _ _ _ => (pv 2))) (pe_lst pa_nil) (nomark _)))))) pss_nil)
  (pss_cons (ps_if (PW.pt (pw_or (pt_cmpR op_isN (pv 1) pe_non (nomark _)) (pw_or1 (pt_val (pe_callB (r := rIsi K) call_isi rfl T.n_isinstance bo_isinstance (pa_cons (pv 1) (pa_cons (pe_bltn (v := .ty "str") rfl T.n_str bo_str rfl) pa_nil))))))) (pss_one (ps_ret (pe_and (pe_cmpR (op_eqD hr.units) (pv 0) (pv 1) (nomark _)) (pe_one (pe_cmpR op_eq (pe_callB (r := rIsi K) call_isi rfl T.n_isinstance bo_isinstance (pa_cons (pv 0) (pa_cons (pe_bltn (v := .ty "str") rfl T.n_str bo_str rfl) pa_nil))) (pe_callB (r := rIsi K) call_isi rfl T.n_isinstance bo_isinstance (pa_cons (pv 1) (pa_cons (pe_bltn (v := .ty "str") rfl T.n_str bo_str rfl) pa_nil))) (nomark _)))))) pss_nil)
  (pss_one (ps_ret (pe_and (pe_callB (r := rIsi K) call_isi rfl T.n_isinstance bo_isinstance (pa_cons (pv 0) (pa_cons (pe_bltn (v := .ty "int") rfl T.n_int bo_int rfl) pa_nil))) (pe_and (pe_cmpR op_eq (pe_callB (r := rIsi K) call_isi rfl T.n_isinstance bo_isinstance (pa_cons (pv 0) (pa_cons (pe_bltn (v := .ty "bool") rfl T.n_bool bo_bool rfl) pa_nil))) (pe_callB (r := rIsi K) call_isi rfl T.n_isinstance bo_isinstance (pa_cons (pv 1) (pa_cons (pe_bltn (v := .ty "bool") rfl T.n_bool bo_bool rfl) pa_nil))) (nomark _)) (pe_one (pe_cmpR (op_eqD hr.units) (pv 0) (pv 1) (nomark _))))))))), ?_⟩
    rcases hx with rfl | ⟨i, rfl⟩
    · walk_at "rd"
      refine ⟨two_line, fun p hp => ?_⟩
      refine ⟨_, _, _, _, _, _, rfl, upd_same, .cons (.ty _) (.cons (.ty _) .nil), .base (.str _), kitA_S, ?_⟩
      walk_at "rd"
      refine ⟨_, _, _, _, _, rfl, .ty _, .base (.str _), kit_str_str, ?_⟩
      walk_at "rd"
      refine ⟨_, _, .str _, .str _, by decide +kernel, by decide +kernel, ?_⟩
      have e : PyData.eqv (.str "place") (.str "place") = true := by decide +kernel
      rw [e]
      walk_at "rd"
      refine ⟨_, _, _, _, _, rfl, .ty _, .base (.str _), kit_str_str, ?_⟩
      walk_at "rd"
      refine ⟨_, _, _, _, _, rfl, .ty _, .base (.str _), kit_str_str, ?_⟩
      walk_at "rd"
      exact k _ (same_upd hp)
    · walk_at "rd"
      refine ⟨two_line, fun p hp => ?_⟩
      refine ⟨_, _, _, _, _, _, rfl, upd_same, .cons (.ty _) (.cons (.ty _) .nil), .base (.int _), kitA_int, ?_⟩
      walk_at "rd"
      refine ⟨_, _, .int _, .int _, by rfl, by rfl, ?_⟩
      have e : PyData.eqv (.int i) (.int i) = true := by show (i == i) = true; simp
      show Q _ _
      rw [e]
      exact k _ (same_upd hp)
def spPair (K : PySem.W.Frag) : Sp := fun vs H Q _ => ∃ (a b : Addr) (i : Int), vs = [.ref a, .ref b] ∧ SqT K H a [.str "place", .int i] ∧ SqT K H b [.str "place", .int i] ∧ ∀ H', Same H H' → Q (.bl true) H'
theorem alike_pair (T : Txt K mg) (G0 : FnOk P w K mg base CX0 1 T.law_alike.f T.law_alike.fd P_law_alike spE) : FnOk P w K mg base CX0 2 T.law_alike.f T.law_alike.fd P_law_alike (spPair K) := by
  refine T.law_alike.F.ok sc_law_alike (fun vs H Q E h => ?_) (fun cdv A outer s H vs Q E hr h => ?_)
  · obtain ⟨a, b, i, rfl, _⟩ := h; rfl
  · obtain ⟨a, b, i0, rfl, ha, hb, k⟩ := h
    refine ⟨_, (pss_cons (ps_if (pt_val (pe_callB (r := rIsiT K) call_isiT rfl T.n_isinstance bo_isinstance (pa_cons (pv 1) (pa_cons (pe_tup (pa_cons (pe_bltn (v := .ty "tuple") rfl T.n_tuple bo_tuple rfl) (pa_cons (pe_bltn (v := .ty "list") rfl T.n_list bo_list rfl) pa_nil))) pa_nil)))) (pss_cons (ps_if (PW.pt (pw_or (pt_not (pt_val (pe_callB (r := rIsiT K) call_isiT rfl T.n_isinstance bo_isinstance (pa_cons (pv 0) (pa_cons (pe_tup (pa_cons (pe_bltn (v := .ty "tuple") rfl T.n_tuple bo_tuple rfl) (pa_cons (pe_bltn (v := .ty "list") rfl T.n_list bo_list rfl) pa_nil))) pa_nil))))) (pw_or1 (pt_cmpR op_ne (pe_callB (r := rIsi K) call_isi rfl T.n_isinstance bo_isinstance (pa_cons (pv 0) (pa_cons (pe_bltn (v := .ty "list") rfl T.n_list bo_list rfl) pa_nil))) (pe_callB (r := rIsi K) call_isi rfl T.n_isinstance bo_isinstance (pa_cons (pv 1) (pa_cons (pe_bltn (v := .ty "list") rfl T.n_list bo_list rfl) pa_nil))) (nomark _))))) (pss_one (ps_ret pe_bl)) pss_nil)
  (pss_cons (ps_if (pt_cmpR op_ne (pe_callB (r := rLenS K) call_len_seq rfl T.n_len bo_len (pa_cons (pv 0) pa_nil)) (pe_callB (r := rLenS K) call_len_seq rfl T.n_len bo_len (pa_cons (pv 1) pa_nil)) (nomark _)) (pss_one (ps_ret pe_bl)) pss_nil)
  (pss_one (ps_ret (pe_cmpR (op_eqD hr.units) (pe_lc (own := [("k", 2)]) rfl sc_law_alike.nd (pi_range1 rfl T.n_range (pa_cons (pe_callB (r := rLenS K) call_len_seq rfl T.n_len bo_len (pa_cons (pv 1) pa_nil)) pa_nil)) (blkOk_by (own := [("k", 2)]) (N := N_law_alike) (sc := defScope s_law_alike) (by decide +kernel)) (fun _ _ _ _ _ => (pg_name (i := 2) sc_law_alike.nd rfl (Or.inl rfl))) (fun _ _ _ _ _ => pts_one (pt_not (pt_val (pe_call G0 hr rfl T.law_alike.g T.law_alike.F.kp (b_law_alike T) .nil pass0 (pa_cons (pe_ix (r := rIxA K) ix_any (pv 0) (pv 2) (fun _ _ => rfl)) (pa_cons (pe_ix (r := rIxA K) ix_any (pv 1) (pv 2) (fun _ _ => rfl)) pa_nil)))))) (fun _ _ _ _ _ => (pv 2))) (pe_lst pa_nil) (nomark _)))))) pss_nil)
  (pss_cons (ps_if (PW.pt (pw_or (pt_cmpR op_isN (pv 1) pe_non (nomark _)) (pw_or1 (pt_val (pe_callB (r := rIsi K) call_isi rfl T.n_isinstance bo_isinstance (pa_cons (pv 1) (pa_cons (pe_bltn (v := .ty "str") rfl T.n_str bo_str rfl) pa_nil))))))) (pss_one (ps_ret (pe_and (pe_cmpR (op_eqD hr.units) (pv 0) (pv 1) (nomark _)) (pe_one (pe_cmpR op_eq (pe_callB (r := rIsi K) call_isi rfl T.n_isinstance bo_isinstance (pa_cons (pv 0) (pa_cons (pe_bltn (v := .ty "str") rfl T.n_str bo_str rfl) pa_nil))) (pe_callB (r := rIsi K) call_isi rfl T.n_isinstance bo_isinstance (pa_cons (pv 1) (pa_cons (pe_bltn (v := .ty "str") rfl T.n_str bo_str rfl) pa_nil))) (nomark _)))))) pss_nil)
  (pss_one (ps_ret (pe_and (pe_callB (r := rIsi K) call_isi rfl T.n_isinstance bo_isinstance (pa_cons (pv 0) (pa_cons (pe_bltn (v := .ty "int") rfl T.n_int bo_int rfl) pa_nil))) (pe_and (pe_cmpR op_eq (pe_callB (r := rIsi K) call_isi rfl T.n_isinstance bo_isinstance (pa_cons (pv 0) (pa_cons (pe_bltn (v := .ty "bool") rfl T.n_bool bo_bool rfl) pa_nil))) (pe_callB (r := rIsi K) call_isi rfl T.n_isinstance bo_isinstance (pa_cons (pv 1) (pa_cons (pe_bltn (v := .ty "bool") rfl T.n_bool bo_bool rfl) pa_nil))) (nomark _)) (pe_one (pe_cmpR (op_eqD hr.units) (pv 0) (pv 1) (nomark _))))))))), ?_⟩
    walk_at "rd"
    refine ⟨two_line, fun p hp => ?_⟩
    have s1 := same_upd (o := .tup [V.ty "tuple", V.ty "list"]) hp
    refine ⟨_, _, _, _, _, _, rfl, upd_same, .cons (.ty _) (.cons (.ty _) .nil), ty_tup (Toy.Same.tup s1 hb), kitA_tuple, ?_⟩
    walk_at "rd"
    refine ⟨two_line, fun q hq => ?_⟩
    have s2 := Same.trans s1 (same_upd (o := .tup [V.ty "tuple", V.ty "list"]) hq)
    refine ⟨_, _, _, _, _, _, rfl, upd_same, .cons (.ty _) (.cons (.ty _) .nil), ty_tup (Toy.Same.tup s2 ha), kitA_tuple, ?_⟩
    obtain ⟨H2, eH2⟩ : ∃ H2, H2 = upd (upd H p (.tup [V.ty "tuple", V.ty "list"])) q (.tup [V.ty "tuple", V.ty "list"]) := ⟨_, rfl⟩
    rw [← eH2] at s2 ⊢
    clear eH2
    have ha2 := Toy.Same.tup s2 ha
    have hb2 := Toy.Same.tup s2 hb
    walk_at "rd"
    refine ⟨_, _, _, _, _, rfl, .ty _, ty_tup ha2, kit_tuple_list, ?_⟩
    walk_at "rd"
    refine ⟨_, _, _, _, _, rfl, .ty _, ty_tup hb2, kit_tuple_list, ?_⟩
    walk_at "rd"
    refine ⟨_, _, rfl, .inr ha2, ?_⟩
    walk_at "rd"
    refine ⟨_, _, rfl, .inr hb2, ?_⟩
    walk_at "rd"
    refine ⟨_, _, rfl, .inr hb2, ?_⟩
    walk_at "rd"
    refine ⟨(show (-2 ^ 62 : Int) ≤ ((2 : Nat) : Int) by decide), (show ((2 : Nat) : Int) < 2 ^ 62 by decide), fun D hD => ?_⟩
    refine lc_range (lo := 0) (n := 2) (fun i H3 => Same H2 H3 ∧ H3 D = some (.lst [])) ⟨same_upd hD, upd_same⟩ (fun i H3 hi q => ?_) (fun H3 q => ?_)
    · obtain ⟨s3, e3⟩ := q
      obtain ⟨x, hx, hxx⟩ : ∃ x, atI [V.str "place", V.int i0] (0 + (i : Int)) = some x ∧ (x = .str "place" ∨ ∃ i, x = .int i) := by
        rcases (show i = 0 ∨ i = 1 by omega) with rfl | rfl
        · exact ⟨_, rfl, .inl rfl⟩
        · exact ⟨_, rfl, .inr ⟨_, rfl⟩⟩
      walk_at "rd"
      refine .inr ⟨_, _, _, _, rfl, rfl, (Toy.Same.tup s3 ha2), hx, ?_⟩
      walk_at "rd"
      refine .inr ⟨_, _, _, _, rfl, rfl, (Toy.Same.tup s3 hb2), hx, ?_⟩
      refine ⟨_, rfl, hxx, fun H4 s4 => ?_⟩
      walk_at "rd"
      exact ⟨Same.trans s3 s4, s4 _ _ e3⟩
    · obtain ⟨s3, e3⟩ := q
      walk_at "rd"
      refine ⟨by decide, fun q hq => ?_⟩
      refine ⟨_, _, .lst (.inl (.inl ((upd_ne (ne_of_none e3 hq)).trans e3))) .nil, .lst (.inl (.inl upd_same)) .nil, by decide, by decide, ?_⟩
      exact k _ (Same.trans s2 (Same.trans s3 (same_upd hq)))
theorem ok_alike_pair (T : Txt K mg) : FnOk P w K mg base CX0 2 T.law_alike.f T.law_alike.fd P_law_alike (spPair K) := alike_pair T (alike_el T fn_never)
end

local macro_rules | `(tactic| walk_at "rf") => `(tactic| repeat (first | walk_at "rd1" | refine ⟨_, _, _, _, _, rfl, (by assumption), (by assumption), (by assumption), rfl, ?_⟩))

/-! ### the law -/
def sgnsS : Str := "xyzw+-*/^0123456789 xy01 a.X"
theorem strs_of {k : Nat} : ∀ {ys : List V}, (∀ (j : Nat) y, ys[j]? = some y → ∃ l : List Nat, y = .str (tx l) ∧ l.length ≤ k) → ∃ L : List (List Nat), ys = L.map (fun l => V.str (tx l)) ∧ ∀ l ∈ L, l.length ≤ k
  | [], _ => ⟨[], rfl, fun l h => by cases h⟩
  | y :: ys, h => by
    obtain ⟨L, e, hL⟩ := strs_of (ys := ys) fun j y hj => h (j + 1) y (by simpa using hj)
    obtain ⟨l, rfl, hl⟩ := h 0 y rfl
    refine ⟨l :: L, by rw [e]; rfl, fun x hx => ?_⟩
    rcases List.mem_cons.mp hx with rfl | hx
    · exact hl
    · exact hL x hx
theorem join_le {s k m : Nat} {sep : List Nat} {L : List (List Nat)} (hs : sep.length = s) (hl : ∀ l ∈ L, l.length ≤ k) (hm : L.length = m) : (TL.joinL sep L).length ≤ m * k + m * s := by
  have h1 := joinL_len sep L
  have h2 := lens_le hl
  rw [hs, hm] at h1
  rw [hm] at h2
  omega
section
variable {P : Program} {w : World} {K : PySem.W.Frag} {mg : Str → Option Value} {base : Heap}
/-- what stands: the ring, the row, the tables -/
structure S7 (t : TabsAt) (K : PySem.W.Frag) (r sa : Addr) (ns : List Int) (f : Int) (n : Nat) (o : Ord) (rv : V) (H : Hp) : Prop where
  hv : RgV K H rv f n o
  row : RowAt K H r sa ns
  ts : TS t H
theorem S7.step {t : TabsAt} {r sa : Addr} {ns : List Int} {f : Int} {n : Nat} {o : Ord} {rv : V} {H H' : Hp} (h : S7 t K r sa ns f n o rv H) (k : LK t K r sa ns H H') : S7 t K r sa ns f n o rv H' := ⟨h.hv.tp' (LK.tq h.row k).tp, k.row, k.ts⟩
theorem S7.ex {t : TabsAt} {r sa : Addr} {ns : List Int} {f : Int} {n : Nat} {o : Ord} {rv : V} {H H' : Hp} (h : S7 t K r sa ns f n o rv H) (x : Ex t H H') : S7 t K r sa ns f n o rv H' := h.step (LK.ex h.row x)
theorem S7.same {t : TabsAt} {r sa : Addr} {ns : List Int} {f : Int} {n : Nat} {o : Ord} {rv : V} {H H' : Hp} (h : S7 t K r sa ns f n o rv H) (s : Same H H') : S7 t K r sa ns f n o rv H' := h.step (LK.same h.row h.ts s)
theorem S7.rk {t : TabsAt} {r sa : Addr} {ns : List Int} {f : Int} {n : Nat} {o : Ord} {rv : V} {H H' : Hp} (h : S7 t K r sa ns f n o rv H) (s : RK K r sa ns H H') : S7 t K r sa ns f n o rv H' := h.step (LK.rk h.row h.ts s)
/-- a text of at most so many signs, at its place -/
def LG (t : TabsAt) (K : PySem.W.Frag) (r sa : Addr) (ns : List Int) (f : Int) (n : Nat) (o : Ord) (rv : V) (B : Nat) : St → Hp → Prop := fun σ H => S7 t K r sa ns f n o rv H ∧ ∃ (T : List Nat) (y5 y7 y8 y9 y10 y11 : Option V),
  σ = [some (.ref sa), some (.ref r), some (.int (n : Int)), some rv, some (.str sgnsS), y5, some (.str (tx T)), y7, y8, y9, y10, y11] ∧ T.length ≤ B
theorem cut_lo {T : List Nat} {a : Nat} (ha : a ≤ T.length) : cutS (tx T) none (some (a : Int)) = tx (T.take a) := by
  have := cut_tx (T := T) (a := 0) (b := a) (Nat.zero_le _)
  rw [List.drop_zero, Nat.sub_zero] at this
  rw [← this]
  rfl
theorem cut_len (T : List Nat) (lo hi : Option Int) : ∃ S : List Nat, cutS (tx T) lo hi = tx S ∧ S.length ≤ T.length := ⟨((cutS (tx T) lo hi).cps.toList), by unfold tx; simp, by have := cutS_length (tx T) lo hi; rw [tx_len] at this; rw [Array.length_toList]; exact this⟩
theorem cut_hi {T : List Nat} (p : Nat) : cutS (tx T) (some (p : Int)) none = tx (T.drop p) := by
  unfold cutS
  rw [tx_len, HT.sIx_nat]
  unfold tx
  congr 2
  show (T.drop (min p T.length)).take (T.length - min p T.length) = _
  by_cases h : p ≤ T.length
  · rw [Nat.min_eq_left h, List.take_of_length_le (by rw [List.length_drop]; omega)]
  · rw [Nat.min_eq_right (by omega), List.drop_eq_nil_of_le (Nat.le_refl _), List.drop_eq_nil_of_le (show T.length ≤ p by omega), List.take_nil]
theorem ones_len : ∀ k : Nat, (List.replicate k ("1" : Str).cps.toList).flatten.length = k
  | 0 => rfl
  | k + 1 => by
    rw [List.replicate_succ, List.flatten_cons, List.length_append, ones_len k]
    have : ("1" : Str).cps.toList.length = 1 := by decide
    omega
theorem kit_int_S : PySem.W.kitOne K (.type "int") (.type "str") = some false := kit_ty (by decide +kernel)
theorem kit_list_S : PySem.W.kitOne K (.type "list") (.type "str") = some false := kit_ty (by decide +kernel)
theorem kit_tuple_S : PySem.W.kitOne K (.type "tuple") (.type "str") = some false := kit_ty (by decide +kernel)
theorem kit_bool_S : PySem.W.kitOne K (.type "bool") (.type "str") = some false := kit_ty (by decide +kernel)
theorem kit_dict_S : PySem.W.kitOne K (.type "dict") (.type "str") = some false := kit_ty (by decide +kernel)
theorem rc_new {r sa l : Addr} {ns : List Int} {H : Hp} (h : RowAt K H r sa ns) (hl : H l = none) : l ≠ r := fun z => by
  obtain ⟨ys, hr⟩ := row_lst h
  rw [z, hr] at hl
  cases hl
theorem seq_cut {A B : L2.TS} {D : Ends} {σ : St} {H : Hp} (G : St → Hp → Prop) (h1 : ∀ R : St → Hp → Prop, (∀ σ' H', G σ' H' → R σ' H') → A { D with nx := R } σ H) (h2 : ∀ σ' H', G σ' H' → B D σ' H') : tSeq A B D σ H := h1 (B D) h2
theorem name_seq {A B : L2.TS} {D : Ends} {σ : St} {H : Hp} {i : Nat} {v : V} (h : tSeq A B D (σ.set i (some v)) H) : gName i v σ H (tSeq A B D) := h
def sp_law (t : TabsAt) (K : PySem.W.Frag) : Sp := fun vs H Q _ => ∃ (sa : Addr) (ns : List Int), vs = [.ref sa] ∧ SqL K H sa (ns.map V.int) ∧ TS t H ∧ ∀ H', Q (.bl true) H'
theorem ok_law (T : Txt K mg) {t : TabsAt} (B : TBs T base t) (PF : PFl P T.InvalidText.file) : FnOk P w K mg base CX0 29 T.law.f T.law.fd P_law (sp_law t K) := by
  refine T.law.F.ok sc_law (fun vs H Q E h => ?_) (fun cdv A outer s H vs Q E hr h => ?_)
  · obtain ⟨sa, ns, rfl, _⟩ := h; rfl
  · obtain ⟨sa, ns, rfl, hS, hT, k⟩ := h
    refine ⟨_, (pss_cons (ps_set (i := 1) sc_law.nd rfl (Or.inr rfl) (pe_lst (pa_cons (pv 0) (pa_cons pe_int (pa_cons pe_int (pa_cons pe_int pa_nil))))))
  (pss_cons (ps_set (i := 2) sc_law.nd rfl (Or.inl rfl) (pe_op op_add pe_int (pe_call (ok_law_taken T) (hr.mono (by decide)) rfl T.law_taken.g T.law_taken.F.kp (b_law_taken T) .nil pass0 (pa_cons (pv 1) (pa_cons pe_int pa_nil)))))
  (pss_cons (ps_set (i := 3) sc_law.nd rfl (Or.inl rfl) (pe_call (ok_law_ring T) (hr.mono (by decide)) rfl T.law_ring.g T.law_ring.F.kp (b_law_ring T) .nil pass0 (pa_cons (pv 1) (pa_cons (pv 2) pa_nil))))
  (pss_cons (ps_set (i := 4) sc_law.nd rfl (Or.inr rfl) pe_str)
  (pss_cons (ps_for PassesOwn.never rfl (pi_range1 rfl T.n_range (pa_cons pe_int pa_nil)) (pg_name (i := 5) sc_law.nd rfl (Or.inl rfl)) (pss_cons (ps_set (i := 6) sc_law.nd rfl (Or.inl rfl) (pe_call (ok_write T B) (hr.mono (by decide)) rfl T.write.g T.write.F.kp (b_write T) .nil pass0 (pa_cons (pv 3) (pa_cons (pe_call (ok_law_poly T) (hr.mono (by decide)) rfl T.law_poly.g T.law_poly.F.kp (b_law_poly T) .nil pass0 (pa_cons (pv 1) (pa_cons (pv 3) (pa_cons pe_int (pa_cons (pe_ix (r := rIxL K) ix_list (pe_lst (pa_cons pe_int (pa_cons pe_int (pa_cons pe_int pa_nil)))) (pe_call (ok_law_taken T) (hr.mono (by decide)) rfl T.law_taken.g T.law_taken.F.kp (b_law_taken T) .nil pass0 (pa_cons (pv 1) (pa_cons pe_int pa_nil))) (fun _ _ => rfl)) pa_nil))))) pa_nil))))
  (pss_cons (ps_if (pt_cmpR op_eq (pe_call (ok_law_taken T) (hr.mono (by decide)) rfl T.law_taken.g T.law_taken.F.kp (b_law_taken T) .nil pass0 (pa_cons (pv 1) (pa_cons pe_int pa_nil))) pe_int (nomark _)) (pss_one (ps_set (i := 6) sc_law.nd rfl (Or.inl rfl) (pe_join pe_str (pe_lc (own := [("at", 7)]) rfl sc_law.nd (pi_range1 rfl T.n_range (pa_cons (pe_call (ok_law_taken T) (hr.mono (by decide)) rfl T.law_taken.g T.law_taken.F.kp (b_law_taken T) .nil pass0 (pa_cons (pv 1) (pa_cons pe_int pa_nil))) pa_nil)) (blkOk_by (own := [("at", 7)]) (N := N_law) (sc := defScope s_law) (by decide +kernel)) (fun _ _ _ _ _ => (pg_name (i := 7) sc_law.nd rfl (Or.inl rfl))) (fun _ _ _ _ _ => pts_nil) (fun _ _ _ _ _ => (pe_call (ok_law_pick T) (hr.mono (by decide)) rfl T.law_pick.g T.law_pick.F.kp (b_law_pick T) .nil pass0 (pa_cons (pv 1) (pa_cons (pe_callTy (cr_listS rfl) rfl T.n_list bo_list (pa_cons (pv 4) pa_nil)) pa_nil)))))))) pss_nil)
  (pss_cons (ps_if (pt_cmpR op_eq (pe_call (ok_law_taken T) (hr.mono (by decide)) rfl T.law_taken.g T.law_taken.F.kp (b_law_taken T) .nil pass0 (pa_cons (pv 1) (pa_cons pe_int pa_nil))) pe_int (nomark _)) (pss_one (ps_set (i := 6) sc_law.nd rfl (Or.inl rfl) (pe_op op_add_str (pe_op op_add_str (pv 6) (pe_call (ok_law_pick T) (hr.mono (by decide)) rfl T.law_pick.g T.law_pick.F.kp (b_law_pick T) .nil pass0 (pa_cons (pv 1) (pa_cons (pe_lst (pa_cons pe_str (pa_cons pe_str (pa_cons pe_str (pa_cons pe_str (pa_cons pe_str (pa_cons pe_str pa_nil))))))) pa_nil)))) (pe_op op_mulStr pe_str (pe_op op_add pe_int (pe_call (ok_law_taken T) (hr.mono (by decide)) rfl T.law_taken.g T.law_taken.F.kp (b_law_taken T) .nil pass0 (pa_cons (pv 1) (pa_cons pe_int pa_nil)))))))) pss_nil)
  (pss_cons (ps_if (pt_cmpR op_eq (pe_call (ok_law_taken T) (hr.mono (by decide)) rfl T.law_taken.g T.law_taken.F.kp (b_law_taken T) .nil pass0 (pa_cons (pv 1) (pa_cons pe_int pa_nil))) pe_int (nomark _)) (pss_one (ps_set (i := 6) sc_law.nd rfl (Or.inl rfl) (pe_op op_add_str (pe_op op_add_str (pv 6) pe_str) (pe_join pe_str (pe_lc (own := [("at", 7)]) rfl sc_law.nd (pi_range1 rfl T.n_range (pa_cons pe_int pa_nil)) (blkOk_by (own := [("at", 7)]) (N := N_law) (sc := defScope s_law) (by decide +kernel)) (fun _ _ _ _ _ => (pg_name (i := 7) sc_law.nd rfl (Or.inl rfl))) (fun _ _ _ _ _ => pts_nil) (fun _ _ _ _ _ => (pe_op op_add_str pe_str (pe_callTy call_str_int rfl T.n_str bo_str (pa_cons (pe_call (ok_law_taken T) (hr.mono (by decide)) rfl T.law_taken.g T.law_taken.F.kp (b_law_taken T) .nil pass0 (pa_cons (pv 1) (pa_cons pe_int pa_nil))) pa_nil))))))))) pss_nil)
  (pss_cons (ps_for PassesOwn.never rfl (pi_range1 rfl T.n_range (pa_cons (pe_call (ok_law_taken T) (hr.mono (by decide)) rfl T.law_taken.g T.law_taken.F.kp (b_law_taken T) .nil pass0 (pa_cons (pv 1) (pa_cons pe_int pa_nil))) pa_nil)) (pg_name (i := 8) sc_law.nd rfl (Or.inl rfl)) (pss_cons (ps_par rfl sc_law.nd (i := 7) (j := 9) rfl rfl (by decide) rfl rfl (pa_cons (pe_call (ok_law_taken T) (hr.mono (by decide)) rfl T.law_taken.g T.law_taken.F.kp (b_law_taken T) .nil pass0 (pa_cons (pv 1) (pa_cons (pe_op op_add (pe_callB call_len_str rfl T.n_len bo_len (pa_cons (pv 6) pa_nil)) pe_int) pa_nil))) (pa_cons (pe_call (ok_law_pick T) (hr.mono (by decide)) rfl T.law_pick.g T.law_pick.F.kp (b_law_pick T) .nil pass0 (pa_cons (pv 1) (pa_cons (pe_callTy (cr_listS rfl) rfl T.n_list bo_list (pa_cons (pv 4) pa_nil)) pa_nil))) pa_nil)) rfl)
  (pss_one (ps_set (i := 6) sc_law.nd rfl (Or.inl rfl) (pe_op op_add_str (pe_op op_add_str (pe_slice sl_str (pv 6) po_none (po_some (pv 7))) (pe_call (ok_law_pick T) (hr.mono (by decide)) rfl T.law_pick.g T.law_pick.F.kp (b_law_pick T) .nil pass0 (pa_cons (pv 1) (pa_cons (pe_lst (pa_cons (pv 9) (pa_cons pe_str (pa_cons (pe_op op_add_str (pv 9) (pv 9)) pa_nil)))) pa_nil)))) (pe_slice sl_str (pv 6) (po_some (pe_op op_add (pv 7) (pe_call (ok_law_taken T) (hr.mono (by decide)) rfl T.law_taken.g T.law_taken.F.kp (b_law_taken T) .nil pass0 (pa_cons (pv 1) (pa_cons pe_int pa_nil))))) po_none))))))
  (pss_cons (ps_par rfl sc_law.nd (i := 10) (j := 11) rfl rfl (by decide) rfl rfl (pa_cons (pe_call (ok_law_wrong T) (hr.mono (by decide)) rfl T.law_wrong.g T.law_wrong.F.kp (b_law_wrong T) .nil pass0 (pa_cons (pv 3) (pa_cons (pv 6) pa_nil))) (pa_cons (pe_call (ok_law_told T B PF) (hr.mono (by decide)) rfl T.law_told.g T.law_told.F.kp (b_law_told T) .nil pass0 (pa_cons (pv 3) (pa_cons (pv 6) pa_nil))) pa_nil)) rfl)
  (pss_cons (ps_if (PW.pt (pw_and (pt_cmpR op_notN (pv 10) pe_non (nomark _)) (pw_and1 (pt_not (pt_val (pe_call (ok_alike_pair T) (hr.mono (by decide)) rfl T.law_alike.g T.law_alike.F.kp (b_law_alike T) .nil pass0 (pa_cons (pv 11) (pa_cons (pe_tup (pa_cons pe_str (pa_cons (pv 10) pa_nil))) pa_nil)))))))) (pss_one (ps_ret pe_bl)) pss_nil)
  (pss_one (ps_if (PW.pt (pw_and (pt_cmpR op_isN (pv 10) pe_non (nomark _)) (pw_and1 (pt_cmpR op_ne (pe_ix (r := rIxT K) ix_tup (pv 11) pe_int (fun _ _ => rfl)) pe_str (nomark _))))) (pss_one (ps_ret pe_bl)) pss_nil))))))))))
  (pss_one (ps_ret (pe_cmpR op_eq (pe_call (ok_law_told T B PF) (hr.mono (by decide)) rfl T.law_told.g T.law_told.F.kp (b_law_told T) .nil pass0 (pa_cons (pv 3) (pa_cons (pe_call (ok_law_pick T) (hr.mono (by decide)) rfl T.law_pick.g T.law_pick.F.kp (b_law_pick T) .nil pass0 (pa_cons (pv 1) (pa_cons (pe_lst (pa_cons pe_non (pa_cons pe_int (pa_cons (pe_lst (pa_cons pe_str pa_nil)) (pa_cons (pe_tup (pa_cons pe_str pa_nil)) (pa_cons pe_bl (pa_cons pe_dnewT pa_nil))))))) pa_nil))) pa_nil))) pe_str (nomark _))))))))), ?_⟩
    have hbig : 100000 < sizeLine := by decide
    walk_at "rd"
    refine ⟨(show 4 ≤ sizeLine by decide), fun r hrn => ?_⟩
    have s0 := same_upd (o := .lst [.ref sa, .int 0, .int 4107, .int 0]) hrn
    have row0 : RowAt K (upd H r (.lst [.ref sa, .int 0, .int 4107, .int 0])) r sa ns := by
      refine .of (ns := ns) rfl ?_ (by decide) (by decide) (by decide) (by decide)
      rcases hS with hS | hS
      · refine .inl ⟨hS, ?_⟩
        rcases hS with h | ⟨u, h⟩ <;> exact ne_of_none h hrn
      · exact .inr hS
    have ts0 := hT.same s0
    walk_at "rd"
    refine ⟨r, sa, ns, 4, rfl, row0, by decide, by decide, fun v H1 v0 v1 row1 b1 => ?_⟩
    have K1 := LK.rk row0 ts0 (.draw row1 b1)
    obtain ⟨c, rfl⟩ := Int.eq_ofNat_of_zero_le v0
    walk_at "rd"
    dsimp only
    rw [show (1 : Int) + (c : Int) = ((c + 1 : Nat) : Int) by omega]
    generalize hn : c + 1 = n
    have hn1 : 1 ≤ n := by omega
    have hn4 : n ≤ 4 := by omega
    walk_at "rd"
    refine ⟨r, sa, ns, n, rfl, hn1, hn4, row1, fun f o rv H2 hf ho hrv rk2 => ?_⟩
    have K2 := LK.rk K1.row K1.ts rk2
    have hv2 : RgV K H2 rv f n o := ⟨hf, hn1, hn4, ho, hrv⟩
    have S2 : S7 t K r sa ns f n o rv H2 := ⟨hv2, K2.row, K2.ts⟩
    have hF := hf.isF
    clear hv2 K2 hrv rk2 K1 row1 b1 row0 ts0 s0
    walk_at "rd"
    refine ⟨by decide, by decide, ?_⟩
    refine for_range (lo := 0) (n := 4) (fun i σ Hx => S7 t K r sa ns f n o rv Hx ∧ ∃ (y5 y6 y7 y8 y9 y10 y11 : Option V), σ = [some (.ref sa), some (.ref r), some (.int (n : Int)), some rv, some (.str sgnsS), y5, y6, y7, y8, y9, y10, y11]) ⟨S2, none, none, none, none, none, none, none, rfl⟩ ?_ ?_
    · rintro i σ H3 hi ⟨S3, y5, y6, y7, y8, y9, y10, y11, rfl⟩
      walk_at "rd"
      refine ⟨(show 3 ≤ sizeLine by decide), fun l hl => ?_⟩
      have S4 := S3.same (same_upd (o := .lst [V.int 2, V.int 6, V.int 60]) hl)
      have nl := rc_new S3.row hl
      walk_at "rd"
      refine ⟨r, sa, ns, 3, rfl, S4.row, by decide, by decide, fun v H5 v0 v1 row5 b5 => ?_⟩
      have S5 := S4.rk (.draw row5 b5)
      obtain ⟨m, hm, hm0, hm60⟩ : ∃ m : Int, atI [V.int 2, V.int 6, V.int 60] v = some (.int m) ∧ 0 ≤ m ∧ m ≤ 60 := by
        rcases (show v = 0 ∨ v = 1 ∨ v = 2 by omega) with rfl | rfl | rfl
        · exact ⟨2, rfl, by decide, by decide⟩
        · exact ⟨6, rfl, by decide, by decide⟩
        · exact ⟨60, rfl, by decide, by decide⟩
      walk_at "rd"
      refine ⟨l, _, _, _, rfl, rfl, .inl (.inl ((b5 l nl).trans upd_same)), hm, ?_⟩
      walk_at "rd"
      refine ⟨r, sa, ns, f, n, o, rv, 3, m, rfl, S5.hv, S5.row, by decide, hm0, hm60, fun pw ps H6 hp hP rk6 => ?_⟩
      have S6 := S5.rk rk6
      walk_at "rd"
      refine ⟨f, n, o, rv, pw, ps, rfl, S6.hv, hp, hP.can.poly hn1 hn4 ho (Nat.le_trans hP.len (by decide)), S6.ts, fun H7 x7 => ?_⟩
      have S7' := S6.ex x7
      have htl : (textT ps).length ≤ 76 := textT_small (k := 3) hP.len fun u hu => ⟨by
        have h1 := hP.num u hu
        have h2 := (hP.can.ok u hu).1.1
        have h31 := hF.lt
        unfold NumOk at h2
        unfold NumT
        by_cases f0 : f = 0
        · obtain ⟨a1, a2⟩ := h1 f0
          rw [if_pos f0] at h2
          exact ⟨by omega, h2.2.1, .inr ⟨by omega, by omega⟩⟩
        · rw [if_neg f0] at h2
          obtain ⟨b1, b2, b3⟩ := h2
          exact ⟨by omega, by omega, .inl (by omega)⟩, (hP.can.ok u hu).1.2.1.2⟩
      dsimp only
      refine name_seq ?_
      refine seq_cut (LG t K r sa ns f n o rv 76) (fun R hR => ?_) ?_
      · walk_at "rd"
        refine ⟨r, sa, ns, 5, rfl, S7'.row, by decide, by decide, fun v8 H8 w0 w1 row8 b8 => ?_⟩
        have S8 := S7'.rk (.draw row8 b8)
        walk_at "rd"
        refine iteV (fun _ => ?_) (fun _ => ?_)
        · walk_at "rd"
          refine ⟨⟨_, rfl⟩, ?_⟩
          walk_at "rd"
          refine ⟨r, sa, ns, 9, rfl, S8.row, by decide, by decide, fun c9 H9 u0 u1 row9 b9 => ?_⟩
          have S9 := S8.rk (.draw row9 b9)
          obtain ⟨c, rfl⟩ := Int.eq_ofNat_of_zero_le u0
          walk_at "rd"
          refine ⟨by omega, by omega, fun D hD => ?_⟩
          rw [Int.toNat_natCast]
          refine lc_range (lo := 0) (n := c) (MapRow K r sa ns H9 D fun _ y => ∃ l : List Nat, y = .str (tx l) ∧ l.length ≤ 1) (mapRow_0 S9.row hD) (fun j Ha hj hPm => ?_) (fun Ha hPm => ?_)
          · have rowa : RowAt K Ha r sa ns := by obtain ⟨_, q, _⟩ := hPm; exact q.row
            walk_at "rd"
            refine ⟨by decide, fun l2 hl2 => ?_⟩
            have sl := same_upd (o := .lst (sgnsS.cps.toList.map fun c => V.str ⟨#[c]⟩)) hl2
            walk_at "rd"
            refine ⟨r, sa, l2, ns, _, rfl, rowa.sm sl, .inl (.inl upd_same), rc_new rowa hl2, by decide, by decide, fun v Hb hv rowb bb => ?_⟩
            obtain ⟨cc, _, rfl⟩ := List.mem_map.mp hv
            walk_at "rd"
            exact mapRow_step hPm S9.row hD (by omega) ((RK.of rowa sl).trans (.draw rowb bb)) ⟨[cc], rfl, Nat.le_refl _⟩
          · obtain ⟨ys, q1, e1, n1, r1⟩ := hPm
            obtain ⟨L, rfl, hL⟩ := strs_of r1
            rw [List.length_map] at n1
            have jl := join_le (s := 0) (sep := []) rfl hL n1
            walk_at "rd"
            refine ⟨_, D, L.map tx, rfl, rfl, .inl (.inl (.inl ?_)), ?_, ?_⟩
            · rw [e1, List.map_map]; rfl
            · rw [map_tx_len, List.length_map, s_empty, tx_len, List.length_nil, Nat.mul_zero]
              have := lens_le hL
              omega
            · rw [s_empty, show Txt.join (tx []) (L.map tx) = tx (TL.joinL [] L) from SX.join_S [] L]
              walk_at "rd"
              exact hR _ _ ⟨S9.rk q1, TL.joinL [] L, _, _, _, _, _, _, rfl, by omega⟩
        · walk_at "rd"
          exact hR _ _ ⟨S8, textT ps, _, _, _, _, _, _, rfl, htl⟩
      · rintro σ8 H8 ⟨S8, X8, z5, z7, z8, z9, z10, z11, rfl, hX8⟩
        clear S7' S6 S5 S4 S3 hp hP htl x7
        refine seq_cut (LG t K r sa ns f n o rv 140) (fun R hR => ?_) ?_
        · walk_at "rd"
          refine ⟨r, sa, ns, 8, rfl, S8.row, by decide, by decide, fun v9 H9 w0 w1 row9 b9 => ?_⟩
          have S9 := S8.rk (.draw row9 b9)
          walk_at "rd"
          refine iteV (fun _ => ?_) (fun _ => ?_)
          · walk_at "rd"
            refine ⟨(show 6 ≤ sizeLine by decide), fun l2 hl2 => ?_⟩
            have sl := same_upd (o := .lst [V.str ("+" : Str), V.str ("*" : Str), V.str ("-x^" : Str), V.str ("+0" : Str), V.str (" " : Str), V.str ("+1" : Str)]) hl2
            walk_at "rd"
            refine ⟨r, sa, l2, ns, _, rfl, S9.row.sm sl, .inl (.inl upd_same), rc_new S9.row hl2, by decide, by decide, fun v Hb hv rowb bb => ?_⟩
            have Sb := (S9.same sl).rk (.draw rowb bb)
            obtain ⟨l3, rfl, h3⟩ : ∃ l : List Nat, v = .str (tx l) ∧ l.length ≤ 3 := by
              simp only [List.mem_cons, List.not_mem_nil, or_false] at hv
              rcases hv with rfl | rfl | rfl | rfl | rfl | rfl
              · exact ⟨[43], congrArg V.str (by decide), by decide⟩
              · exact ⟨[42], congrArg V.str (by decide), by decide⟩
              · exact ⟨[45, 120, 94], congrArg V.str (by decide), by decide⟩
              · exact ⟨[43, 48], congrArg V.str (by decide), by decide⟩
              · exact ⟨[32], congrArg V.str (by decide), by decide⟩
              · exact ⟨[43, 49], congrArg V.str (by decide), by decide⟩
            walk_at "rd"
            refine ⟨by rw [tx_len, tx_len]; omega, ?_⟩
            rw [tx_app]
            walk_at "rd"
            refine ⟨r, sa, ns, 3, rfl, Sb.row, by decide, by decide, fun c9 Hc u0 u1 rowc bc => ?_⟩
            have Sc := Sb.rk (.draw rowc bc)
            obtain ⟨c, rfl⟩ := Int.eq_ofNat_of_zero_le u0
            walk_at "rd"
            refine ⟨(show 59 + c ≤ 1000 by omega), by decide, ?_⟩
            have ol := ones_len (59 + c)
            generalize (List.replicate (59 + c) ("1" : Str).cps.toList).flatten = ones at *
            rw [show (⟨ones.toArray⟩ : Str) = tx ones from rfl]
            walk_at "rd"
            refine ⟨by rw [tx_len, tx_len, List.length_append]; omega, ?_⟩
            rw [tx_app]
            walk_at "rd"
            exact hR _ _ ⟨Sc, X8 ++ l3 ++ ones, _, _, _, _, _, _, rfl, by rw [List.length_append, List.length_append]; omega⟩
          · walk_at "rd"
            exact hR _ _ ⟨S9, X8, _, _, _, _, _, _, rfl, by omega⟩
        · rintro σ9 H9 ⟨S9, X9, a5, a7, a8, a9, a10, a11, rfl, hX9⟩
          refine seq_cut (LG t K r sa ns f n o rv 156) (fun R hR => ?_) ?_
          · walk_at "rd"
            refine ⟨r, sa, ns, 8, rfl, S9.row, by decide, by decide, fun v9 Ha w0 w1 rowa ba => ?_⟩
            have Sa := S9.rk (.draw rowa ba)
            walk_at "rd"
            refine iteV (fun _ => ?_) (fun _ => ?_)
            · walk_at "rd"
              refine ⟨by rw [s_plus, tx_len, tx_len, List.length_singleton]; omega, ?_⟩
              rw [s_plus, tx_app]
              walk_at "rd"
              refine ⟨⟨_, rfl⟩, ?_⟩
              walk_at "rd"
              refine ⟨by decide, by decide, fun D hD => ?_⟩
              refine lc_range (lo := 0) (n := 3) (MapRow K r sa ns Ha D fun _ y => ∃ l : List Nat, y = .str (tx l) ∧ l.length ≤ 4) (mapRow_0 Sa.row hD) (fun j Hb hj hPm => ?_) (fun Hb hPm => ?_)
              · have rowb : RowAt K Hb r sa ns := by obtain ⟨_, q, _⟩ := hPm; exact q.row
                walk_at "rd"
                refine ⟨r, sa, ns, 40, rfl, rowb, by decide, by decide, fun v Hc e0 e1 rowc bc => ?_⟩
                obtain ⟨q, rfl⟩ := Int.eq_ofNat_of_zero_le e0
                have nl : (TL.numL q).length ≤ 2 := TL.numL_len (by decide) (Nat.lt_of_lt_of_le (show q < 40 by omega) (by decide))
                walk_at "rd"
                refine ⟨by rw [Int.natAbs_natCast]; exact Nat.lt_of_le_of_lt (Nat.log2_le_self q) (by omega), ?_⟩
                rw [tx_num, show ("x^" : Str) = tx [120, 94] by decide]
                walk_at "rd"
                refine ⟨by rw [tx_len, tx_len]; simp; omega, ?_⟩
                rw [tx_app]
                exact mapRow_step hPm Sa.row hD (by omega) (.draw rowc bc) ⟨[120, 94] ++ TL.numL q, rfl, by simp; omega⟩
              · obtain ⟨ys, q1, e1, n1, r1⟩ := hPm
                obtain ⟨L, rfl, hL⟩ := strs_of r1
                rw [List.length_map] at n1
                have jl := join_le (s := 1) (sep := [42]) rfl hL n1
                have ll := lens_le hL
                rw [n1] at ll
                walk_at "rd"
                refine ⟨_, D, L.map tx, rfl, rfl, .inl (.inl (.inl ?_)), ?_, ?_⟩
                · rw [e1, List.map_map]; rfl
                · rw [map_tx_len, List.length_map, s_star, tx_len, List.length_singleton, Nat.mul_one]
                  omega
                · rw [s_star, show Txt.join (tx [42]) (L.map tx) = tx (TL.joinL [42] L) from SX.join_S [42] L]
                  walk_at "rd"
                  refine ⟨by rw [tx_len, tx_len, List.length_append, List.length_singleton]; omega, ?_⟩
                  rw [tx_app]
                  walk_at "rd"
                  exact hR _ _ ⟨Sa.rk q1, X9 ++ [43] ++ TL.joinL [42] L, _, _, _, _, _, _, rfl, by rw [List.length_append, List.length_append, List.length_singleton]; omega⟩
            · walk_at "rd"
              exact hR _ _ ⟨Sa, X9, _, _, _, _, _, _, rfl, by omega⟩
          · rintro σa Ha ⟨Sa, Xa, c5, c7, c8, c9, c10, c11, rfl, hXa⟩
            walk_at "rd"
            refine ⟨r, sa, ns, 3, rfl, Sa.row, by decide, by decide, fun c9' Hb u0 u1 rowb bb => ?_⟩
            have Sb := Sa.rk (.draw rowb bb)
            obtain ⟨c, rfl⟩ := Int.eq_ofNat_of_zero_le u0
            walk_at "rd"
            refine ⟨by omega, by omega, ?_⟩
            rw [Int.toNat_natCast]
            refine for_range (lo := 0) (n := c) (fun j σ Hx => LG t K r sa ns f n o rv (156 + 2 * j) σ Hx) ⟨Sb, Xa, _, _, _, _, _, _, rfl, by omega⟩ ?_ ?_
            · rintro j σ Hx hj ⟨Sx, Xx, d5, d7, d8, d9, d10, d11, rfl, hXx⟩
              walk_at "rd"
              refine ⟨tx_line (by omega), ?_⟩
              rw [tx_len]
              walk_at "rd"
              refine ⟨r, sa, ns, (Xx.length : Int) + 1, rfl, Sx.row, by omega, by omega, fun va Hy e0 e1 rowy by' => ?_⟩
              have Sy := Sx.rk (.draw rowy by')
              obtain ⟨at', rfl⟩ := Int.eq_ofNat_of_zero_le e0
              walk_at "rd"
              refine ⟨by decide, fun l2 hl2 => ?_⟩
              have sl := same_upd (o := .lst (sgnsS.cps.toList.map fun c => V.str ⟨#[c]⟩)) hl2
              walk_at "rd"
              refine ⟨r, sa, l2, ns, _, rfl, Sy.row.sm sl, .inl (.inl upd_same), rc_new Sy.row hl2, by decide, by decide, fun v Hz hv rowz bz => ?_⟩
              have Sz := (Sy.same sl).rk (.draw rowz bz)
              obtain ⟨cc, _, rfl⟩ := List.mem_map.mp hv
              rw [show (⟨#[cc]⟩ : Str) = tx [cc] from rfl]
              walk_at "rd"
              refine ⟨tx_line (by omega), ?_⟩
              rw [cut_lo (by omega)]
              walk_at "rd"
              refine ⟨by rw [tx_len, List.length_singleton]; omega, ?_⟩
              rw [tx_app]
              walk_at "rd"
              refine ⟨(show 3 ≤ sizeLine by decide), fun l4 hl4 => ?_⟩
              have sl4 := same_upd (o := .lst [V.str (tx [cc]), V.str ("" : Str), V.str (tx ([cc] ++ [cc]))]) hl4
              walk_at "rd"
              refine ⟨r, sa, l4, ns, _, rfl, Sz.row.sm sl4, .inl (.inl upd_same), rc_new Sz.row hl4, (show 1 ≤ 3 by decide), (show 3 ≤ 1000000000 by decide), fun v Hw hv roww bw => ?_⟩
              have Sw := (Sz.same sl4).rk (.draw roww bw)
              obtain ⟨l5, rfl, h5⟩ : ∃ l : List Nat, v = .str (tx l) ∧ l.length ≤ 2 := by
                simp only [List.mem_cons, List.not_mem_nil, or_false] at hv
                rcases hv with rfl | rfl | rfl
                · exact ⟨[cc], rfl, (show 1 ≤ 2 by decide)⟩
                · exact ⟨[], congrArg V.str (by decide), (show 0 ≤ 2 by decide)⟩
                · exact ⟨[cc] ++ [cc], rfl, (show 2 ≤ 2 by decide)⟩
              walk_at "rd"
              refine ⟨by rw [tx_len, tx_len, List.length_take]; omega, ?_⟩
              rw [tx_app]
              walk_at "rd"
              refine ⟨r, sa, ns, 2, rfl, Sw.row, by decide, by decide, fun vw Hv g0 g1 rowv bv => ?_⟩
              have Sv := Sw.rk (.draw rowv bv)
              obtain ⟨w2, rfl⟩ := Int.eq_ofNat_of_zero_le g0
              walk_at "rd"
              refine ⟨tx_line (by omega), ?_⟩
              rw [show ((at' : Int) + (w2 : Int)) = ((at' + w2 : Nat) : Int) from rfl, cut_hi]
              walk_at "rd"
              refine ⟨by rw [tx_len, tx_len, List.length_append, List.length_take, List.length_drop]; omega, ?_⟩
              rw [tx_app]
              walk_at "rd"
              exact ⟨Sv, Xx.take at' ++ l5 ++ Xx.drop (at' + w2), _, _, _, _, _, _, rfl, by rw [List.length_append, List.length_append, List.length_take, List.length_drop]; omega⟩
            · rintro σb Hc ⟨Sc, Xc, d5, d7, d8, d9, d10, d11, rfl, hXc⟩
              dsimp only
              walk_at "rd"
              refine ⟨rv, f, n, o, Xc, rfl, Sc.hv, by omega, fun wv Hd sd hW => ?_⟩
              have Sd := Sc.same sd
              walk_at "rd"
              refine ⟨f, n, o, rv, _, rfl, Sd.hv, Sd.ts, .inl ⟨Xc, rfl, by omega, fun l q hl a v' He xe ha => ?_, fun s hs a He xe ha => ?_⟩⟩
              · rw [hl] at hW
                have hW : wv = .non := hW
                subst hW
                have Se := Sd.ex xe
                walk_at "rd"
                exact ⟨Se, _, _, _, _, _, _, _, rfl⟩
              · rw [hs] at hW
                have hW : wv = .int (s : Int) := hW
                subst hW
                have Se := Sd.ex xe
                walk_at "rd"
                refine ⟨(show 2 ≤ sizeLine by decide), fun p hp => ?_⟩
                have sp := same_upd (o := .tup [V.str ("place" : Str), V.int (s : Int)]) hp
                walk_at "rd"
                refine ⟨a, p, s, rfl, .inl (.inl (sp _ _ ha)), .inl (.inl upd_same), fun Hf sf => ?_⟩
                have Sf := (Se.same sp).same sf
                walk_at "rd"
                walk_at "rd"
                exact ⟨Sf, _, _, _, _, _, _, _, rfl⟩
    · rintro σ H9 ⟨S9, y5, y6, y7, y8, y9, y10, y11, rfl⟩
      dsimp only
      walk_at "rd"
      refine ⟨(show 1 ≤ sizeLine by decide), fun l1 h1 => ?_⟩
      walk_at "rd"
      refine ⟨(show 1 ≤ sizeLine by decide), fun t1 ht1 => ?_⟩
      walk_at "rd"
      intro d hd
      walk_at "rd"
      refine ⟨(show 6 ≤ sizeLine by decide), fun l hl => ?_⟩
      walk_at "rd"
      have sD : Same H9 (upd (upd (upd H9 l1 (HO.lst [V.str ("x" : Str)])) t1 (HO.tup [V.str ("x" : Str)])) d (HO.dT [])) := Same.trans (Same.trans (same_upd h1) (same_upd ht1)) (same_upd hd)
      have sF : Same H9 (upd (upd (upd (upd H9 l1 (HO.lst [V.str ("x" : Str)])) t1 (HO.tup [V.str ("x" : Str)])) d (HO.dT [])) l (HO.lst [V.non, V.int 0, V.ref l1, V.ref t1, V.bl true, V.ref d])) := Same.trans (Same.trans (Same.trans (same_upd h1) (same_upd ht1)) (same_upd hd)) (same_upd hl)
      have g1 : (upd (upd (upd (upd H9 l1 (HO.lst [V.str ("x" : Str)])) t1 (HO.tup [V.str ("x" : Str)])) d (HO.dT [])) l (HO.lst [V.non, V.int 0, V.ref l1, V.ref t1, V.bl true, V.ref d])) l1 = some (.lst [V.str ("x" : Str)]) := same_upd hl _ _ (same_upd hd _ _ (same_upd ht1 _ _ upd_same))
      have g2 : (upd (upd (upd (upd H9 l1 (HO.lst [V.str ("x" : Str)])) t1 (HO.tup [V.str ("x" : Str)])) d (HO.dT [])) l (HO.lst [V.non, V.int 0, V.ref l1, V.ref t1, V.bl true, V.ref d])) t1 = some (.tup [V.str ("x" : Str)]) := same_upd hl _ _ (same_upd hd _ _ upd_same)
      have g3 : (upd (upd (upd (upd H9 l1 (HO.lst [V.str ("x" : Str)])) t1 (HO.tup [V.str ("x" : Str)])) d (HO.dT [])) l (HO.lst [V.non, V.int 0, V.ref l1, V.ref t1, V.bl true, V.ref d])) d = some (.dT []) := same_upd hl _ _ upd_same
      have g4 : (upd (upd (upd (upd H9 l1 (HO.lst [V.str ("x" : Str)])) t1 (HO.tup [V.str ("x" : Str)])) d (HO.dT [])) l (HO.lst [V.non, V.int 0, V.ref l1, V.ref t1, V.bl true, V.ref d])) l = some (.lst [V.non, V.int 0, V.ref l1, V.ref t1, V.bl true, V.ref d]) := upd_same
      generalize upd (upd (upd (upd H9 l1 (HO.lst [V.str ("x" : Str)])) t1 (HO.tup [V.str ("x" : Str)])) d (HO.dT [])) l (HO.lst [V.non, V.int 0, V.ref l1, V.ref t1, V.bl true, V.ref d]) = HF at *
      have SF := S9.same sF
      walk_at "rd"
      have nlr : ∀ {a : Addr} {o : HO}, HF a = some o → (∀ xs, o ≠ .lst xs) → a ≠ r := fun e n z => by
        obtain ⟨ys, hr⟩ := row_lst SF.row
        rw [z, hr] at e
        cases e
        exact n _ rfl
      refine ⟨r, sa, l, ns, _, rfl, SF.row, .inl (.inl g4), rc_new (S9.row.sm sD) hl, (show 1 ≤ 6 by decide), (show 6 ≤ 1000000000 by decide), fun v HG hv rowG bG => ?_⟩
      have SG := SF.rk (.draw rowG bG)
      walk_at "rd"
      refine ⟨f, n, o, rv, v, rfl, SG.hv, SG.ts, .inr ?_⟩
      simp only [List.mem_cons, List.not_mem_nil, or_false] at hv
      have kp : ∀ {a : Addr} {o' : HO}, HF a = some o' → a ≠ r → (∀ ps, o' ≠ .tbl ps) → ∀ H', Ex t HG H' → H' a = some o' := fun e na nt H' x => x.keep _ _ ((bG _ na).trans e) nt
      have fin : ∀ c, (∀ H', Ex t HG H' → TyX K H' v c) → PySem.W.kitOne K c (.type "str") = some false → ∃ c, (∀ H', Ex t HG H' → TyX K H' v c) ∧ PySem.W.kitOne K c (.type "str") = some false ∧ ∀ H', Ex t HG H' → (fun x H1 => tC (V.str ("text" : Str)) [some (V.ref sa), some (V.ref r), some (V.int n), some rv, some (V.str sgnsS), y5, y6, y7, y8, y9, y10, y11] H1 fun y H2 => rEq x y H2 Q) (V.str "text") H' := fun c h1 h2 => ⟨c, h1, h2, fun H' x => by
        walk_at "rd"
        exact k H'⟩
      rcases hv with rfl | rfl | rfl | rfl | rfl | rfl
      · exact fin _ (fun H' x => .base .non) kit_none_str
      · exact fin _ (fun H' x => .base (.int _)) kit_int_S
      · exact fin _ (fun H' x => .base (.lst (kp g1 (rc_new S9.row h1) (fun ps z => by cases z) H' x))) kit_list_S
      · exact fin _ (fun H' x => .base (.tup (kp g2 (nlr g2 fun xs z => by cases z) (fun ps z => by cases z) H' x))) kit_tuple_S
      · exact fin _ (fun H' x => .base (.bl _)) kit_bool_S
      · exact fin _ (fun H' x => .base (.dT (kp g3 (nlr g3 fun xs z => by cases z) (fun ps z => by cases z) H' x))) kit_dict_S
end

/-! ### the end -/
section
open PySem.Spec PyProof.Rows LamX
/-- as the layer's end with tables; handed on besides: the whole top -/
theorem walk_top {l : PySem.W.OpenLaw} {n k : Nat} {q : Program} {loose : List Str} {XP : (Str → Option Value) → Heap → Prop} {YP : World → Heap → Prop} {d : DefRec} {K : Params → PySem.W.Frag} {CX : World → CXT} {x : Str}
    (hn : l.most = some n) (hn2 : n ≤ sizeLine) (hdf : d.params.defaults = []) (hr : Room k callerA) (hY : ∀ (w : World) (h : Heap), YP w h → (K w.params).In h)
    (F : ∀ (w : World) (s₀ : Shared) (mg mb : Str → Option Value) (fa : Addr) (h : Heap), PySem.W.Ground q loose [] XP w s₀ mg mb h → (K w.params).In h → h.Ns mainGlobals mg → mg d.name = some (.ref fa) → LawAtS l w (K w.params) (CX w) k n x mg fa h)
    (hCX : ∀ (w : World) (H : Hp) (s : Shared) (e : Value) (s' : Shared), CX w [] H s (fun _ _ _ => False) e s' → False) :
    PySem.W.WalkO q loose XP YP l.row.toRowW d [] (fun f vs => PySem.call f vs) := by
  refine Att.attach_callB hn hdf fun w s₀ s₁ mg mb fa o pm cd doc a vs ns G Y ho hd hcd hmg hobj hints hlen hbits hg => ?_
  have KX := hY w _ Y
  obtain ⟨fd, cs, sp, hT, nT, C, hb, hsp, hF⟩ := F w s₀ mg mb fa _ G KX G.T.g hmg
  exact law_callTs KX G.T.g G.T.b G.T.builtins G.T.nolimit hg hT nT C G.T.bmain hobj hints (Nat.le_trans hlen hn2) hr hF hb (fun H hH hS => hsp H a ns hlen hbits hH hS) fun H e s' => hCX w H s₁ e s'
/-- the code object and its table of a def, by the written part -/
theorem tab_in {K : PySem.W.Frag} {x : Str} {f c P : Addr} {oc e : Value} {od dd : Option Addr} {fd : FuncData} {vs : Array Value} {s1 s2 : Array (Option Value)} (a : PySem.W.nsIn K mainGlobals x = some (some (.ref f))) (l : K.lookup f = some ⟨oc, od, .func fd, s1⟩) (hc : fd.code = .ref c)
    (lc : K.lookup c = some ⟨e, dd, .fields vs, s2⟩) (hv : vs[11]? = some (.ref P)) : PySem.W.tabIn K x = some (c, P) := by
  unfold PySem.W.tabIn
  rw [a]
  simp only [l, hc, lc, hv]
/-- a whole number of the top that the head does not write out -/
theorem loose_int {q : Program} {lv : List (Str × PySem.W.WData)} {mg : Str → Option Value} {h : Heap} {x : Str} {i : Int} (X : PySem.W.XL q lv mg h) (hm : (x, PySem.W.WData.int i) ∈ lv) : ∃ t, mg x = some (.int i t) := by
  obtain ⟨v, a, r⟩ := X.2.val _ hm
  cases r
  exact ⟨_, a⟩
end

section
open PyProof.Rows
theorem code_of {K : PySem.W.Frag} {mg : Str → Option Value} {h : Heap} {x : Str} {st : Stmt} {c P : Addr} (D : DefAt K mg x st) (X : K.In h) (G : h.Ns mainGlobals mg) (ht : PySem.W.tabIn K x = some (c, P)) : D.fd.code = .ref c := by
  obtain ⟨oc, od, kV, doc, pm, an, cdv, ct, osl, e, lk, hcd⟩ := D.F.ex
  exact PySem.W.law_code X G ht D.g (X _ _ lk) rfl
theorem mem_n {α : Type} {p : α → Prop} : ∀ x ∈ ([] : List α), p x := fun _ h => by cases h
theorem mem_c {α : Type} {p : α → Prop} {a : α} {l : List α} (ha : p a) (hl : ∀ x ∈ l, p x) : ∀ x ∈ a :: l, p x := fun x hx => by
  rcases List.mem_cons.mp hx with rfl | h
  · exact ha
  · exact hl x h
theorem gx_of {base : Heap} {mg : Str → Option Value} {c P : Addr} (h : LamX.TabB base mg c P) : GxR.TabB base mg c P := ⟨h.code, h.bm, h.gP⟩
/-- addresses told by names -/
def nmA (l : List (Str × Addr)) (x : Str) : Addr := (l.lookup x).getD 0
theorem law_at {l : PySem.W.OpenLaw} {w : World} {K : PySem.W.Frag} {mg mb : Str → Option Value} {q : Program} {loose : List Str} {mean : ExcName → Option Value} {fa : Addr} {c : Str → Addr} {t : TabsAt} {h : Heap} { d1 d2 d3 : DefRec} (TT : PyProof.Rows.Top q loose mean mg mb h) (X : K.In h) (G : h.Ns mainGlobals mg) (hfa : mg "law" = some (.ref fa))
    (r1 : (PyProof.Rows.recsOf q).find? (fun e => e.name == ("is_row_of_integers" : Str)) = some d1) (r2 : (PyProof.Rows.recsOf q).find? (fun e => e.name == ("is_polynomial" : Str)) = some d2) (r3 : (PyProof.Rows.recsOf q).find? (fun e => e.name == ("sum_of_terms" : Str)) = some d3)
    (t1 : PySem.W.tabIn K "is_row_of_integers" = some (c "is_row_of_integers", t.a "is_row_of_integers")) (t2 : PySem.W.tabIn K "is_polynomial" = some (c "is_polynomial", t.a "is_polynomial")) (t3 : PySem.W.tabIn K "sum_of_terms" = some (c "sum_of_terms", t.a "sum_of_terms"))
    (n1 : K.lookup (t.a "is_row_of_integers") = none) (n2 : K.lookup (t.a "is_polynomial") = none) (n3 : K.lookup (t.a "sum_of_terms") = none) (T : Txt K mg) (PF : PFl l.prog T.InvalidText.file) : LamX.LawAtS l w K CX0 29 63 "script" mg fa h := by
  obtain ⟨C1, p1⟩ := PySem.W.tab_of TT X r1 t1; obtain ⟨C2, p2⟩ := PySem.W.tab_of TT X r2 t2; obtain ⟨C3, p3⟩ := PySem.W.tab_of TT X r3 t3
  have e := hfa.symm.trans T.law.g
  cases e
  refine ⟨T.law.fd, [(c "is_row_of_integers", t.a "is_row_of_integers"), (c "is_polynomial", t.a "is_polynomial"), (c "sum_of_terms", t.a "sum_of_terms")], sp_law t K, (mem_c p1 (mem_c p2 (mem_c p3 mem_n) ) ), (mem_c n1 (mem_c n2 (mem_c n3 mem_n) ) ), (mem_c C1 (mem_c C2 (mem_c C3 mem_n) ) ), fun s u => ?_, fun H a ns hl hbits hT hS => ?_, fun base hb hn hT => ok_law T (t := t) { c := c, h_is_row_of_integers := code_of T.is_row_of_integers X G t1, b_is_row_of_integers := gx_of (hT (c "is_row_of_integers", t.a "is_row_of_integers") (by simp)), h_is_polynomial := code_of T.is_polynomial X G t2, b_is_polynomial := gx_of (hT (c "is_polynomial", t.a "is_polynomial") (by simp)), h_sum_of_terms := code_of T.sum_of_terms X G t3, b_sum_of_terms := hT (c "sum_of_terms", t.a "sum_of_terms") (by simp) } PF⟩
  · obtain ⟨oc, od, kV, doc, pm, an, cdv, ct, osl, e, lk, hcd⟩ := T.law.F.ex
    rw [e]
    exact .of_eq rfl
  · refine ⟨a, ns, rfl, hS, ⟨fun x hx => ?_, fun x hx => ?_⟩, fun _ => rfl⟩
    · revert x
      exact (mem_c ⟨_, hT (c "is_row_of_integers", t.a "is_row_of_integers") (by simp), True.intro⟩ (mem_c ⟨_, hT (c "is_polynomial", t.a "is_polynomial") (by simp), True.intro⟩ mem_n) )
    · revert x
      exact (mem_c (fun p hp => by unfold lamT at hp; rw [List.mem_singleton] at hp; subst hp; exact LamX.TabS.nil (hT (c "sum_of_terms", t.a "sum_of_terms") (by simp))) mem_n)
theorem tup_written {K : PySem.W.Frag} {a : Addr} {xs : List Int} {dd : Option Addr} {its : Array Value} {n : Nat} {sl : Array (Option Value)} (l : K.lookup a = some ⟨.type "tuple", dd, .seq its n, sl⟩) (hz : its.size ≤ sizeLine) (hv : Vals (xs.map V.int) its.toList) : ∀ H, SqT K H a (xs.map V.int) := fun _ => .inr ⟨_, its, n, l, rfl, rfl, hz, hv⟩
noncomputable def codI {K : PySem.W.Frag} {h : Heap} {mg : Str → Option Value} (X : K.In h) (G : h.Ns mainGlobals mg) {C f1 f2 f3 Td aE : Addr}
    {od1 an1 od2 an2 od3 an3 : Option Addr} {sl1 sl2 sl3 : Array (Option Value)} {oc1 kV1 dc1 pm1 cd1 ct1 oc2 kV2 dc2 pm2 cd2 ct2 oc3 kV3 dc3 pm3 cd3 ct3 : Value}
    {tdd edd : Option Addr} {tIts eIts : Array Value} {tn en : Nat} {tsl esl : Array (Option Value)}
    (lT : K.lookup Td = some ⟨.type "tuple", tdd, .seq tIts tn, tsl⟩) (vT : Vals [V.non, .ref aE] tIts.toList) (lE : K.lookup aE = some ⟨.type "tuple", edd, .seq eIts en, esl⟩) (zE : eIts.size ≤ sizeLine) (vE : Vals ([] : List V) eIts.toList)
    (aC : PySem.W.nsIn K mainGlobals "Coding" = some (some (.ref C)))
    (a1 : PySem.W.findIn K (.ref C) "__init__" = some (some (.ref f1))) (i1 : PySem.W.isFn K (.ref f1) = true) (l1 : K.lookup f1 = some ⟨oc1, od1, .func (PySem.W.fnOf "__init__" "Coding.__init__" (defArgs s_Coding___init__) (defBody s_Coding___init__) (defScope s_Coding___init__) (.ref Td) kV1 dc1 pm1 an1 cd1 ct1), sl1⟩) (e1 : PySem.W.codeIn K cd1 "Coding.__init__" = true)
    (a2 : PySem.W.findIn K (.ref C) "unit" = some (some (.ref f2))) (i2 : PySem.W.isFn K (.ref f2) = true) (l2 : K.lookup f2 = some ⟨oc2, od2, .func (PySem.W.fnOf "unit" "Coding.unit" (defArgs s_Coding_unit) (defBody s_Coding_unit) (defScope s_Coding_unit) .none kV2 dc2 pm2 an2 cd2 ct2), sl2⟩) (e2 : PySem.W.codeIn K cd2 "Coding.unit" = true)
    (a3 : PySem.W.findIn K (.ref C) "code" = some (some (.ref f3))) (i3 : PySem.W.isFn K (.ref f3) = true) (l3 : K.lookup f3 = some ⟨oc3, od3, .func (PySem.W.fnOf "code" "Coding.code" (defArgs s_Coding_code) (defBody s_Coding_code) (defScope s_Coding_code) .none kV3 dc3 pm3 an3 cd3 ct3), sl3⟩) (e3 : PySem.W.codeIn K cd3 "Coding.code" = true)
    (k1 : PySem.W.keepIn K (.ref f1) = true) (k2 : PySem.W.keepIn K (.ref f2) = true) (k3 : PySem.W.keepIn K (.ref f3) = true)
    (pg : PySem.W.plainGet K C Str.empty = true) (hd : PySem.W.hasDictIn K C = true) (po : PySem.W.plainOver K C = true) (sa : PySem.W.findIn K (.ref C) "__setattr__" = some (some (.builtin "object.__setattr__"))) (mk : PySem.W.makesIn K C = true) (kc : PySem.W.keepIn K (.ref C) = true)
    (m1 : PySem.W.findIn K (.ref C) "field" = some none) (m2 : PySem.W.findIn K (.ref C) "many" = some none) (m3 : PySem.W.findIn K (.ref C) "rows" = some none) (m4 : PySem.W.findIn K (.ref C) "shifts" = some none) (m5 : PySem.W.findIn K (.ref C) "units" = some none) (m6 : PySem.W.findIn K (.ref C) "guard" = some none) (m7 : PySem.W.findIn K (.ref C) "grades" = some none) (m8 : PySem.W.findIn K (.ref C) "marks" = some none) (m9 : PySem.W.findIn K (.ref C) "marked" = some none) : CodAt K mg :=
  { C := C, g := PySem.W.mg_of X G aC, cls := ⟨pg, hd, po, sa⟩, fi := f1, fdi := _, aE := aE, t_E := tup_written (xs := []) lE zE vE, Fi := ⟨⟨_, _, _, _, _, _, _, _, _, _, rfl, l1, e1, .inr ⟨by simp, Td, _, tIts.toList, tn, rfl, lT, by simp, vT⟩, .inl rfl⟩, k1⟩, mkr := ⟨mk, a1, i1, kc⟩, fu := f2, fdu := _, Fu := fun_mk (st := s_Coding_unit) l2 e2 k2, m_unit := ⟨a2, i2, k2⟩,
    fc := f3, fdc := _, Fc := fun_mk (st := s_Coding_code) l3 e3 k3, m_code := ⟨a3, i3, k3⟩, n_field := m1, n_many := m2, n_rows := m3, n_shifts := m4, n_units := m5, n_guard := m6, n_grades := m7, n_marks := m8, n_marked := m9 }
theorem meth_at {K : PySem.W.Frag} {C C4 f4 : Addr} {x : Str} (h : (Value.ref C) = Value.ref C4) (m : Meth K C4 x f4) : Meth K C x f4 := by
  cases h
  exact m
theorem tup_writtenV {K : PySem.W.Frag} {a : Addr} {xs : List V} {dd : Option Addr} {its : Array Value} {n : Nat} {sl : Array (Option Value)} (l : K.lookup a = some ⟨.type "tuple", dd, .seq its n, sl⟩) (hz : its.size ≤ sizeLine) (hv : Vals xs its.toList) : ∀ H, SqT K H a xs := fun _ => .inr ⟨_, its, n, l, rfl, rfl, hz, hv⟩
theorem wr_written {K : PySem.W.Frag} {a : Addr} {xs : List V} {its : Array Value} {n : Nat} {sl : Array (Option Value)} (l : K.lookup a = some ⟨.type "tuple", none, .seq its n, sl⟩) (hz : its.size ≤ sizeLine) (hv : Vals xs its.toList) : WrT K a xs := ⟨_, its, n, l, rfl, rfl, rfl, hz, hv⟩
open PySem PySem.Spec PySem.W PySem.Calls in
/-- InvalidText, from what the top says -/
def inv_mk {K : PySem.W.Frag} {mg : Str → Option Value} {h : Heap} (X : K.In h) (G : h.Ns mainGlobals mg) {C f cc cda : Addr} {nm q : Str} {N : Addr} {bs bm : List Value} {sn : List Str} {sub : List Value} {ab : Bool} {col : Option Bool} {dd : Option Addr} {k0 k1 k2 k3 k5 : Option Value}
    {oc kV doc pm ct cl ccl : Value} {od an cld cdd : Option Addr} {osl csl ccs : Array (Option Value)} {vs : Array Value} {file : Str} {tf : Tok}
    (y1 : PySem.W.nsIn K mainGlobals "InvalidText" = some (some (.ref C))) (y2 : K.lookup C = some (excClassObj nm q C N bs bm true sn sub ab col dd k0 k1 k2 k3 k5 "ValueError.__new__")) (y3 : PySem.HandSPX.refsVE bm = true)
    (y4 : PySem.W.findIn K (.ref C) "__setattr__" = some (some (.builtin "object.__setattr__"))) (y5 : PySem.W.subIn K (.ref C) (.type "BaseException") = some true) (y6 : PySem.W.typeIn K (.ref C) = some (.type "type")) (y7 : PySem.W.keepIn K (.ref C) = true)
    (y8 : PySem.W.findIn K (.ref C) "__init__" = some (some (.ref f))) (y9 : K.lookup f = some ⟨oc, od, .func (PySem.W.ksFn "__init__" "InvalidText.__init__" (defArgs s_Inv_init) (defBody s_Inv_init) (defScope s_Inv_init) .none kV doc pm an (.ref cda) ct cc), osl⟩)
    (ya : K.lookup cc = some ⟨cl, cld, .cell (some (.ref C)), csl⟩) (yb : K.lookup cda = some ⟨ccl, cdd, .fields vs, ccs⟩) (yc : vs[2]? = some (.str file tf)) (yd : PySem.W.ks_superIn K C C "__init__" = some (some (.builtin "ValueError.__init__")))
    (ye : PySem.W.mroIn K C (.ref C) = some true) (yf : PySem.W.subIn K (.ref C) (.type "ValueError") = some true) (yg : PySem.W.nsIn K cStatics "thirdparty.any" = some none)
    (yh : PySem.W.codeIn K (.ref cda) "InvalidText.__init__" = true) (yi : PySem.W.typeIn K (.ref f) = some (.type "function")) (yj : PySem.W.findIn K (.ref C) "place" = some none) (yk : PySem.W.exmOne K (.ref C) (.ref C) = some true) (yl : xfB K C = true) : InvAt K mg :=
  { C := C, g := PySem.W.mg_of X G y1, cc := cc, cda := cda, file := file, sup := ⟨⟨⟨_, _, _, _, _, _, _, _, _, _, _, _, _, _, _, y2, y3⟩, y4, y5, y6, y7⟩, ⟨_, _, _, ya⟩, ⟨_, _, _, _, _, yb, yc⟩, yd, ye, yf, yg⟩, f := f, fd := _,
    lk := ⟨_, _, _, _, _, _, _, _, _, rfl, rfl, y9⟩, code := yh, ini := y8, tyI := yi, fld := yj, self := yk, xf := xfB_ok yl }
def nt_mk {K : PySem.W.Frag} {mg : Str → Option Value} {h : Heap} (X : K.In h) (G : h.Ns mainGlobals mg) {C : Addr}
    (y1 : PySem.W.nsIn K mainGlobals "NotText" = some (some (.ref C))) (y2 : PySem.W.excIn K C [.type "ValueError", .type "Exception", .type "BaseException", .type "object"] "ValueError.__new__" = true) (y3 : PySem.W.keepIn K (.ref C) = true)
    (y4 : PySem.W.subIn K (.ref C) (.type "BaseException") = some true) (y5 : PySem.W.typeIn K (.ref C) = some (.type "type")) (y6 : PySem.W.isClsIn K C = true) (y7 : PySem.W.subIn K (.ref C) (.ref C) = some true) : ExcAt K mg "NotText" :=
  { C := C, g := PySem.W.mg_of X G y1, x := y2, k := y3, be := y4, ty := y5, is := y6, se := y7 }
/-- Reader, from what the top says -/
noncomputable def rd_mk {K : PySem.W.Frag} {h : Heap} {mg : Str → Option Value} (X : K.In h) (G : h.Ns mainGlobals mg) {C : Addr}
    {f0 : Addr} {od0 an0 : Option Addr} {sl0 : Array (Option Value)} {oc0 kV0 dc0 pm0 cd0 ct0 : Value}
    {f1 : Addr} {od1 an1 : Option Addr} {sl1 : Array (Option Value)} {oc1 kV1 dc1 pm1 cd1 ct1 : Value}
    {f2 : Addr} {od2 an2 : Option Addr} {sl2 : Array (Option Value)} {oc2 kV2 dc2 pm2 cd2 ct2 : Value}
    {f3 : Addr} {od3 an3 : Option Addr} {sl3 : Array (Option Value)} {oc3 kV3 dc3 pm3 cd3 ct3 : Value}
    {f4 : Addr} {od4 an4 : Option Addr} {sl4 : Array (Option Value)} {oc4 kV4 dc4 pm4 cd4 ct4 : Value}
    {f5 : Addr} {od5 an5 : Option Addr} {sl5 : Array (Option Value)} {oc5 kV5 dc5 pm5 cd5 ct5 : Value}
    {f6 : Addr} {od6 an6 : Option Addr} {sl6 : Array (Option Value)} {oc6 kV6 dc6 pm6 cd6 ct6 : Value}
    {f7 : Addr} {od7 an7 : Option Addr} {sl7 : Array (Option Value)} {oc7 kV7 dc7 pm7 cd7 ct7 : Value}
    {f8 : Addr} {od8 an8 : Option Addr} {sl8 : Array (Option Value)} {oc8 kV8 dc8 pm8 cd8 ct8 : Value}
    {f9 : Addr} {od9 an9 : Option Addr} {sl9 : Array (Option Value)} {oc9 kV9 dc9 pm9 cd9 ct9 : Value}
    (aC : PySem.W.nsIn K mainGlobals "Reader" = some (some (.ref C)))
    (a0 : PySem.W.findIn K (.ref C) "__init__" = some (some (.ref f0))) (i0 : PySem.W.isFn K (.ref f0) = true) (l0 : K.lookup f0 = some ⟨oc0, od0, .func (PySem.W.fnOf "__init__" "Reader.__init__" (defArgs s_Reader___init__) (defBody s_Reader___init__) (defScope s_Reader___init__) .none kV0 dc0 pm0 an0 cd0 ct0), sl0⟩) (e0 : PySem.W.codeIn K cd0 "Reader.__init__" = true) (k0 : PySem.W.keepIn K (.ref f0) = true)
    (a1 : PySem.W.findIn K (.ref C) "ahead" = some (some (.ref f1))) (i1 : PySem.W.isFn K (.ref f1) = true) (l1 : K.lookup f1 = some ⟨oc1, od1, .func (PySem.W.fnOf "ahead" "Reader.ahead" (defArgs s_Reader_ahead) (defBody s_Reader_ahead) (defScope s_Reader_ahead) .none kV1 dc1 pm1 an1 cd1 ct1), sl1⟩) (e1 : PySem.W.codeIn K cd1 "Reader.ahead" = true) (k1 : PySem.W.keepIn K (.ref f1) = true)
    (a2 : PySem.W.findIn K (.ref C) "passes" = some (some (.ref f2))) (i2 : PySem.W.isFn K (.ref f2) = true) (l2 : K.lookup f2 = some ⟨oc2, od2, .func (PySem.W.fnOf "passes" "Reader.passes" (defArgs s_Reader_passes) (defBody s_Reader_passes) (defScope s_Reader_passes) .none kV2 dc2 pm2 an2 cd2 ct2), sl2⟩) (e2 : PySem.W.codeIn K cd2 "Reader.passes" = true) (k2 : PySem.W.keepIn K (.ref f2) = true)
    (a3 : PySem.W.findIn K (.ref C) "sign" = some (some (.ref f3))) (i3 : PySem.W.isFn K (.ref f3) = true) (l3 : K.lookup f3 = some ⟨oc3, od3, .func (PySem.W.fnOf "sign" "Reader.sign" (defArgs s_Reader_sign) (defBody s_Reader_sign) (defScope s_Reader_sign) .none kV3 dc3 pm3 an3 cd3 ct3), sl3⟩) (e3 : PySem.W.codeIn K cd3 "Reader.sign" = true) (k3 : PySem.W.keepIn K (.ref f3) = true)
    (a4 : PySem.W.findIn K (.ref C) "terms" = some (some (.ref f4))) (i4 : PySem.W.isFn K (.ref f4) = true) (l4 : K.lookup f4 = some ⟨oc4, od4, .func (PySem.W.fnOf "terms" "Reader.terms" (defArgs s_Reader_terms) (defBody s_Reader_terms) (defScope s_Reader_terms) .none kV4 dc4 pm4 an4 cd4 ct4), sl4⟩) (e4 : PySem.W.codeIn K cd4 "Reader.terms" = true) (k4 : PySem.W.keepIn K (.ref f4) = true)
    (a5 : PySem.W.findIn K (.ref C) "term" = some (some (.ref f5))) (i5 : PySem.W.isFn K (.ref f5) = true) (l5 : K.lookup f5 = some ⟨oc5, od5, .func (PySem.W.fnOf "term" "Reader.term" (defArgs s_Reader_term) (defBody s_Reader_term) (defScope s_Reader_term) .none kV5 dc5 pm5 an5 cd5 ct5), sl5⟩) (e5 : PySem.W.codeIn K cd5 "Reader.term" = true) (k5 : PySem.W.keepIn K (.ref f5) = true)
    (a6 : PySem.W.findIn K (.ref C) "power" = some (some (.ref f6))) (i6 : PySem.W.isFn K (.ref f6) = true) (l6 : K.lookup f6 = some ⟨oc6, od6, .func (PySem.W.fnOf "power" "Reader.power" (defArgs s_Reader_power) (defBody s_Reader_power) (defScope s_Reader_power) .none kV6 dc6 pm6 an6 cd6 ct6), sl6⟩) (e6 : PySem.W.codeIn K cd6 "Reader.power" = true) (k6 : PySem.W.keepIn K (.ref f6) = true)
    (a7 : PySem.W.findIn K (.ref C) "exponent" = some (some (.ref f7))) (i7 : PySem.W.isFn K (.ref f7) = true) (l7 : K.lookup f7 = some ⟨oc7, od7, .func (PySem.W.fnOf "exponent" "Reader.exponent" (defArgs s_Reader_exponent) (defBody s_Reader_exponent) (defScope s_Reader_exponent) .none kV7 dc7 pm7 an7 cd7 ct7), sl7⟩) (e7 : PySem.W.codeIn K cd7 "Reader.exponent" = true) (k7 : PySem.W.keepIn K (.ref f7) = true)
    (a8 : PySem.W.findIn K (.ref C) "quotient" = some (some (.ref f8))) (i8 : PySem.W.isFn K (.ref f8) = true) (l8 : K.lookup f8 = some ⟨oc8, od8, .func (PySem.W.fnOf "quotient" "Reader.quotient" (defArgs s_Reader_quotient) (defBody s_Reader_quotient) (defScope s_Reader_quotient) .none kV8 dc8 pm8 an8 cd8 ct8), sl8⟩) (e8 : PySem.W.codeIn K cd8 "Reader.quotient" = true) (k8 : PySem.W.keepIn K (.ref f8) = true)
    (a9 : PySem.W.findIn K (.ref C) "integer" = some (some (.ref f9))) (i9 : PySem.W.isFn K (.ref f9) = true) (l9 : K.lookup f9 = some ⟨oc9, od9, .func (PySem.W.fnOf "integer" "Reader.integer" (defArgs s_Reader_integer) (defBody s_Reader_integer) (defScope s_Reader_integer) .none kV9 dc9 pm9 an9 cd9 ct9), sl9⟩) (e9 : PySem.W.codeIn K cd9 "Reader.integer" = true) (k9 : PySem.W.keepIn K (.ref f9) = true)
    (pg : PySem.W.plainGet K C Str.empty = true) (hd : PySem.W.hasDictIn K C = true) (po : PySem.W.plainOver K C = true) (sa : PySem.W.findIn K (.ref C) "__setattr__" = some (some (.builtin "object.__setattr__"))) (mk : PySem.W.makesIn K C = true) (kc : PySem.W.keepIn K (.ref C) = true)
    (m1 : PySem.W.findIn K (.ref C) "field" = some none) (m2 : PySem.W.findIn K (.ref C) "letters" = some none) (m3 : PySem.W.findIn K (.ref C) "text" = some none) (m4 : PySem.W.findIn K (.ref C) "place" = some none) : RdAt K mg :=
  { C := C, g := PySem.W.mg_of X G aC, cls := ⟨pg, hd, po, sa⟩, mkr := ⟨mk, a0, i0, kc⟩, f___init__ := f0, d___init__ := _, F___init__ := fun_mk (st := s_Reader___init__) l0 e0 k0, f_ahead := f1, d_ahead := _, F_ahead := fun_mk (st := s_Reader_ahead) l1 e1 k1, m_ahead := ⟨a1, i1, k1⟩, f_passes := f2, d_passes := _, F_passes := fun_mk (st := s_Reader_passes) l2 e2 k2, m_passes := ⟨a2, i2, k2⟩, f_sign := f3, d_sign := _, F_sign := fun_mk (st := s_Reader_sign) l3 e3 k3, m_sign := ⟨a3, i3, k3⟩, f_terms := f4, d_terms := _, F_terms := fun_mk (st := s_Reader_terms) l4 e4 k4, m_terms := ⟨a4, i4, k4⟩, f_term := f5, d_term := _, F_term := fun_mk (st := s_Reader_term) l5 e5 k5, m_term := ⟨a5, i5, k5⟩, f_power := f6, d_power := _, F_power := fun_mk (st := s_Reader_power) l6 e6 k6, m_power := ⟨a6, i6, k6⟩, f_exponent := f7, d_exponent := _, F_exponent := fun_mk (st := s_Reader_exponent) l7 e7 k7, m_exponent := ⟨a7, i7, k7⟩, f_quotient := f8, d_quotient := _, F_quotient := fun_mk (st := s_Reader_quotient) l8 e8 k8, m_quotient := ⟨a8, i8, k8⟩, f_integer := f9, d_integer := _, F_integer := fun_mk (st := s_Reader_integer) l9 e9 k9, m_integer := ⟨a9, i9, k9⟩, n_field := m1, n_letters := m2, n_text := m3, n_place := m4 }
/-- as the end asks it: names, addresses -/
theorem fin {l : PySem.W.OpenLaw} {w : World} {K : PySem.W.Frag} {mg mb : Str → Option Value} {q : Program} {loose : List Str} {mean : ExcName → Option Value} {fa c1 p1 c2 p2 c3 p3 aP : Addr} {h : Heap} { d1 d2 d3 : DefRec} { t_PLACE t_MASK t_WIDTH t_NUMBER_BOUND t_MOST_VARIABLES t_MOST_WEIGHT t_MOST_DEGREE t_MOST_TERMS t_MOST_FIGURES : Tok}
    (TT : PyProof.Rows.Top q loose mean mg mb h) (X : K.In h) (G : h.Ns mainGlobals mg) (hfa : mg "law" = some (.ref fa))
    (r1 : (PyProof.Rows.recsOf q).find? (fun e => e.name == ("is_row_of_integers" : Str)) = some d1) (r2 : (PyProof.Rows.recsOf q).find? (fun e => e.name == ("is_polynomial" : Str)) = some d2) (r3 : (PyProof.Rows.recsOf q).find? (fun e => e.name == ("sum_of_terms" : Str)) = some d3)
    (t1 : PySem.W.tabIn K "is_row_of_integers" = some (c1, p1)) (t2 : PySem.W.tabIn K "is_polynomial" = some (c2, p2)) (t3 : PySem.W.tabIn K "sum_of_terms" = some (c3, p3))
    (n1 : K.lookup p1 = none) (n2 : K.lookup p2 = none) (n3 : K.lookup p3 = none)
    (ne : ∀ x ∈ gensL ++ lamsL, ∀ y ∈ gensL ++ lamsL, x ≠ y → nmA [("is_row_of_integers", p1), ("is_polynomial", p2), ("sum_of_terms", p3)] x ≠ nmA [("is_row_of_integers", p1), ("is_polynomial", p2), ("sum_of_terms", p3)] y)
    (single_rows : DefAt K mg "single_rows" s_single_rows)
    (falling_rows : DefAt K mg "falling_rows" s_falling_rows)
    (rows_of : DefAt K mg "rows_of" s_rows_of)
    (block_rows : DefAt K mg "block_rows" s_block_rows)
    (zero_of : DefAt K mg "zero_of" s_zero_of)
    (is_zero_in : DefAt K mg "is_zero_in" s_is_zero_in)
    (inverse_modulo : DefAt K mg "inverse_modulo" s_inverse_modulo)
    (make_number : DefAt K mg "make_number" s_make_number)
    (add_numbers : DefAt K mg "add_numbers" s_add_numbers)
    (as_fraction : DefAt K mg "as_fraction" s_as_fraction)
    (is_integer : DefAt K mg "is_integer" s_is_integer)
    (is_integer_in : DefAt K mg "is_integer_in" s_is_integer_in)
    (is_tuple_of : DefAt K mg "is_tuple_of" s_is_tuple_of)
    (is_tuple_up_to : DefAt K mg "is_tuple_up_to" s_is_tuple_up_to)
    (is_field : DefAt K mg "is_field" s_is_field)
    (is_fraction : DefAt K mg "is_fraction" s_is_fraction)
    (is_number : DefAt K mg "is_number" s_is_number)
    (is_order : DefAt K mg "is_order" s_is_order)
    (is_ring : DefAt K mg "is_ring" s_is_ring)
    (is_row_of_integers : DefAt K mg "is_row_of_integers" s_is_row_of_integers)
    (is_monomial : DefAt K mg "is_monomial" s_is_monomial)
    (is_loose_term : DefAt K mg "is_loose_term" s_is_loose_term)
    (is_polynomial : DefAt K mg "is_polynomial" s_is_polynomial)
    (check_ring : DefAt K mg "check_ring" s_check_ring)
    (check_polynomial : DefAt K mg "check_polynomial" s_check_polynomial)
    (sum_of_terms : DefAt K mg "sum_of_terms" s_sum_of_terms)
    (write : DefAt K mg "write" s_write)
    (text_of : DefAt K mg "text_of" s_text_of)
    (sign_of : DefAt K mg "sign_of" s_sign_of)
    (term_text : DefAt K mg "term_text" s_term_text)
    (number_text : DefAt K mg "number_text" s_number_text)
    (power_text : DefAt K mg "power_text" s_power_text)
    (read : DefAt K mg "read" s_read)
    (polynomial_of : DefAt K mg "polynomial_of" s_polynomial_of)
    (law_taken : DefAt K mg "_law_taken" s_law_taken)
    (law_pick : DefAt K mg "_law_pick" s_law_pick)
    (law_order : DefAt K mg "_law_order" s_law_order)
    (law_ring : DefAt K mg "_law_ring" s_law_ring)
    (law_mono : DefAt K mg "_law_mono" s_law_mono)
    (law_gcd : DefAt K mg "_law_gcd" s_law_gcd)
    (law_num : DefAt K mg "_law_num" s_law_num)
    (law_number : DefAt K mg "_law_number" s_law_number)
    (law_zero : DefAt K mg "_law_zero" s_law_zero)
    (law_revlex : DefAt K mg "_law_revlex" s_law_revlex)
    (law_key : DefAt K mg "_law_key" s_law_key)
    (law_made : DefAt K mg "_law_made" s_law_made)
    (law_poly : DefAt K mg "_law_poly" s_law_poly)
    (law_skip : DefAt K mg "_law_skip" s_law_skip)
    (law_is_figure : DefAt K mg "_law_is_figure" s_law_is_figure)
    (law_integer : DefAt K mg "_law_integer" s_law_integer)
    (law_number_end : DefAt K mg "_law_number_end" s_law_number_end)
    (law_power_end : DefAt K mg "_law_power_end" s_law_power_end)
    (law_wrong : DefAt K mg "_law_wrong" s_law_wrong)
    (law_told : DefAt K mg "_law_told" s_law_told)
    (law_alike : DefAt K mg "_law_alike" s_law_alike)
    (law : DefAt K mg "law" s_law)
    (Cd : CodAt K mg)
    (z_len : PySem.W.nsIn K mainGlobals "len" = some none) (z_isinstance : PySem.W.nsIn K mainGlobals "isinstance" = some none) (z_int : PySem.W.nsIn K mainGlobals "int" = some none) (z_bool : PySem.W.nsIn K mainGlobals "bool" = some none) (z_str : PySem.W.nsIn K mainGlobals "str" = some none) (z_tuple : PySem.W.nsIn K mainGlobals "tuple" = some none) (z_list : PySem.W.nsIn K mainGlobals "list" = some none) (z_range : PySem.W.nsIn K mainGlobals "range" = some none) (z_reversed : PySem.W.nsIn K mainGlobals "reversed" = some none) (z_zip : PySem.W.nsIn K mainGlobals "zip" = some none) (z_sum : PySem.W.nsIn K mainGlobals "sum" = some none) (z_all : PySem.W.nsIn K mainGlobals "all" = some none) (z_sorted : PySem.W.nsIn K mainGlobals "sorted" = some none) (z_abs : PySem.W.nsIn K mainGlobals "abs" = some none) (z_super : PySem.W.nsIn K mainGlobals "super" = some none)
    (y2 : PySem.W.nsIn K mainGlobals "PRIMES" = some (some (.ref aP))) (y3 : ∀ H, SqT K H aP ([2, 3, 5, 7, 11, 13, 17, 19, 23, 29, 31].map V.int))
    (g_PLACE : mg "PLACE" = some (.int PLi t_PLACE)) (g_MASK : mg "MASK" = some (.int MKi t_MASK)) (g_WIDTH : mg "WIDTH" = some (.int 48 t_WIDTH)) (g_NUMBER_BOUND : mg "NUMBER_BOUND" = some (.int NBi t_NUMBER_BOUND)) (g_MOST_VARIABLES : mg "MOST_VARIABLES" = some (.int 4 t_MOST_VARIABLES)) (g_MOST_WEIGHT : mg "MOST_WEIGHT" = some (.int 20 t_MOST_WEIGHT)) (g_MOST_DEGREE : mg "MOST_DEGREE" = some (.int 60 t_MOST_DEGREE)) (g_MOST_TERMS : mg "MOST_TERMS" = some (.int 500 t_MOST_TERMS)) (g_MOST_FIGURES : mg "MOST_FIGURES" = some (.int 60 t_MOST_FIGURES)) (yG : PySem.W.nsIn K mainGlobals "gcd" = some (some (.builtin "math.gcd"))) (iv : InvAt K mg) (nt : ExcAt K mg "NotText") (rdr : RdAt K mg) (xNI : PySem.W.exmOne K (.ref nt.C) (.ref iv.C) = some false) (xNN : PySem.W.exmOne K (.ref nt.C) (.ref nt.C) = some true) {aN aF : Addr} (yN : PySem.W.nsIn K mainGlobals "NAMES" = some (some (.ref aN))) (zN : WrT K aN (namesV.map V.str)) (yF : PySem.W.nsIn K mainGlobals "FIGURES" = some (some (.ref aF))) (zF : ∀ H, SqT K H aF (figuresV.map V.str)) (PF : PFl l.prog iv.file) : LamX.LawAtS l w K CX0 29 63 "script" mg fa h :=
  law_at (c := nmA [("is_row_of_integers", c1), ("is_polynomial", c2), ("sum_of_terms", c3)]) (t := ⟨nmA [("is_row_of_integers", p1), ("is_polynomial", p2), ("sum_of_terms", p3)], ne⟩) TT X G hfa r1 r2 r3 t1 t2 t3 n1 n2 n3
    { single_rows := single_rows, falling_rows := falling_rows, rows_of := rows_of, block_rows := block_rows, zero_of := zero_of, is_zero_in := is_zero_in, inverse_modulo := inverse_modulo, make_number := make_number, add_numbers := add_numbers, as_fraction := as_fraction, is_integer := is_integer, is_integer_in := is_integer_in, is_tuple_of := is_tuple_of, is_tuple_up_to := is_tuple_up_to, is_field := is_field, is_fraction := is_fraction, is_number := is_number, is_order := is_order, is_ring := is_ring, is_row_of_integers := is_row_of_integers, is_monomial := is_monomial, is_loose_term := is_loose_term, is_polynomial := is_polynomial, check_ring := check_ring, check_polynomial := check_polynomial, sum_of_terms := sum_of_terms, write := write, text_of := text_of, sign_of := sign_of, term_text := term_text, number_text := number_text, power_text := power_text, read := read, polynomial_of := polynomial_of, law_taken := law_taken, law_pick := law_pick, law_order := law_order, law_ring := law_ring, law_mono := law_mono, law_gcd := law_gcd, law_num := law_num, law_number := law_number, law_zero := law_zero, law_revlex := law_revlex, law_key := law_key, law_made := law_made, law_poly := law_poly, law_skip := law_skip, law_is_figure := law_is_figure, law_integer := law_integer, law_number_end := law_number_end, law_power_end := law_power_end, law_wrong := law_wrong, law_told := law_told, law_alike := law_alike, law := law, n_len := PySem.W.mg_none_of X G z_len, n_isinstance := PySem.W.mg_none_of X G z_isinstance, n_int := PySem.W.mg_none_of X G z_int, n_bool := PySem.W.mg_none_of X G z_bool, n_str := PySem.W.mg_none_of X G z_str, n_tuple := PySem.W.mg_none_of X G z_tuple, n_list := PySem.W.mg_none_of X G z_list, n_range := PySem.W.mg_none_of X G z_range, n_reversed := PySem.W.mg_none_of X G z_reversed, n_zip := PySem.W.mg_none_of X G z_zip, n_sum := PySem.W.mg_none_of X G z_sum, n_all := PySem.W.mg_none_of X G z_all, n_sorted := PySem.W.mg_none_of X G z_sorted, n_abs := PySem.W.mg_none_of X G z_abs, n_super := PySem.W.mg_none_of X G z_super, Coding := Cd, aPRIMES := aP, g_PRIMES := PySem.W.mg_of X G y2, t_PRIMES := y3, t_PLACE := t_PLACE, g_PLACE := g_PLACE, t_MASK := t_MASK, g_MASK := g_MASK, t_WIDTH := t_WIDTH, g_WIDTH := g_WIDTH, t_NUMBER_BOUND := t_NUMBER_BOUND, g_NUMBER_BOUND := g_NUMBER_BOUND, t_MOST_VARIABLES := t_MOST_VARIABLES, g_MOST_VARIABLES := g_MOST_VARIABLES, t_MOST_WEIGHT := t_MOST_WEIGHT, g_MOST_WEIGHT := g_MOST_WEIGHT, t_MOST_DEGREE := t_MOST_DEGREE, g_MOST_DEGREE := g_MOST_DEGREE, t_MOST_TERMS := t_MOST_TERMS, g_MOST_TERMS := g_MOST_TERMS, t_MOST_FIGURES := t_MOST_FIGURES, g_MOST_FIGURES := g_MOST_FIGURES, g_gcd := PySem.W.mg_of X G yG, InvalidText := iv, NotText := nt, Reader := rdr, x_NI := xNI, x_NN := xNN, aNAMES := aN, g_NAMES := PySem.W.mg_of X G yN, t_NAMES := zN, aFIGURES := aF, g_FIGURES := PySem.W.mg_of X G yF, t_FIGURES := zF } PF
end

end Toy
open PySem PySem.W PyProof.Rows
set_option maxRecDepth 100000 in
set_option maxHeartbeats 0 in
theorem PySem.Challenge.cw_idealcore_k07_whole_texts_refused_holds : PySem.Challenge.rw_idealcore_k07_whole_texts_refused.Holds := by
  w_on; o_law; k_head; (case hw => w_witness2)
  k_fill
  refine Toy.walk_top (l := PySem.Challenge.rw_idealcore_k07_whole_texts_refused) (n := 63) (k := 29) (x := "script") (CX := fun _ => L2.CX0) rfl (by decide) rfl ⟨rfl, by decide, by decide⟩ (fun w h Y => PySem.W.km_in_of Y) ?F (fun _ _ _ _ _ z => z)
  case F =>
    intro w s0 mg mb fa h GG KX G hmg
    obtain ⟨t_NUMBER_BOUND, h_NUMBER_BOUND⟩ := Toy.loose_int (x := "NUMBER_BOUND") GG.X (by first | exact List.mem_cons_self | exact .tail _ List.mem_cons_self | exact .tail _ (.tail _ List.mem_cons_self) | exact .tail _ (.tail _ (.tail _ List.mem_cons_self)) | exact .tail _ (.tail _ (.tail _ (.tail _ List.mem_cons_self))))
    refine' Toy.fin GG.T KX G hmg ?hr1 ?hr2 ?hr3 (Toy.tab_in ?ta1 ?tb1 ?tc1 ?td1 ?te1) (Toy.tab_in ?ta2 ?tb2 ?tc2 ?td2 ?te2) (Toy.tab_in ?ta3 ?tb3 ?tc3 ?td3 ?te3) ?n1 ?n2 ?n3 ?ne
      (Toy.defI KX G ?a_single_rows ?l_single_rows ?c_single_rows ?k_single_rows)
      (Toy.defI KX G ?a_falling_rows ?l_falling_rows ?c_falling_rows ?k_falling_rows)
      (Toy.defI KX G ?a_rows_of ?l_rows_of ?c_rows_of ?k_rows_of)
      (Toy.defI KX G ?a_block_rows ?l_block_rows ?c_block_rows ?k_block_rows)
      (Toy.defI KX G ?a_zero_of ?l_zero_of ?c_zero_of ?k_zero_of)
      (Toy.defI KX G ?a_is_zero_in ?l_is_zero_in ?c_is_zero_in ?k_is_zero_in)
      (Toy.defI KX G ?a_inverse_modulo ?l_inverse_modulo ?c_inverse_modulo ?k_inverse_modulo)
      (Toy.defI KX G ?a_make_number ?l_make_number ?c_make_number ?k_make_number)
      (Toy.defI KX G ?a_add_numbers ?l_add_numbers ?c_add_numbers ?k_add_numbers)
      (Toy.defI KX G ?a_as_fraction ?l_as_fraction ?c_as_fraction ?k_as_fraction)
      (Toy.defI KX G ?a_is_integer ?l_is_integer ?c_is_integer ?k_is_integer)
      (Toy.defI KX G ?a_is_integer_in ?l_is_integer_in ?c_is_integer_in ?k_is_integer_in)
      (Toy.defI KX G ?a_is_tuple_of ?l_is_tuple_of ?c_is_tuple_of ?k_is_tuple_of)
      (Toy.defI KX G ?a_is_tuple_up_to ?l_is_tuple_up_to ?c_is_tuple_up_to ?k_is_tuple_up_to)
      (Toy.defI KX G ?a_is_field ?l_is_field ?c_is_field ?k_is_field)
      (Toy.defI KX G ?a_is_fraction ?l_is_fraction ?c_is_fraction ?k_is_fraction)
      (Toy.defI KX G ?a_is_number ?l_is_number ?c_is_number ?k_is_number)
      (Toy.defI KX G ?a_is_order ?l_is_order ?c_is_order ?k_is_order)
      (Toy.defI KX G ?a_is_ring ?l_is_ring ?c_is_ring ?k_is_ring)
      (Toy.defI KX G ?a_is_row_of_integers ?l_is_row_of_integers ?c_is_row_of_integers ?k_is_row_of_integers)
      (Toy.defI KX G ?a_is_monomial ?l_is_monomial ?c_is_monomial ?k_is_monomial)
      (Toy.defI KX G ?a_is_loose_term ?l_is_loose_term ?c_is_loose_term ?k_is_loose_term)
      (Toy.defI KX G ?a_is_polynomial ?l_is_polynomial ?c_is_polynomial ?k_is_polynomial)
      (Toy.defI KX G ?a_check_ring ?l_check_ring ?c_check_ring ?k_check_ring)
      (Toy.defI KX G ?a_check_polynomial ?l_check_polynomial ?c_check_polynomial ?k_check_polynomial)
      (Toy.defI KX G ?a_sum_of_terms ?l_sum_of_terms ?c_sum_of_terms ?k_sum_of_terms)
      (Toy.defI KX G ?a_write ?l_write ?c_write ?k_write)
      (Toy.defI KX G ?a_text_of ?l_text_of ?c_text_of ?k_text_of)
      (Toy.defI KX G ?a_sign_of ?l_sign_of ?c_sign_of ?k_sign_of)
      (Toy.defI KX G ?a_term_text ?l_term_text ?c_term_text ?k_term_text)
      (Toy.defI KX G ?a_number_text ?l_number_text ?c_number_text ?k_number_text)
      (Toy.defI KX G ?a_power_text ?l_power_text ?c_power_text ?k_power_text)
      (Toy.defI KX G ?a_read ?l_read ?c_read ?k_read)
      (Toy.defI KX G ?a_polynomial_of ?l_polynomial_of ?c_polynomial_of ?k_polynomial_of)
      (Toy.defI KX G ?a_law_taken ?l_law_taken ?c_law_taken ?k_law_taken)
      (Toy.defI KX G ?a_law_pick ?l_law_pick ?c_law_pick ?k_law_pick)
      (Toy.defI KX G ?a_law_order ?l_law_order ?c_law_order ?k_law_order)
      (Toy.defI KX G ?a_law_ring ?l_law_ring ?c_law_ring ?k_law_ring)
      (Toy.defI KX G ?a_law_mono ?l_law_mono ?c_law_mono ?k_law_mono)
      (Toy.defI KX G ?a_law_gcd ?l_law_gcd ?c_law_gcd ?k_law_gcd)
      (Toy.defI KX G ?a_law_num ?l_law_num ?c_law_num ?k_law_num)
      (Toy.defI KX G ?a_law_number ?l_law_number ?c_law_number ?k_law_number)
      (Toy.defI KX G ?a_law_zero ?l_law_zero ?c_law_zero ?k_law_zero)
      (Toy.defI KX G ?a_law_revlex ?l_law_revlex ?c_law_revlex ?k_law_revlex)
      (Toy.defI KX G ?a_law_key ?l_law_key ?c_law_key ?k_law_key)
      (Toy.defI KX G ?a_law_made ?l_law_made ?c_law_made ?k_law_made)
      (Toy.defI KX G ?a_law_poly ?l_law_poly ?c_law_poly ?k_law_poly)
      (Toy.defI KX G ?a_law_skip ?l_law_skip ?c_law_skip ?k_law_skip)
      (Toy.defI KX G ?a_law_is_figure ?l_law_is_figure ?c_law_is_figure ?k_law_is_figure)
      (Toy.defI KX G ?a_law_integer ?l_law_integer ?c_law_integer ?k_law_integer)
      (Toy.defI KX G ?a_law_number_end ?l_law_number_end ?c_law_number_end ?k_law_number_end)
      (Toy.defI KX G ?a_law_power_end ?l_law_power_end ?c_law_power_end ?k_law_power_end)
      (Toy.defI KX G ?a_law_wrong ?l_law_wrong ?c_law_wrong ?k_law_wrong)
      (Toy.defI KX G ?a_law_told ?l_law_told ?c_law_told ?k_law_told)
      (Toy.defI KX G ?a_law_alike ?l_law_alike ?c_law_alike ?k_law_alike)
      (Toy.defI KX G ?a_law ?l_law ?c_law ?k_law)
      (Toy.codI KX G ?lT ?vT ?lE ?zE ?vE ?aC ?b1 ?i1 ?l1 ?e1 ?b2 ?i2 ?l2 ?e2 ?b3 ?i3 ?l3 ?e3 ?k1 ?k2 ?k3 ?pg ?hd ?po ?sa ?mk ?kc ?m1 ?m2 ?m3 ?m4 ?m5 ?m6 ?m7 ?m8 ?m9)
      ?z_len ?z_isinstance ?z_int ?z_bool ?z_str ?z_tuple ?z_list ?z_range ?z_reversed ?z_zip ?z_sum ?z_all ?z_sorted ?z_abs ?z_super ?y2 ?y3 (PySem.W.mg_of KX G ?g_PLACE) (PySem.W.mg_of KX G ?g_MASK) (PySem.W.mg_of KX G ?g_WIDTH) h_NUMBER_BOUND (PySem.W.mg_of KX G ?g_MOST_VARIABLES) (PySem.W.mg_of KX G ?g_MOST_WEIGHT) (PySem.W.mg_of KX G ?g_MOST_DEGREE) (PySem.W.mg_of KX G ?g_MOST_TERMS) (PySem.W.mg_of KX G ?g_MOST_FIGURES) ?yG (Toy.inv_mk KX G ?yu1 ?yu2 ?yu3 ?yu4 ?yu5 ?yu6 ?yu7 ?yu8 ?yu9 ?yua ?yub ?yuc ?yud ?yue ?yuf ?yug ?yuh ?yui ?yuj ?yuk ?yul) (Toy.nt_mk KX G ?nt1 ?nt2 ?nt3 ?nt4 ?nt5 ?nt6 ?nt7) (Toy.rd_mk KX G ?ra ?rfa0 ?rfi0 ?rfl0 ?rfe0 ?rfk0 ?rfa1 ?rfi1 ?rfl1 ?rfe1 ?rfk1 ?rfa2 ?rfi2 ?rfl2 ?rfe2 ?rfk2 ?rfa3 ?rfi3 ?rfl3 ?rfe3 ?rfk3 ?rfa4 ?rfi4 ?rfl4 ?rfe4 ?rfk4 ?rfa5 ?rfi5 ?rfl5 ?rfe5 ?rfk5 ?rfa6 ?rfi6 ?rfl6 ?rfe6 ?rfk6 ?rfa7 ?rfi7 ?rfl7 ?rfe7 ?rfk7 ?rfa8 ?rfi8 ?rfl8 ?rfe8 ?rfk8 ?rfa9 ?rfi9 ?rfl9 ?rfe9 ?rfk9 ?rpg ?rhd ?rpo ?rsa ?rmk ?rkc ?rm1 ?rm2 ?rm3 ?rm4) ?xNI ?xNN ?yN (Toy.wr_written ?lN ?hN ?vN) ?yF (Toy.tup_writtenV ?lF ?hF ?vF) ⟨?pf, ?pt⟩
    (case z_len => k_is); (case z_isinstance => k_is); (case z_int => k_is); (case z_bool => k_is); (case z_str => k_is); (case z_tuple => k_is); (case z_list => k_is); (case z_range => k_is); (case z_reversed => k_is); (case z_zip => k_is); (case z_sum => k_is); (case z_all => k_is); (case z_sorted => k_is); (case z_abs => k_is); (case z_super => k_is)
    (case a_single_rows => k_is); (case l_single_rows => k_is); (case c_single_rows => k_is); (case k_single_rows => k_is)
    (case a_falling_rows => k_is); (case l_falling_rows => k_is); (case c_falling_rows => k_is); (case k_falling_rows => k_is)
    (case a_rows_of => k_is); (case l_rows_of => k_is); (case c_rows_of => k_is); (case k_rows_of => k_is)
    (case a_block_rows => k_is); (case l_block_rows => k_is); (case c_block_rows => k_is); (case k_block_rows => k_is)
    (case a_zero_of => k_is); (case l_zero_of => k_is); (case c_zero_of => k_is); (case k_zero_of => k_is)
    (case a_is_zero_in => k_is); (case l_is_zero_in => k_is); (case c_is_zero_in => k_is); (case k_is_zero_in => k_is)
    (case a_inverse_modulo => k_is); (case l_inverse_modulo => k_is); (case c_inverse_modulo => k_is); (case k_inverse_modulo => k_is)
    (case a_make_number => k_is); (case l_make_number => k_is); (case c_make_number => k_is); (case k_make_number => k_is)
    (case a_add_numbers => k_is); (case l_add_numbers => k_is); (case c_add_numbers => k_is); (case k_add_numbers => k_is)
    (case a_as_fraction => k_is); (case l_as_fraction => k_is); (case c_as_fraction => k_is); (case k_as_fraction => k_is)
    (case a_is_integer => k_is); (case l_is_integer => k_is); (case c_is_integer => k_is); (case k_is_integer => k_is)
    (case a_is_integer_in => k_is); (case l_is_integer_in => k_is); (case c_is_integer_in => k_is); (case k_is_integer_in => k_is)
    (case a_is_tuple_of => k_is); (case l_is_tuple_of => k_is); (case c_is_tuple_of => k_is); (case k_is_tuple_of => k_is)
    (case a_is_tuple_up_to => k_is); (case l_is_tuple_up_to => k_is); (case c_is_tuple_up_to => k_is); (case k_is_tuple_up_to => k_is)
    (case a_is_field => k_is); (case l_is_field => k_is); (case c_is_field => k_is); (case k_is_field => k_is)
    (case a_is_fraction => k_is); (case l_is_fraction => k_is); (case c_is_fraction => k_is); (case k_is_fraction => k_is)
    (case a_is_number => k_is); (case l_is_number => k_is); (case c_is_number => k_is); (case k_is_number => k_is)
    (case a_is_order => k_is); (case l_is_order => k_is); (case c_is_order => k_is); (case k_is_order => k_is)
    (case a_is_ring => k_is); (case l_is_ring => k_is); (case c_is_ring => k_is); (case k_is_ring => k_is)
    (case a_is_row_of_integers => k_is); (case l_is_row_of_integers => k_is); (case c_is_row_of_integers => k_is); (case k_is_row_of_integers => k_is)
    (case a_is_monomial => k_is); (case l_is_monomial => k_is); (case c_is_monomial => k_is); (case k_is_monomial => k_is)
    (case a_is_loose_term => k_is); (case l_is_loose_term => k_is); (case c_is_loose_term => k_is); (case k_is_loose_term => k_is)
    (case a_is_polynomial => k_is); (case l_is_polynomial => k_is); (case c_is_polynomial => k_is); (case k_is_polynomial => k_is)
    (case a_check_ring => k_is); (case l_check_ring => k_is); (case c_check_ring => k_is); (case k_check_ring => k_is)
    (case a_check_polynomial => k_is); (case l_check_polynomial => k_is); (case c_check_polynomial => k_is); (case k_check_polynomial => k_is)
    (case a_sum_of_terms => k_is); (case l_sum_of_terms => k_is); (case c_sum_of_terms => k_is); (case k_sum_of_terms => k_is)
    (case a_write => k_is); (case l_write => k_is); (case c_write => k_is); (case k_write => k_is)
    (case a_text_of => k_is); (case l_text_of => k_is); (case c_text_of => k_is); (case k_text_of => k_is)
    (case a_sign_of => k_is); (case l_sign_of => k_is); (case c_sign_of => k_is); (case k_sign_of => k_is)
    (case a_term_text => k_is); (case l_term_text => k_is); (case c_term_text => k_is); (case k_term_text => k_is)
    (case a_number_text => k_is); (case l_number_text => k_is); (case c_number_text => k_is); (case k_number_text => k_is)
    (case a_power_text => k_is); (case l_power_text => k_is); (case c_power_text => k_is); (case k_power_text => k_is)
    (case a_read => k_is); (case l_read => k_is); (case c_read => k_is); (case k_read => k_is)
    (case a_polynomial_of => k_is); (case l_polynomial_of => k_is); (case c_polynomial_of => k_is); (case k_polynomial_of => k_is)
    (case a_law_taken => k_is); (case l_law_taken => k_is); (case c_law_taken => k_is); (case k_law_taken => k_is)
    (case a_law_pick => k_is); (case l_law_pick => k_is); (case c_law_pick => k_is); (case k_law_pick => k_is)
    (case a_law_order => k_is); (case l_law_order => k_is); (case c_law_order => k_is); (case k_law_order => k_is)
    (case a_law_ring => k_is); (case l_law_ring => k_is); (case c_law_ring => k_is); (case k_law_ring => k_is)
    (case a_law_mono => k_is); (case l_law_mono => k_is); (case c_law_mono => k_is); (case k_law_mono => k_is)
    (case a_law_gcd => k_is); (case l_law_gcd => k_is); (case c_law_gcd => k_is); (case k_law_gcd => k_is)
    (case a_law_num => k_is); (case l_law_num => k_is); (case c_law_num => k_is); (case k_law_num => k_is)
    (case a_law_number => k_is); (case l_law_number => k_is); (case c_law_number => k_is); (case k_law_number => k_is)
    (case a_law_zero => k_is); (case l_law_zero => k_is); (case c_law_zero => k_is); (case k_law_zero => k_is)
    (case a_law_revlex => k_is); (case l_law_revlex => k_is); (case c_law_revlex => k_is); (case k_law_revlex => k_is)
    (case a_law_key => k_is); (case l_law_key => k_is); (case c_law_key => k_is); (case k_law_key => k_is)
    (case a_law_made => k_is); (case l_law_made => k_is); (case c_law_made => k_is); (case k_law_made => k_is)
    (case a_law_poly => k_is); (case l_law_poly => k_is); (case c_law_poly => k_is); (case k_law_poly => k_is)
    (case a_law_skip => k_is); (case l_law_skip => k_is); (case c_law_skip => k_is); (case k_law_skip => k_is)
    (case a_law_is_figure => k_is); (case l_law_is_figure => k_is); (case c_law_is_figure => k_is); (case k_law_is_figure => k_is)
    (case a_law_integer => k_is); (case l_law_integer => k_is); (case c_law_integer => k_is); (case k_law_integer => k_is)
    (case a_law_number_end => k_is); (case l_law_number_end => k_is); (case c_law_number_end => k_is); (case k_law_number_end => k_is)
    (case a_law_power_end => k_is); (case l_law_power_end => k_is); (case c_law_power_end => k_is); (case k_law_power_end => k_is)
    (case a_law_wrong => k_is); (case l_law_wrong => k_is); (case c_law_wrong => k_is); (case k_law_wrong => k_is)
    (case a_law_told => k_is); (case l_law_told => k_is); (case c_law_told => k_is); (case k_law_told => k_is)
    (case a_law_alike => k_is); (case l_law_alike => k_is); (case c_law_alike => k_is); (case k_law_alike => k_is)
    (case a_law => k_is); (case l_law => k_is); (case c_law => k_is); (case k_law => k_is)
    (case hr1 => rfl); (case hr2 => rfl); (case hr3 => rfl)
    (case ta1 => k_is); (case tb1 => k_is); (case tc1 => rfl); (case td1 => k_is); (case te1 => rfl); (case ta2 => k_is); (case tb2 => k_is); (case tc2 => rfl); (case td2 => k_is); (case te2 => rfl); (case ta3 => k_is); (case tb3 => k_is); (case tc3 => rfl); (case td3 => k_is); (case te3 => rfl)
    (case n1 => kernel_rfl); (case n2 => kernel_rfl); (case n3 => kernel_rfl)
    (case ne => decide)
    (case aC => k_is); (case b1 => k_is); (case i1 => k_is); (case l1 => k_is); (case e1 => k_is)
    (case b2 => k_is); (case i2 => k_is); (case l2 => k_is); (case e2 => k_is)
    (case b3 => k_is); (case i3 => k_is); (case l3 => k_is); (case e3 => k_is)
    (case k1 => k_is); (case k2 => k_is); (case k3 => k_is)
    (case pg => k_is); (case hd => k_is); (case po => k_is); (case sa => k_is); (case mk => k_is); (case kc => k_is)
    (case m1 => k_is); (case m2 => k_is); (case m3 => k_is); (case m4 => k_is); (case m5 => k_is); (case m6 => k_is); (case m7 => k_is); (case m8 => k_is); (case m9 => k_is)
    (case lT => k_is); (case vT => exact .cons rfl (.cons rfl .nil)); (case lE => k_is); (case zE => decide); (case vE => exact .nil)
    (case y2 => k_is)
    (case y3 =>
      refine' Toy.tup_written ?l ?z ?v
      (case l => k_is)
      (case z => decide)
      (case v => exact (.cons ⟨_, rfl⟩ (.cons ⟨_, rfl⟩ (.cons ⟨_, rfl⟩ (.cons ⟨_, rfl⟩ (.cons ⟨_, rfl⟩ (.cons ⟨_, rfl⟩ (.cons ⟨_, rfl⟩ (.cons ⟨_, rfl⟩ (.cons ⟨_, rfl⟩ (.cons ⟨_, rfl⟩ (.cons ⟨_, rfl⟩ .nil)))))))))))))
    (case g_PLACE => k_is); (case g_MASK => k_is); (case g_WIDTH => k_is); (case g_MOST_VARIABLES => k_is); (case g_MOST_WEIGHT => k_is); (case g_MOST_DEGREE => k_is); (case g_MOST_TERMS => k_is); (case g_MOST_FIGURES => k_is)
    (case yG => k_is); (case yu1 => first | k_is | kernel_rfl | rfl); (case yu2 => first | k_is | kernel_rfl | rfl); (case yu3 => first | rfl | k_is | kernel_rfl | decide +kernel); (case yu4 => first | k_is | kernel_rfl | rfl); (case yu5 => first | k_is | kernel_rfl | rfl); (case yu6 => first | k_is | kernel_rfl | rfl); (case yu7 => first | k_is | kernel_rfl | rfl); (case yu8 => first | k_is | kernel_rfl | rfl); (case yu9 => first | k_is | kernel_rfl | rfl); (case yua => first | k_is | kernel_rfl | rfl); (case yub => first | k_is | kernel_rfl | rfl); (case yuc => first | rfl | k_is | kernel_rfl | decide +kernel); (case yud => first | k_is | kernel_rfl | rfl); (case yue => first | k_is | kernel_rfl | rfl); (case yuf => first | k_is | kernel_rfl | rfl); (case yug => first | k_is | kernel_rfl | rfl); (case yuh => first | k_is | kernel_rfl | rfl); (case yui => first | k_is | kernel_rfl | rfl); (case yuj => first | k_is | kernel_rfl | rfl); (case yuk => first | k_is | kernel_rfl | rfl); (case yul => first | rfl | k_is | kernel_rfl | decide +kernel); (case nt1 => first | k_is | kernel_rfl | rfl); (case nt2 => first | k_is | kernel_rfl | rfl); (case nt3 => first | k_is | kernel_rfl | rfl); (case nt4 => first | k_is | kernel_rfl | rfl); (case nt5 => first | k_is | kernel_rfl | rfl); (case nt6 => first | k_is | kernel_rfl | rfl); (case nt7 => first | k_is | kernel_rfl | rfl); (case ra => first | k_is | kernel_rfl | rfl); (case rfa0 => first | k_is | kernel_rfl | rfl); (case rfi0 => first | k_is | kernel_rfl | rfl); (case rfl0 => first | k_is | kernel_rfl | rfl); (case rfe0 => first | k_is | kernel_rfl | rfl); (case rfk0 => first | k_is | kernel_rfl | rfl); (case rfa1 => first | k_is | kernel_rfl | rfl); (case rfi1 => first | k_is | kernel_rfl | rfl); (case rfl1 => first | k_is | kernel_rfl | rfl); (case rfe1 => first | k_is | kernel_rfl | rfl); (case rfk1 => first | k_is | kernel_rfl | rfl); (case rfa2 => first | k_is | kernel_rfl | rfl); (case rfi2 => first | k_is | kernel_rfl | rfl); (case rfl2 => first | k_is | kernel_rfl | rfl); (case rfe2 => first | k_is | kernel_rfl | rfl); (case rfk2 => first | k_is | kernel_rfl | rfl); (case rfa3 => first | k_is | kernel_rfl | rfl); (case rfi3 => first | k_is | kernel_rfl | rfl); (case rfl3 => first | k_is | kernel_rfl | rfl); (case rfe3 => first | k_is | kernel_rfl | rfl); (case rfk3 => first | k_is | kernel_rfl | rfl); (case rfa4 => first | k_is | kernel_rfl | rfl); (case rfi4 => first | k_is | kernel_rfl | rfl); (case rfl4 => first | k_is | kernel_rfl | rfl); (case rfe4 => first | k_is | kernel_rfl | rfl); (case rfk4 => first | k_is | kernel_rfl | rfl); (case rfa5 => first | k_is | kernel_rfl | rfl); (case rfi5 => first | k_is | kernel_rfl | rfl); (case rfl5 => first | k_is | kernel_rfl | rfl); (case rfe5 => first | k_is | kernel_rfl | rfl); (case rfk5 => first | k_is | kernel_rfl | rfl); (case rfa6 => first | k_is | kernel_rfl | rfl); (case rfi6 => first | k_is | kernel_rfl | rfl); (case rfl6 => first | k_is | kernel_rfl | rfl); (case rfe6 => first | k_is | kernel_rfl | rfl); (case rfk6 => first | k_is | kernel_rfl | rfl); (case rfa7 => first | k_is | kernel_rfl | rfl); (case rfi7 => first | k_is | kernel_rfl | rfl); (case rfl7 => first | k_is | kernel_rfl | rfl); (case rfe7 => first | k_is | kernel_rfl | rfl); (case rfk7 => first | k_is | kernel_rfl | rfl); (case rfa8 => first | k_is | kernel_rfl | rfl); (case rfi8 => first | k_is | kernel_rfl | rfl); (case rfl8 => first | k_is | kernel_rfl | rfl); (case rfe8 => first | k_is | kernel_rfl | rfl); (case rfk8 => first | k_is | kernel_rfl | rfl); (case rfa9 => first | k_is | kernel_rfl | rfl); (case rfi9 => first | k_is | kernel_rfl | rfl); (case rfl9 => first | k_is | kernel_rfl | rfl); (case rfe9 => first | k_is | kernel_rfl | rfl); (case rfk9 => first | k_is | kernel_rfl | rfl); (case rpg => first | k_is | kernel_rfl | rfl); (case rhd => first | k_is | kernel_rfl | rfl); (case rpo => first | k_is | kernel_rfl | rfl); (case rsa => first | k_is | kernel_rfl | rfl); (case rmk => first | k_is | kernel_rfl | rfl); (case rkc => first | k_is | kernel_rfl | rfl); (case rm1 => first | k_is | kernel_rfl | rfl); (case rm2 => first | k_is | kernel_rfl | rfl); (case rm3 => first | k_is | kernel_rfl | rfl); (case rm4 => first | k_is | kernel_rfl | rfl); (case xNI => first | k_is | kernel_rfl | rfl); (case xNN => first | k_is | kernel_rfl | rfl); (case yN => first | k_is | kernel_rfl | rfl); (case lN => first | k_is | kernel_rfl | rfl); (case yF => first | k_is | kernel_rfl | rfl); (case lF => first | k_is | kernel_rfl | rfl); (case hN => decide); (case hF => decide); (case vN => repeat (first | exact .nil | refine .cons ⟨_, rfl⟩ ?_)); (case vF => repeat (first | exact .nil | refine .cons ⟨_, rfl⟩ ?_)); (case pf => first | rfl | decide +kernel); (case pt => first | rfl | decide +kernel)
#print axioms PySem.Challenge.cw_idealcore_k07_whole_texts_refused_holds
namespace Toy


end Toy
