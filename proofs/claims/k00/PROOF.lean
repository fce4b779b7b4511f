import PyProof.Rows.All
import Wide.All
import OpenK.AllK
import Wide.FinOn
import HandS.ForMost
import HandS.Exc
import HandS.ExcInit
import HandS.ExcIs
import HandS.IsInst
import HandS.DictComp
import HandS.MakeKw
import KE.KExcIs
import PyProof.ReprReads
import PyProof.ReprRoads
import HandS.Style
import PySem.Challenge.RW_leastjoined_k00_errors
set_option Elab.async false
set_option linter.all false
set_option maxRecDepth 100000
set_option maxHeartbeats 4000000
/-! Exceptions of the program as values: made, their fields read, asked by isinstance. -/
namespace XV
open PySem PySem.Spec PyProof.Rows L2
section
variable {X : Cx} {e : Expr} {es : List Expr} {te : TE} {ta : TA} {x : Str} {p1 p2 pos : Pos}
/-- what the written part says of the base class of the errors, at CJ: its __init__ is ValueError's -/
structure BaseC (K : PySem.W.Frag) (CJ : Addr) : Prop where
  rd : PySem.W.readsIn K CJ (.type "type") = true
  ga : PySem.W.specialIn K (.ref CJ) "__getattribute__" = some (some (.builtin "type.__getattribute__"))
  ini : PySem.W.findCls K (.ref CJ) (.type "type") "__init__" = some (.val (.builtin "ValueError.__init__"))
/-- B.__init__(self, ..), B an own class over ValueError without an __init__ of its own -/
theorem pe_binit {CJ : Addr} {pl : Sem Bool} (B : BaseC X.K CJ) (hg : Gl X x) (hm : X.mg x = some (.ref CJ)) (ha : PA X (e :: es) ta)
    (hdb : (x == ("__debug__" : Str)) = false := by decide)
    (hc : eval (.Call (.Attribute (.Name x p1) "__init__" p2) (e :: es) [] pos) X.env = (do
      let ov ← eval (.Name x p1) X.env
      standAt p2.atName
      let (f, first) ← holding [ov] (getMethod ov "__init__" pl)
      callWith pos f first (backTo pos (starEach (e :: es) X.env)) (backToKw pos (keywordEach [] X.env))) := by rfl)
    (he : starEach (e :: es) X.env = (false, eval e X.env) :: starEach es X.env := by rfl) (hpl : (backTo pos (starEach es X.env)).any (·.1) = false := by rfl) :
    PE X (.Call (.Attribute (.Name x p1) "__init__" p2) (e :: es) [] pos) (tVeI X.K ta) := by
  refine ⟨fun pins s σ H Q I h => PySem.W.methodCall_KW (ld_glob I hg hm (PySem.W.method_cls I.kIn B.ga (PySem.W.cls_value I.kIn B.rd B.ini (by decide +kernel) ?_)) hdb) hc⟩
  refine PyProof.Rows.callWith_method1 (thn (ha.run pos pins _ σ H _ (I.tok _) h) fun us s1 ⟨vs, H1, I1, r1, a, C, ws, ev, hl, T, ea, q⟩ => ?_) he hpl
  subst ev
  cases r1 with
  | @cons _ u0 _ ur ra rw' =>
    obtain rfl : u0 = Value.ref a := ra
    have hlen : ur.length ≤ sizeLine := by
      rw [← Paired.length rw', sizeLine_eq]; omega
    exact oinit_ok T I1 ea hlen fun s' J => ⟨.non, H1, J, rfl, q⟩
end
end XV

set_option Elab.async false
set_option linter.all false
set_option maxRecDepth 100000
set_option maxHeartbeats 4000000
/-! an own error class called with keywords: type.__call__, BaseException.__new__, then its own __init__ -/
namespace XV
open PySem PySem.Spec PySem.HandSPX PySem.Calls
open Builtin Builtin.ObjectAttr
section
variable {M : Model} {prog : Program} {w : World} {A : Around} {E : Value → Shared → Prop} {R : Result → Shared → Prop} {hp : Heap} {gs : Array GenState} {dr : Drawn} {tk : Nat} {os : OsState}
variable {nm q : Str} {C N : Addr} {bs bm bmB : List Value} {hdct : Bool} {sn : List Str} {sub : List Value} {ab : Bool} {col : Option Bool} {dd : Option Addr} {k0 k1 k2 k3 k5 : Option Value} {B newId initId : String}
variable {vs : List Value} {kw : List (Str × Value)}
theorem newCheckK (F : ExcBaseFacts B newId initId bmB) (tl : ∀ X : String, bm.contains (.type X) = bmB.contains (.type X)) {Q : Unit → Shared → Prop}
    (oC : hp.get? C = some (excClassObj nm q C N bs bm hdct sn sub ab col dd k0 k1 k2 k3 k5 newId)) (hq : Q () ⟨hp, gs, dr, tk, os⟩) :
    wpAny M A (checkBuiltinCall newId ⟨.ref C :: vs, kw⟩) Q E ⟨hp, gs, dr, tk, os⟩ := by
  have c1 : (Value.ref C :: bm).contains (.type B) = true := by rw [List.contains_cons, tl, F.hasB, Bool.or_true]
  have c2 := F.noStar
  simp only [checkBuiltinCall, F.newKind, F.newSplit, F.newRow]
  repeat (first
    | refine wpAny_loadPart_at oC ?_
    | (refine wpAny_isSubtype_exc oC ?_; rw [c1])
    | refine wpAny_staticBase_exc oC ?_
    | refine wpAny_madeBy_exc oC ?_
    | simp only [bne_self_eq_false, Bool.false_eq_true, if_false]
    | wp_step)
  exact hq
theorem newK (F : ExcBaseFacts B newId initId bmB) (tl : ∀ X : String, bm.contains (.type X) = bmB.contains (.type X))
    (oC : hp.get? C = some (excClassObj nm q C N bs bm hdct sn sub ab col dd k0 k1 k2 k3 k5 newId))
    (hq : R (.ok (.ret (.ref (hp.objs.size + 1)))) ⟨(hp.push (W.kdv_tup vs)).push (excO C hp.objs.size), gs, dr, tk, os⟩) (hl : vs.length ≤ sizeLine) :
    codeAny (model prog w) A (.builtin newId ⟨.ref C :: vs, kw⟩) R ⟨hp, gs, dr, tk, os⟩ := by
  have en := F.ends
  have cB : (Value.ref C :: bm).contains (.type B) = true := by rw [List.contains_cons, tl, F.hasB, Bool.or_true]
  have cA : (Value.ref C :: bm).contains (.type "AttributeError") = false := by
    rw [List.contains_cons, tl, F.noAttr]; rfl
  have cN : (Value.ref C :: bm).contains (.type "NameError") = false := by
    rw [List.contains_cons, tl, F.noName]; rfl
  refine codeAny_builtinAt F.entry ?_
  unfold Builtin.«BaseException.__new__»
  refine wpAt_bind ?_
  show wpAt _ _ _ (stack >>= _) _ _ _
  refine wpAt_bind (wpAt_stack fun p below => wpAt_of_wpAny ?_)
  wp_walk
  refine wpAt_of_wpAny ?_
  rw [F.owner]
  repeat (first
    | with_reducible refine wpAny_madeHere_exc F.canon oC ?_
    | with_reducible refine wpAny_loadPart_at oC ?_
    | (with_reducible refine wpAny_isSubtype_exc oC ?_; first | rw [cB] | rw [cA] | rw [cN])
    | wp_step)
  show R _ _
  rw [Heap.size_push]
  exact hq
theorem typeCallK (F : ExcBaseFacts B newId initId bmB) (tl : ∀ X : String, bm.contains (.type X) = bmB.contains (.type X)) {fI : Addr} {Q : Fin → Shared → Prop}
    (oC : hp.get? C = some (excClassObj nm q C N bs bm hdct sn sub ab col dd k0 k1 k2 k3 k5 newId))
    (li : W.Looks (model prog w) hp (typeLookup (.ref C) "__init__") (some (.ref fI))) (lb : ∀ self, W.Looks (model prog w) hp (bindSpecial (.ref fI) self) (.ref fI, [self])) (hl : vs.length ≤ sizeLine)
    (hq : codeAny (model prog w) A (.call (.ref fI) ⟨.ref (hp.objs.size + 1) :: vs, kw⟩)
      (fun r s' => match r with | .ok (.ret v) => v = .none ∧ Q (.done (.ret (.ref (hp.objs.size + 1)))) s' | .ok _ => False | .error e => E e s')
      ⟨(hp.push (W.kdv_tup vs)).push (excO C hp.objs.size), gs, dr, tk, os⟩) :
    wpAny (model prog w) A (Builtin.«type.__call__» ⟨.ref C :: vs, kw⟩) Q E ⟨hp, gs, dr, tk, os⟩ := by
  repeat (first | with_reducible refine wpAny_loadPart_at oC ?_ | with_reducible refine wpAny_madeBy_exc oC ?_ | wp_step)
  refine codeAny_call_builtin_code (Code.quiet_builtin _ F.quiet) (newCheckK F tl oC ?_)
  refine newK F tl oC ?_ hl
  show wpAny _ _ _ _ _ _
  have kp : ∀ b o, hp.get? b = some o → ((hp.push (W.kdv_tup vs)).push (excO C hp.objs.size)).get? b = some o := fun b o e =>
    Heap.get?_push_of_some _ (Heap.get?_push_of_some _ e)
  have oC1 := kp _ _ oC
  have oX : ((hp.push (W.kdv_tup vs)).push (excO C hp.objs.size)).get? (hp.objs.size + 1) = some (excO C hp.objs.size) := by heap_get
  have cC : (Value.ref C :: bm).contains (.ref C) = true := by simp
  have l1 := li.keeps kp
  have l2 := (lb (.ref (hp.objs.size + 1))).keeps kp
  unfold isInstance
  repeat (first | with_reducible refine wpAny_loadPart_at oX ?_ | (with_reducible refine wpAny_isSubtype_exc oC1 ?_; rw [cC]) | wp_step)
  show wpAny _ _ (typeLookup (.ref C) _) _ _ _
  refine l1.at ?_
  refine wpAny_holding (wpAny_bind (l2.at ?_))
  refine wpAny_bind (wpAny_call (codeAny_mono hq fun r s' z => ?_))
  rcases r with e | (v | _ | _ | _) <;> first | exact z | exact z.elim | skip
  obtain ⟨rfl, z⟩ := z
  first
    | exact wpAny_pure (wpAny_pure z)
    | (wp_walk; exact z)
theorem callK (F : ExcBaseFacts B newId initId bmB) (tl : ∀ X : String, bm.contains (.type X) = bmB.contains (.type X)) {fI : Addr}
    (oC : hp.get? C = some (excClassObj nm q C N bs bm hdct sn sub ab col dd k0 k1 k2 k3 k5 newId))
    (li : W.Looks (model prog w) hp (typeLookup (.ref C) "__init__") (some (.ref fI))) (lb : ∀ self, W.Looks (model prog w) hp (bindSpecial (.ref fI) self) (.ref fI, [self])) (hl : vs.length ≤ sizeLine)
    (hq : codeAny (model prog w) (A.under (.builtin "type.__call__" ⟨.ref C :: vs, kw⟩)) (.call (.ref fI) ⟨.ref (hp.objs.size + 1) :: vs, kw⟩) (W.InitBack (hp.objs.size + 1) R)
      ⟨(hp.push (W.kdv_tup vs)).push (excO C hp.objs.size), gs, dr, tk, os⟩) :
    codeAny (model prog w) A (.call (.ref C) ⟨vs, kw⟩) R ⟨hp, gs, dr, tk, os⟩ := by
  have f1 := tc_lookup
  have f2 := tc_bind (.ref C)
  have ty : (⟨hp, gs, dr, tk, os⟩ : Shared).TypeIs (.ref C) "type" := ⟨_, oC, rfl⟩
  refine codeAny_of_tree ?_
  show wpAny _ _ (callAny (.ref C) _) _ _ _
  repeat (any_goals (first | assumption | with_reducible refine wpAny_loadPart_at oC ?_ | wp_step))
  refine ⟨rfl, ?_⟩
  refine codeAny_call_builtin_at (Code.quiet_builtin _ (by decide +kernel)) entry_typeCall (wpAny_check_type_call_sub oC (typeCallK F tl oC li lb hl ?_))
  refine codeAny_mono hq fun r s' z => ?_
  rcases r with e | (v | _ | _ | _) <;> exact z
end
end XV

set_option Elab.async false
set_option linter.all false
set_option maxRecDepth 100000
set_option maxHeartbeats 4000000
/-! own errors with an __init__ of their own, made as values -/
namespace XV
open PySem PySem.Spec PyProof.Rows L2
/-- what the written part says of an error class at C: its own __init__ at fI -/
structure ErrC (K : PySem.W.Frag) (C fI : Addr) : Prop where
  T : OexC K C
  iC : PySem.W.findIn K (.ref C) "__init__" = some (some (.ref fI))
  tI : PySem.W.typeIn K (.ref fI) = some (.type "function")
section
variable {X : Cx} {CX : CXT} {k n : Nat} {C fI : Addr} {fd : FuncData} {ps ks : List Str} {sp : Sp} {E : XK} {x : Str} {p pos : Pos} {e : Expr} {es : List Expr} {kws : List Keyword} {ta tk : TA} {g : List Value → List Value → List Value} {gV : List V → List V → List V}
theorem run_err {pins : List (Addr × Obj)} {σ : L2.St} {H : Hp} {s : Shared} {Q : VK} {us ws : List Value} {vs zs : List V} (D : ErrC X.K C fI) (F : FnOk X.prog X.w X.K X.mg X.base CX k fI fd ps sp) (hr : Room (k + 1) X.A)
    (hb : KBn X.K fd ps (n + 1) ks g gV) (hx : Passes CX X E) (I : Inv X pins σ H s) (r : Vals vs us) (rz : Vals zs ws) (l1 : vs.length = n) (l2 : zs.length = ks.length) (ln : n ≤ 1000)
    (h : ∀ a, H a = none → sp (gV (.ref a :: vs) zs) (upd H a (exo a C none)) (fun v H2 => v = .non ∧ Q (.ref a) H2) E) :
    wpAny (model X.prog X.w) X.A (call (.ref C) us (ks.zip ws)) (EP X pins σ Q) X.xe s := by
  obtain ⟨nm, q, N, bs, bm, sn, sub, ab, col, dd, k0, k1, k2, k3, k5, oC, mC⟩ := D.T.cls
  obtain ⟨hp, gs, dr, t0, os⟩ := s
  have old : ∀ b o, hp.get? b = some o → ((hp.push (PySem.W.kdv_tup us)).push (PySem.HandSPX.excO C hp.objs.size)).get? b = some o := fun b o z =>
    Heap.get?_push_of_some _ (Heap.get?_push_of_some _ z)
  have new : ((hp.push (PySem.W.kdv_tup us)).push (PySem.HandSPX.excO C hp.objs.size)).get? (hp.objs.size + 1) = some (PySem.HandSPX.excO C hp.objs.size) := by heap_get
  have sz : hp.objs.size ≤ hp.objs.size + 1 := Nat.le_succ _
  have hq := h (hp.objs.size + 1) (I.hok.fresh sz)
  have I2 := I.laid (t' := t0) (a := hp.objs.size + 1) (o := exo (hp.objs.size + 1) C none) (h' := (hp.push (PySem.W.kdv_tup us)).push (PySem.HandSPX.excO C hp.objs.size)) old sz (exo_ok new)
  have r1 : Vals (V.ref (hp.objs.size + 1) :: vs) (Value.ref (hp.objs.size + 1) :: us) := .cons rfl r
  have e1 : (Value.ref (hp.objs.size + 1) :: us).length = n + 1 := r1.length.symm.trans (congrArg Nat.succ l1)
  have e2 : ws.length = ks.length := rz.length.symm.trans l2
  have hus : us.length ≤ sizeLine := by
    rw [← Paired.length r, l1, sizeLine_eq]; omega
  refine wpAny_call (callK PySem.F.excBase_ValueError (fun Y => PySem.HandSPX.refsVE_contains Y bm mC) (I.kIn _ _ oC) (PySem.W.looks_findIn I.kIn D.iC) (fun self => PySem.W.bind_fn I.kIn self D.tI) hus ?_)
  refine codeAny_mono (F.run _ X.stack _ _ ⟨Value.ref (hp.objs.size + 1) :: us, ks.zip ws⟩ (g (Value.ref (hp.objs.size + 1) :: us) ws) _ _ E (hr.make C us (ks.zip ws)) (I2.env0.make C us (ks.zip ws))
    (hb.to _ _ ws I2.kIn e1 e2) (hb.rel r1 rz) hq) fun res s' z => ?_
  cases res with
  | error er => exact hx pins σ _ _ er s' I2 z
  | ok fl =>
    cases fl with
    | ret u =>
      obtain ⟨v, H2, I3, rv, ev, q3⟩ := I2.after z
      subst ev
      exact ⟨rv, ⟨V.ref (hp.objs.size + 1), H2, I3, rfl, q3⟩⟩
    | next => exact False.elim z
    | brk => exact False.elim z
    | cont => exact False.elim z
/-- C(e, ..) -/
def tErr (C : Addr) (n : Nat) (sp : Sp) (gV : List V → List V → List V) (E : XK) (ta : TA) : TE := fun σ H Q => ta σ H fun vs H1 => vs.length = n ∧
  ∀ a, H1 a = none → sp (gV (.ref a :: vs) []) (upd H1 a (exo a C none)) (fun v H2 => v = .non ∧ Q (.ref a) H2) E
/-- C(k = e, ..) -/
def tErrK (C : Addr) (m : Nat) (sp : Sp) (gV : List V → List V → List V) (E : XK) (tk : TA) : TE := fun σ H Q => tk σ H fun zs H1 => zs.length = m ∧
  ∀ a, H1 a = none → sp (gV [.ref a] zs) (upd H1 a (exo a C none)) (fun v H2 => v = .non ∧ Q (.ref a) H2) E
theorem pe_err (D : ErrC X.K C fI) (F : FnOk X.prog X.w X.K X.mg X.base CX k fI fd ps sp) (hr : Room (k + 1) X.A) (hg : Gl X x) (hm : X.mg x = some (.ref C)) (hb : KBn X.K fd ps (n + 1) [] g gV) (hx : Passes CX X E) (ha : PA X (e :: es) ta) (ln : n ≤ 1000)
    (hdb : (x == ("__debug__" : Str)) = false := by decide) (he : starEach (e :: es) X.env = (false, eval e X.env) :: starEach es X.env := by rfl) (hpl : (backTo pos (starEach es X.env)).any (·.1) = false := by rfl) :
    PE X (.Call (.Name x p) (e :: es) [] pos) (tErr C n sp gV E ta) :=
  ⟨fun pins s σ H Q I h => wpAny_Call_Name_kw (ld_glob I hg hm (PySem.W.callWith_K (h₀ := X.base) I.ok.mod.kin D.T.kC
    (thn (ha.run pos pins s σ H _ I h) fun us s1 ⟨vs, H1, I1, r, l1, q⟩ => ⟨I1.kIn, run_err (ws := []) (zs := []) D F hr hb hx I1 r .nil l1 rfl ln q⟩) he hpl) hdb)⟩
theorem pe_err0 (D : ErrC X.K C fI) (F : FnOk X.prog X.w X.K X.mg X.base CX k fI fd ps sp) (hr : Room (k + 1) X.A) (hg : Gl X x) (hm : X.mg x = some (.ref C)) (hb : KBn X.K fd ps 1 [] g gV) (hx : Passes CX X E) (hdb : (x == ("__debug__" : Str)) = false := by decide) :
    PE X (.Call (.Name x p) [] [] pos) (tErr C 0 sp gV E tNil) :=
  ⟨fun pins s σ H Q I h => wpAny_Call_Name_kw (ld_glob I hg hm (PySem.W.callWith_K0 I.kIn D.T.kC (run_err (us := []) (vs := []) (ws := []) (zs := []) D F hr hb hx I .nil .nil rfl rfl (Nat.zero_le _) h.2)) hdb)⟩
theorem pe_errK (D : ErrC X.K C fI) (F : FnOk X.prog X.w X.K X.mg X.base CX k fI fd ps sp) (hr : Room (k + 1) X.A) (hg : Gl X x) (hm : X.mg x = some (.ref C)) (hb : KBn X.K fd ps 1 ks g gV) (hx : Passes CX X E) (hkw : PK X kws tk)
    (hall : (backToKw pos (keywordEach kws X.env)).all (·.1.isSome) = true := by rfl) (hks : (backToKw pos (keywordEach kws X.env)).filterMap (·.1) = ks := by rfl) (hdb : (x == ("__debug__" : Str)) = false := by decide)
    (hpl : ((backTo pos (starEach [] X.env)).any (·.1) || (backToKw pos (keywordEach kws X.env)).any (·.1.isNone)) = false := by rfl) :
    PE X (.Call (.Name x p) [] kws pos) (tErrK C ks.length sp gV E tk) := by
  refine ⟨fun pins s σ H Q I h => wpAny_Call_Name_kw (ld_glob I hg hm (PySem.W.callWith_KW0 (h₀ := X.base) I.ok.mod.kin D.T.kC hall (thn (hkw.run pos pins s σ H _ I h) fun ws s1 ⟨zs, H1, I1, rz, l2, q⟩ => ⟨I1.kIn, ?_⟩) hpl) hdb)⟩
  rw [hks]
  exact run_err (us := []) (vs := []) D F hr hb hx I1 .nil rz rfl l2 (Nat.zero_le _) q
end
end XV

set_option Elab.async false
set_option linter.all false
set_option maxRecDepth 100000
set_option maxHeartbeats 4000000
/-! errors as values: a field read, isinstance; repr of a list of small data -/
namespace XV
open PySem PySem.Spec PyProof.Rows L2
/-- what the class at D must say, so that its instances' fields are read and isinstance asks them -/
structure ErrR (K : PySem.W.Frag) (D : Addr) : Prop where
  ga : PySem.W.findIn K (.ref D) "__getattribute__" = some (some (.builtin "BaseException.__getattribute__"))
  gt : PySem.W.findIn K (.ref D) "__getattr__" = some none
  sb : PySem.W.subIn K (.ref D) (.type "BaseException") = some true
  hd : PySem.W.hasDictIn K D = true
  ca : PySem.W.findIn K (.ref D) "__class__" = some (some (.builtin "object.__class__"))
  cg : PySem.W.specialIn K (.builtin "object.__class__") "__get__" = some (some (.builtin "getset_descriptor.__get__"))
  ct : PySem.W.takesIn K (.builtin "object.__class__") = some true
  mo : PySem.W.mroIn K D (.type "object") = some true
theorem ErrR.cl {K : PySem.W.Frag} {D : Addr} (R : ErrR K D) : (PySem.W.clsIn K D).isSome = true := by
  obtain ⟨cd, h, _⟩ := PySem.W.any_some R.hd
  rw [h]; rfl
/-- an error of the class at D stands at a, with the fields fs -/
def ErrAt (H : Hp) (a D : Addr) (fs : List (Str × V)) : Prop :=
  (fs = [] ∧ H a = some (exo a D none)) ∨ ∃ dx, H a = some (exo a D (some dx)) ∧ H dx = some (exd dx fs)
theorem ErrAt.same {H H' : Hp} {a D : Addr} {fs : List (Str × V)} (h : ErrAt H a D fs) (s : Same H H') : ErrAt H' a D fs := by
  rcases h with ⟨e, h⟩ | ⟨dx, h1, h2⟩
  · exact .inl ⟨e, s _ _ h⟩
  · exact .inr ⟨dx, s _ _ h1, s _ _ h2⟩
section
variable {X : Cx} {pins : List (Addr × Obj)} {σ : L2.St} {H : Hp} {s : Shared} {e : Expr} {te : TE} {pos : Pos} {n : Str}
theorem ErrAt.inst {a D : Addr} {fs : List (Str × V)} (I : Inv X pins σ H s) (h : ErrAt H a D fs) :
    ∃ ox od, PySem.W.InstAt s.heap a ox D od ∧ ∀ f v, fs.lookup f = some v → ∃ u o, RelV v u ∧ od = some o ∧ PySem.W.lookIn f o = some (some u) := by
  rcases h with ⟨rfl, h⟩ | ⟨dx, h1, h2⟩
  · obtain ⟨t1, ho⟩ := exo_at I.hok h
    exact ⟨_, none, ⟨ho, rfl, rfl, trivial⟩, fun f v z => by cases z⟩
  · obtain ⟨t1, ho⟩ := exo_at I.hok h1
    obtain ⟨mA, hns, rel⟩ := exd_at I.hok h2
    obtain ⟨od, hod, hl⟩ := lookIn_ns hns
    refine ⟨_, some od, ⟨ho, rfl, rfl, hod⟩, fun f v z => ?_⟩
    obtain ⟨u, hu, ru⟩ := RelO.some_of (v := v) (o := mA f) (by rw [← z]; exact rel f)
    exact ⟨u, od, ru, rfl, by rw [hl, hu]⟩
/-- e.f, e an error -/
def tEfld (K : PySem.W.Frag) (f : Str) (te : TE) : TE := fun σ H Q => te σ H fun x H1 => ∃ (a D : Addr) (fs : List (Str × V)) (v : V), x = .ref a ∧ ErrAt H1 a D fs ∧ ErrR K D ∧ PySem.W.findIn K (.ref D) f = some none ∧ fs.lookup f = some v ∧ Q v H1
theorem pe_efld (he : PE X e te) (hb : attributeBase e n X.env (eval e X.env) = eval e X.env := by rfl) : PE X (.Attribute e n pos) (tEfld X.K n te) := by
  refine ⟨fun pins s σ H Q I h => attr_of hb (thn (he.run pins s σ H _ I h) fun u s1 ⟨x, H1, I1, rx, a, D, fs, v, ex, ea, R, no, lk, q⟩ => ?_)⟩
  subst ex
  obtain rfl : u = Value.ref a := rx
  obtain ⟨ox, od, J, rd⟩ := ea.inst I1
  obtain ⟨w', o, rw', rfl, hl⟩ := rd n v lk
  exact PySem.HandSPX.exc_get I1.kIn J R.ga R.gt R.sb (PySem.W.findObj_own R.hd no rfl hl) (handed_of rw') ⟨v, H1, I1.tok _, rw', q⟩
/-- isinstance(e, c), e an error -/
def rIsV (K : PySem.W.Frag) : List V → Hp → VK → Prop := fun xs H Q => ∃ (a D : Addr) (fs : List (Str × V)) (c : V) (cv : Value) (b : Bool), xs = [.ref a, c] ∧ ErrAt H a D fs ∧ ErrR K D ∧ ClsV c cv ∧ PySem.W.kitOne K (.ref D) cv = some b ∧ Q (.bl b) H
theorem call_isV : CallR X (.builtin "isinstance") (rIsV X.K) := by
  intro pins s σ H xs us Q I r h
  obtain ⟨a, D, fs, c, cv, b, rfl, ea, R, hc, e, q⟩ := h
  obtain ⟨u1, u2, rfl, r1, r2⟩ := vals2 r
  obtain rfl : u1 = Value.ref a := r1
  have e2 := hc.eq r2
  subst e2
  obtain ⟨ox, od, J, _⟩ := ea.inst I
  exact PySem.W.kia_one (PySem.W.kitx_exc R.cl R.ga R.gt R.sb R.ca R.cg R.ct R.mo) I.kIn J e (fun z => nomatch z) fun tk => ⟨.bl b, H, I.tok tk, rfl, q⟩
end
/-! ### small data: what the law draws -/
inductive AnyV (H : Hp) : V → PyData → Prop where
  | non : AnyV H .non .none
  | bl (b : Bool) : AnyV H (.bl b) (.bool b)
  | int (i : Int) (h : i.natAbs < 10 ^ 40) : AnyV H (.int i) (.int i)
  | str (x : Str) (h : (reprText x).length ≤ 60) : AnyV H (.str x) (.str x)
  | tup {a : Addr} (ns : List Int) (hn : ns = [] ∨ ns = [1, 2]) (h : H a = some (.tup (ns.map V.int))) : AnyV H (.ref a) (.tuple (ns.map PyData.int))
  | lst {a : Addr} (h : H a = some (.lst [.int 3])) : AnyV H (.ref a) (.list [.int 3])
  | dct {a : Addr} (h : H a = some (.dK [])) : AnyV H (.ref a) (.dict [])
theorem AnyV.same {H H' : Hp} {v : V} {d : PyData} (h : AnyV H v d) (s : Same H H') : AnyV H' v d := by
  cases h with
  | non => exact .non
  | bl b => exact .bl b
  | int i h => exact .int i h
  | str x h => exact .str x h
  | tup ns hn h => exact .tup ns hn (s _ _ h)
  | lst h => exact .lst (s _ _ h)
  | dct h => exact .dct (s _ _ h)
theorem shown_small {H : Hp} {v : V} {d : PyData} (h : AnyV H v d) : d.shown.length ≤ 60 := by
  cases h with
  | non => show ("None" : Str).length ≤ 60; decide +kernel
  | bl b => cases b <;> (show (_ : Str).length ≤ 60) <;> decide +kernel
  | int i h =>
    simp only [PyData.shown]
    have := int_text_length_le10 (a := i) (k := 40) (by decide) h
    show (Str.ofString (toString i)).length ≤ 60
    rw [PySem.ofString_length]
    exact Nat.le_trans this (by decide)
  | str x h => exact h
  | tup ns hn h => rcases hn with rfl | rfl <;> decide +kernel
  | lst h => decide +kernel
  | dct h => decide +kernel
theorem log2_of {i : Int} (h : i.natAbs < 10 ^ 40) : i.natAbs.log2 < 1920 := by
  by_cases z : i.natAbs = 0
  · rw [z]; decide
  · refine (Nat.log2_lt z).mpr (Nat.lt_of_lt_of_le h ?_)
    exact Nat.le_trans (Nat.le_of_ble_eq_true (by decide +kernel) : 10 ^ 40 ≤ 2 ^ 140) (Nat.pow_le_pow_right (by decide) (by decide))

inductive AnyAll (H : Hp) : List V → List PyData → Prop where
  | nil : AnyAll H [] []
  | cons {v : V} {d : PyData} {vs : List V} {ds : List PyData} : AnyV H v d → AnyAll H vs ds → AnyAll H (v :: vs) (d :: ds)
theorem AnyAll.same {H H' : Hp} (s : Same H H') : ∀ {vs : List V} {ds : List PyData}, AnyAll H vs ds → AnyAll H' vs ds
  | _, _, .nil => .nil
  | _, _, .cons h t => .cons (h.same s) (t.same s)
theorem AnyAll.append {H : Hp} : ∀ {vs ws : List V} {ds es : List PyData}, AnyAll H vs ds → AnyAll H ws es → AnyAll H (vs ++ ws) (ds ++ es)
  | _, _, _, _, .nil, k => k
  | _, _, _, _, .cons h t, k => .cons h (t.append k)
theorem textFrom_most : ∀ (ts : List Str) (k : Nat) (acc : Str), (textFrom k acc ts).length ≤ acc.length + piled ts
  | [], k, acc => by show acc.length ≤ _; omega
  | t :: r, k, acc => by
    have h := textFrom_most r (k + 1) (acc ++ (if k > 0 then ", " else "" : String) ++ t)
    have e : (acc ++ (if k > 0 then ", " else "" : String) ++ t).length = acc.length + (if k > 0 then 2 else 0) + t.length := by
      rw [strLen_append, strLen_append]; split <;> rfl
    rw [piled_cons]
    show (textFrom (k + 1) _ r).length ≤ _
    rw [e] at h
    have : (if k > 0 then 2 else 0) ≤ 2 := by split <;> omega
    omega
theorem shownAll_piled {H : Hp} : ∀ {vs : List V} {ds : List PyData}, AnyAll H vs ds → piled (PyData.shownAll ds) ≤ 62 * ds.length
  | _, _, .nil => by simp only [PyData.shownAll]; exact Nat.zero_le _
  | _, _, .cons (ds := ds) h t => by
    have h1 := shown_small h
    have h2 := shownAll_piled t
    simp only [PyData.shownAll]
    rw [piled_cons, List.length_cons]
    omega
theorem shownAll_len : ∀ ds : List PyData, (PyData.shownAll ds).length = ds.length
  | [] => by simp only [PyData.shownAll, List.length_nil]
  | d :: ds => by simp only [PyData.shownAll, List.length_cons, shownAll_len ds]
theorem listText_most {ds : List PyData} {H : Hp} {vs : List V} (h : AnyAll H vs ds) (hl : ds.length ≤ 100) : (listText (PyData.shownAll ds)).length ≤ sizeLine := by
  have h1 := textFrom_most (PyData.shownAll ds) 0 "["
  have h2 := shownAll_piled h
  unfold listText
  rw [strLen_append, sizeLine_eq]
  have e1 : ("[" : Str).length = 1 := by decide +kernel
  have e2 : ("]" : Str).length = 1 := by decide +kernel
  rw [e1] at h1
  rw [e2]
  omega
section
variable {X : Cx} {pins : List (Addr × Obj)} {σ : L2.St} {H : Hp} {s : Shared}
theorem ints_reprAll {h₀ : Heap} {P : Program} {w : World} : ∀ (ns : List Int) (us : List Value), (∀ i ∈ ns, i.natAbs < 10 ^ 40) → Vals (ns.map V.int) us → ReprAllK P w [] h₀ 0 us (PyData.shownAll (ns.map PyData.int))
  | [], _, _, r => by
    cases r
    simp only [List.map_nil, PyData.shownAll]
    exact .nil
  | n :: ns, _, hn, r => by
    cases r with
    | cons r1 r2 =>
      obtain ⟨t, rfl⟩ := r1
      simp only [List.map_cons, PyData.shownAll]
      refine .cons ?_ (ints_reprAll ns _ (fun i hi => hn i (List.mem_cons_of_mem _ hi)) r2)
      simp only [PyData.shown]
      exact .of_is (ReprIs.int t (log2_of (hn n List.mem_cons_self))) _ _ _
/-- one of them, shown; the addresses that its text runs through are tracked, and hold no long list -/
theorem AnyV.reprK {v : V} {d : PyData} {u : Value} (I : Inv X pins σ H s) (h : AnyV H v d) (r : RelV v u) :
    ∃ bs, (∀ b ∈ bs, ∃ o, H b = some o ∧ ∀ xs : List V, 2 ≤ xs.length → o ≠ .lst xs) ∧ ReprK X.prog X.w bs s.heap 1 u d.shown := by
  have nob : ∀ b ∈ ([] : List Addr), ∃ o, H b = some o ∧ ∀ xs : List V, 2 ≤ xs.length → o ≠ .lst xs := fun _ z => nomatch z
  cases h with
  | non => obtain rfl := r; exact ⟨[], nob, .of_is ReprIs.none _ _ _⟩
  | bl b => obtain rfl := r; exact ⟨[], nob, .of_is (ReprIs.bool b) _ _ _⟩
  | int i h => obtain ⟨t, rfl⟩ := r; exact ⟨[], nob, .of_is (ReprIs.int t (log2_of h)) _ _ _⟩
  | str x h =>
    obtain ⟨t, rfl⟩ := r
    exact ⟨[], nob, .of_is (ReprIs.str x t (by rw [sizeLine_eq]; omega)) _ _ _⟩
  | @tup a ns hn h =>
    obtain rfl := r
    obtain ⟨_, its, rv, o, h1, h2, n, h3⟩ := (show ObjOk X.prog X.w H s.heap a (.tup (ns.map V.int)) from I.hok a _ h)
    refine ⟨[a], fun b hb => ?_, ?_⟩
    · rw [List.mem_singleton.mp hb]
      exact ⟨_, h, fun xs _ z => nomatch z⟩
    · simp only [PyData.shown]
      exact ReprK.tuple h1 h2 h3 (fun z => nomatch z) (ints_reprAll ns _ (by rcases hn with rfl | rfl <;> decide) rv)
  | @lst a h =>
    obtain rfl := r
    obtain ⟨_, its, n, rv, h1⟩ := (show ObjOk X.prog X.w H s.heap a (.lst [.int 3]) from I.hok a _ h)
    refine ⟨[a], fun b hb => ?_, ?_⟩
    · rw [List.mem_singleton.mp hb]
      exact ⟨_, h, fun xs hx z => by injection z with z; subst z; exact absurd hx (by decide)⟩
    · have ra := ints_reprAll (h₀ := s.heap) (P := X.prog) (w := X.w) [3] its (by decide) rv
      cases rv with
      | cons r1 r2 =>
        simp only [PyData.shown]
        exact ReprK.list h1 rfl rfl (fun z => nomatch z) (by simpa using ra.length_eq) (fun i y e => ra.item i y (by simpa using e))
  | @dct a h =>
    obtain rfl := r
    obtain ⟨_, hs, vs, kv, o, es, ep, h1, h2, h3, h4⟩ := (show ObjOk X.prog X.w H s.heap a (.dK []) from I.hok a _ h)
    refine ⟨[a], fun b hb => ?_, ?_⟩
    · rw [List.mem_singleton.mp hb]
      exact ⟨_, h, fun xs _ z => nomatch z⟩
    · simp only [PyData.shown]
      have e0 : es.toList = [] := by
        cases kv
        obtain ⟨_, hp, _⟩ := h4
        cases hes : es.toList with
        | nil => rfl
        | cons x l =>
          rw [hes] at hp
          cases hp
      exact ReprK.dict h1 h2.1 h3 hs (fun z => nomatch z) (by rw [e0]; simp only [PyData.shownKv]; exact .nil)
theorem AnyAll.reprK (I : Inv X pins σ H s) : ∀ {vs : List V} {ds : List PyData} {us : List Value}, AnyAll H vs ds → Vals vs us →
    ∃ bs, (∀ b ∈ bs, ∃ o, H b = some o ∧ ∀ xs : List V, 2 ≤ xs.length → o ≠ .lst xs) ∧ ReprAllK X.prog X.w bs s.heap 1 us (PyData.shownAll ds)
  | _, _, _, .nil, .nil => ⟨[], (fun _ z => nomatch z), by simp only [PyData.shownAll]; exact .nil⟩
  | _, _, _, .cons h t, .cons r rs => by
    obtain ⟨b1, n1, k1⟩ := h.reprK I r
    obtain ⟨b2, n2, k2⟩ := AnyAll.reprK I t rs
    refine ⟨b1 ++ b2, fun b hb => ?_, ?_⟩
    · rcases List.mem_append.mp hb with z | z
      · exact n1 b z
      · exact n2 b z
    · simp only [PyData.shownAll]
      exact .cons (k1.more fun b z => List.mem_append_left _ z) (k2.more_le (fun b z => List.mem_append_right _ z) (Nat.le_refl _))
/-- repr(xs), xs a list of two or more of them -/
theorem call_reprL (hg : X.A.guards = some []) (hu : X.A.units + 64 < cLine) : CallR X (.builtin "repr") (fun xs H Q => ∃ (p : Addr) (vs : List V) (ds : List PyData), xs = [.ref p] ∧ H p = some (.lst vs) ∧ AnyAll H vs ds ∧ 2 ≤ vs.length ∧ ds.length ≤ 100 ∧
    Q (.str (PyData.list ds).shown) H) := by
  intro pins s σ H xs us Q I r h
  obtain ⟨p, vs, ds, rfl, hp, ha, h2, h1, q⟩ := h
  obtain ⟨u, rfl, r1⟩ := vals1 r
  obtain rfl := r1
  obtain ⟨_, its, n, rv, ho⟩ := (show ObjOk X.prog X.w H s.heap p (.lst vs) from I.hok p _ hp)
  obtain ⟨bs, nb, hk⟩ := ha.reprK I rv
  have hz := listText_most ha h1
  have np : p ∉ bs := fun z => by
    obtain ⟨o, e, no⟩ := nb p z
    rw [hp] at e
    exact no vs h2 (Option.some.inj e).symm
  have hlen := rv.length
  cases its with
  | nil => rw [hlen] at h2; exact absurd h2 (by decide)
  | cons x l =>
    refine call_repr_slot (T := "list") (idr := "list.__repr__") (by omega) ⟨_, ho, rfl⟩ PySem.F.slot_list_repr.toG ?_
    refine call_list_reprK (A := X.A.in1) (g := []) (as := bs) (d := 1) (ts := PyData.shownAll ds) ho rfl rfl np (by simpa using hk.length_eq) (fun i y e => hk.item i y (by simpa using e)) hg (fun b _ => Clear.nil b) (by show X.A.units + 1 + 2 < _; omega) (fun _ _ e => e) (fun h' u tk kp => ?_) hz
    exact ⟨_, _, rfl, .str (PyData.list ds).shown, H, I.kept (t' := tk) kp, ⟨u, by simp only [PyData.shown]⟩, q⟩
end
end XV

set_option Elab.async false
set_option linter.all false
set_option maxRecDepth 100000
set_option maxHeartbeats 8000000
/-! the program's text by places, and what the top has written -/
namespace Z
open PySem L2 XV
def top (i : Nat) : Stmt := PySem.Challenge.pw_leastjoined_k00_errors.main.body.getD i (.Pass ⟨0, 0, 0, 0⟩)
abbrev s_kept : Stmt := top 1
abbrev s_pen : Stmt := top 29
abbrev s_draw : Stmt := top 30
abbrev s_pick : Stmt := top 31
abbrev s_anything : Stmt := top 32
abbrev s_bypos : Stmt := top 33
abbrev s_byname : Stmt := top 34
abbrev s_made : Stmt := top 35
abbrev s_sorts : Stmt := top 36
abbrev s_law : Stmt := top 37
abbrev s_TooMany : Stmt := inClass (top 4) 0
abbrev s_BadCount : Stmt := inClass (top 5) 0
abbrev s_BadLength : Stmt := inClass (top 6) 0
abbrev s_NotFull : Stmt := inClass (top 7) 0
abbrev s_BadWord : Stmt := inClass (top 8) 0
abbrev s_Begins : Stmt := inClass (top 9) 0
abbrev s_OtherSize : Stmt := inClass (top 10) 0
abbrev s_BadSize : Stmt := inClass (top 11) 0
abbrev s_NoBorder : Stmt := inClass (top 12) 0
abbrev s_TooShort : Stmt := inClass (top 13) 0
abbrev s_TooLong : Stmt := inClass (top 14) 0
abbrev s_BadOver : Stmt := inClass (top 15) 0
abbrev s_BadTie : Stmt := inClass (top 16) 0
abbrev s_NotLeast : Stmt := inClass (top 17) 0
abbrev s_BadSign : Stmt := inClass (top 18) 0
abbrev s_BadRule : Stmt := inClass (top 19) 0
abbrev s_Ring : Stmt := inClass (top 20) 0
abbrev s_NoRule : Stmt := inClass (top 21) 0
abbrev s_BadPlace : Stmt := inClass (top 22) 0
abbrev s_BadBits : Stmt := inClass (top 23) 0
abbrev s_BadNode : Stmt := inClass (top 24) 0
abbrev s_BadTable : Stmt := inClass (top 25) 0
abbrev s_BadLooks : Stmt := inClass (top 26) 0
abbrev s_NoSigns : Stmt := inClass (top 27) 0
/-- where the defs and classes stand -/
structure Ad where
  a_kept : Addr
  d_kept : FuncData
  a_pen : Addr
  d_pen : FuncData
  a_draw : Addr
  d_draw : FuncData
  a_pick : Addr
  d_pick : FuncData
  a_anything : Addr
  d_anything : FuncData
  a_bypos : Addr
  d_bypos : FuncData
  a_byname : Addr
  d_byname : FuncData
  a_made : Addr
  d_made : FuncData
  a_sorts : Addr
  d_sorts : FuncData
  a_law : Addr
  d_law : FuncData
  cj : Addr
  c_TooMany : Addr
  i_TooMany : Addr
  d_TooMany : FuncData
  c_BadCount : Addr
  i_BadCount : Addr
  d_BadCount : FuncData
  c_BadLength : Addr
  i_BadLength : Addr
  d_BadLength : FuncData
  c_NotFull : Addr
  i_NotFull : Addr
  d_NotFull : FuncData
  c_BadWord : Addr
  i_BadWord : Addr
  d_BadWord : FuncData
  c_Begins : Addr
  i_Begins : Addr
  d_Begins : FuncData
  c_OtherSize : Addr
  i_OtherSize : Addr
  d_OtherSize : FuncData
  c_BadSize : Addr
  i_BadSize : Addr
  d_BadSize : FuncData
  c_NoBorder : Addr
  i_NoBorder : Addr
  d_NoBorder : FuncData
  c_TooShort : Addr
  i_TooShort : Addr
  d_TooShort : FuncData
  c_TooLong : Addr
  i_TooLong : Addr
  d_TooLong : FuncData
  c_BadOver : Addr
  i_BadOver : Addr
  d_BadOver : FuncData
  c_BadTie : Addr
  i_BadTie : Addr
  d_BadTie : FuncData
  c_NotLeast : Addr
  i_NotLeast : Addr
  d_NotLeast : FuncData
  c_BadSign : Addr
  i_BadSign : Addr
  d_BadSign : FuncData
  c_BadRule : Addr
  i_BadRule : Addr
  d_BadRule : FuncData
  c_Ring : Addr
  i_Ring : Addr
  d_Ring : FuncData
  c_NoRule : Addr
  i_NoRule : Addr
  d_NoRule : FuncData
  c_BadPlace : Addr
  i_BadPlace : Addr
  d_BadPlace : FuncData
  c_BadBits : Addr
  i_BadBits : Addr
  d_BadBits : FuncData
  c_BadNode : Addr
  i_BadNode : Addr
  d_BadNode : FuncData
  c_BadTable : Addr
  i_BadTable : Addr
  d_BadTable : FuncData
  c_BadLooks : Addr
  i_BadLooks : Addr
  d_BadLooks : FuncData
  c_NoSigns : Addr
  i_NoSigns : Addr
  d_NoSigns : FuncData
def Ad.cs (A : Ad) : List Addr := [A.c_TooMany, A.c_BadCount, A.c_BadLength, A.c_NotFull, A.c_BadWord, A.c_Begins, A.c_OtherSize, A.c_BadSize, A.c_NoBorder, A.c_TooShort, A.c_TooLong, A.c_BadOver, A.c_BadTie, A.c_NotLeast, A.c_BadSign, A.c_BadRule, A.c_Ring, A.c_NoRule, A.c_BadPlace, A.c_BadBits, A.c_BadNode, A.c_BadTable, A.c_BadLooks, A.c_NoSigns]
/-- what a class of the errors says -/
structure Ec (K : PySem.W.Frag) (mg : Str → Option Value) (cj C fI : Addr) (x qual : Str) (st : Stmt) (fd : FuncData) (fs : List Str) : Prop where
  E : ErrC K C fI
  R : ErrR K C
  F : Fun K "__init__" qual st fI fd
  g : mg x = some (.ref C)
  m : ∃ cd, PySem.W.clsIn K C = some cd ∧ cd.mro = [.ref C, .ref cj, .type "ValueError", .type "Exception", .type "BaseException", .type "object"]
  ty : PySem.W.typeIn K (.ref C) = some (.type "type")
  b : KBn K fd ("self" :: fs) (fs.length + 1) [] (fun us _ => us) (fun vs _ => vs)
  k : KBn K fd ("self" :: fs) 1 fs (fun us ws => us ++ ws) (fun vs zs => vs ++ zs)
  no : ∀ f ∈ fs, PySem.W.findIn K (.ref C) f = some none
structure Txt (K : PySem.W.Frag) (mg : Str → Option Value) (A : Ad) : Prop where
  F_kept : Fun K "kept" "kept" s_kept A.a_kept A.d_kept
  g_kept : mg "kept" = some (.ref A.a_kept)
  b_kept : Binds K A.d_kept ["value"] []
  F_pen : Fun K "_law_pen" "_law_pen" s_pen A.a_pen A.d_pen
  g_pen : mg "_law_pen" = some (.ref A.a_pen)
  b_pen : Binds K A.d_pen ["_law_script"] []
  F_draw : Fun K "_law_draw" "_law_draw" s_draw A.a_draw A.d_draw
  g_draw : mg "_law_draw" = some (.ref A.a_draw)
  b_draw : Binds K A.d_draw ["_law_pen_here", "_law_base"] []
  F_pick : Fun K "_law_pick" "_law_pick" s_pick A.a_pick A.d_pick
  g_pick : mg "_law_pick" = some (.ref A.a_pick)
  b_pick : Binds K A.d_pick ["_law_pen_here", "_law_some"] []
  F_anything : Fun K "_law_anything" "_law_anything" s_anything A.a_anything A.d_anything
  g_anything : mg "_law_anything" = some (.ref A.a_anything)
  b_anything : Binds K A.d_anything ["_law_pen_here"] []
  F_bypos : Fun K "_law_by_position" "_law_by_position" s_bypos A.a_bypos A.d_bypos
  g_bypos : mg "_law_by_position" = some (.ref A.a_bypos)
  b_bypos : Binds K A.d_bypos ["_law_a", "_law_b", "_law_c"] []
  F_byname : Fun K "_law_by_name" "_law_by_name" s_byname A.a_byname A.d_byname
  g_byname : mg "_law_by_name" = some (.ref A.a_byname)
  b_byname : Binds K A.d_byname ["_law_a", "_law_b", "_law_c"] []
  F_made : Fun K "_law_all_made" "_law_all_made" s_made A.a_made A.d_made
  g_made : mg "_law_all_made" = some (.ref A.a_made)
  b_made : Binds K A.d_made ["_law_a", "_law_b", "_law_c"] []
  F_sorts : Fun K "_law_sorts" "_law_sorts" s_sorts A.a_sorts A.d_sorts
  g_sorts : mg "_law_sorts" = some (.ref A.a_sorts)
  b_sorts : Binds K A.d_sorts ["_law_error"] []
  F_law : Fun K "law" "law" s_law A.a_law A.d_law
  g_law : mg "law" = some (.ref A.a_law)
  b_law : Binds K A.d_law ["_law_script"] []
  B : BaseC K A.cj
  gj : mg "JoinsError" = some (.ref A.cj)
  cj : (PySem.W.clsIn K A.cj).isSome = true
  tj : PySem.W.typeIn K (.ref A.cj) = some (.type "type")
  E_TooMany : Ec K mg A.cj A.c_TooMany A.i_TooMany "TooMany" "TooMany.__init__" s_TooMany A.d_TooMany ["what", "many", "most"]
  E_BadCount : Ec K mg A.cj A.c_BadCount A.i_BadCount "BadCount" "BadCount.__init__" s_BadCount A.d_BadCount ["index"]
  E_BadLength : Ec K mg A.cj A.c_BadLength A.i_BadLength "BadLength" "BadLength.__init__" s_BadLength A.d_BadLength ["index"]
  E_NotFull : Ec K mg A.cj A.c_NotFull A.i_NotFull "NotFull" "NotFull.__init__" s_NotFull A.d_NotFull []
  E_BadWord : Ec K mg A.cj A.c_BadWord A.i_BadWord "BadWord" "BadWord.__init__" s_BadWord A.d_BadWord ["index"]
  E_Begins : Ec K mg A.cj A.c_Begins A.i_Begins "Begins" "Begins.__init__" s_Begins A.d_Begins ["index", "other"]
  E_OtherSize : Ec K mg A.cj A.c_OtherSize A.i_OtherSize "OtherSize" "OtherSize.__init__" s_OtherSize A.d_OtherSize ["many", "wanted"]
  E_BadSize : Ec K mg A.cj A.c_BadSize A.i_BadSize "BadSize" "BadSize.__init__" s_BadSize A.d_BadSize ["size"]
  E_NoBorder : Ec K mg A.cj A.c_NoBorder A.i_NoBorder "NoBorder" "NoBorder.__init__" s_NoBorder A.d_NoBorder []
  E_TooShort : Ec K mg A.cj A.c_TooShort A.i_TooShort "TooShort" "TooShort.__init__" s_TooShort A.d_TooShort ["most", "least"]
  E_TooLong : Ec K mg A.cj A.c_TooLong A.i_TooLong "TooLong" "TooLong.__init__" s_TooLong A.d_TooLong ["sign"]
  E_BadOver : Ec K mg A.cj A.c_BadOver A.i_BadOver "BadOver" "BadOver.__init__" s_BadOver A.d_BadOver []
  E_BadTie : Ec K mg A.cj A.c_BadTie A.i_BadTie "BadTie" "BadTie.__init__" s_BadTie A.d_BadTie ["tie"]
  E_NotLeast : Ec K mg A.cj A.c_NotLeast A.i_NotLeast "NotLeast" "NotLeast.__init__" s_NotLeast A.d_NotLeast []
  E_BadSign : Ec K mg A.cj A.c_BadSign A.i_BadSign "BadSign" "BadSign.__init__" s_BadSign A.d_BadSign ["index"]
  E_BadRule : Ec K mg A.cj A.c_BadRule A.i_BadRule "BadRule" "BadRule.__init__" s_BadRule A.d_BadRule ["name"]
  E_Ring : Ec K mg A.cj A.c_Ring A.i_Ring "Ring" "Ring.__init__" s_Ring A.d_Ring ["name"]
  E_NoRule : Ec K mg A.cj A.c_NoRule A.i_NoRule "NoRule" "NoRule.__init__" s_NoRule A.d_NoRule ["root"]
  E_BadPlace : Ec K mg A.cj A.c_BadPlace A.i_BadPlace "BadPlace" "BadPlace.__init__" s_BadPlace A.d_BadPlace ["place"]
  E_BadBits : Ec K mg A.cj A.c_BadBits A.i_BadBits "BadBits" "BadBits.__init__" s_BadBits A.d_BadBits ["index"]
  E_BadNode : Ec K mg A.cj A.c_BadNode A.i_BadNode "BadNode" "BadNode.__init__" s_BadNode A.d_BadNode ["node"]
  E_BadTable : Ec K mg A.cj A.c_BadTable A.i_BadTable "BadTable" "BadTable.__init__" s_BadTable A.d_BadTable ["node"]
  E_BadLooks : Ec K mg A.cj A.c_BadLooks A.i_BadLooks "BadLooks" "BadLooks.__init__" s_BadLooks A.d_BadLooks ["looks"]
  E_NoSigns : Ec K mg A.cj A.c_NoSigns A.i_NoSigns "NoSigns" "NoSigns.__init__" s_NoSigns A.d_NoSigns []
  nd : (A.cj :: A.cs).Nodup
  z_int : mg "int" = none
  z_len : mg "len" = none
  z_abs : mg "abs" = none
  z_list : mg "list" = none
  z_tuple : mg "tuple" = none
  z_dict : mg "dict" = none
  z_isinstance : mg "isinstance" = none
  z_repr : mg "repr" = none
  z_range : mg "range" = none
  z_ValueError : mg "ValueError" = none
end Z

set_option Elab.async false
set_option linter.all false
set_option maxRecDepth 100000
set_option maxHeartbeats 8000000
/-! the draws -/
namespace Z
open PySem L2 XV
/-- all but what stands at d stays -/
def But (d : Addr) (H H' : Hp) : Prop := ∀ x o, x ≠ d → H x = some o → H' x = some o
theorem But.of {d : Addr} {H H' : Hp} (s : Same H H') : But d H H' := fun x o _ h => s x o h
theorem But.trans {d : Addr} {H H1 H2 : Hp} (a : But d H H1) (b : But d H1 H2) : But d H H2 := fun x o n h => b x o n (a x o n h)
theorem But.upd {d : Addr} {H H' : Hp} {o : HO} (a : But d H H') : But d H (upd H' d o) := fun x u n h => by rw [upd_ne n]; exact a x u n h
theorem But.new {d p : Addr} {H H' : Hp} {o : HO} (a : But d H H') (h : H' p = none) (hd : H' d ≠ none) : But d H (L2.upd H' p o) := fun x u n z => by
  have q := a x u n z
  rw [upd_ne (ne_of_none q h)]
  exact q
/-- the pen's dict -/
def penK (l : Addr) (k m : Int) : List (Key × V) := [(.inr "cells", .ref l), (.inr "opened", .int k), (.inr "left", .int m)]
theorem pen_merge (l : Addr) (k m : Int) : mergeK [] (penK l k m) = penK l k m := by kernel_rfl
theorem pen_c (l : Addr) (k m : Int) : valV (penK l k m) (Sum.inr "cells" : Key) = some (.ref l) := by kernel_rfl
theorem pen_o (l : Addr) (k m : Int) : valV (penK l k m) (Sum.inr "opened" : Key) = some (.int k) := by kernel_rfl
theorem pen_l (l : Addr) (k m : Int) : valV (penK l k m) (Sum.inr "left" : Key) = some (.int m) := by kernel_rfl
theorem put_o (l : Addr) (k m k' : Int) : putK (penK l k m) (Sum.inr "opened" : Key) (.int k') = penK l k' m := by kernel_rfl
theorem put_l (l : Addr) (k m m' : Int) : putK (penK l k m) (Sum.inr "left" : Key) (.int m') = penK l k m' := by kernel_rfl
/-- a pen at d: its cells, k of them opened, what is left -/
def Pen (H : Hp) (d : Addr) (k : Nat) : Prop := ∃ (l : Addr) (ns : List Int) (m : Int), H d = some (.dK (penK l (k : Int) m)) ∧ H l = some (.lst (ns.map V.int)) ∧ 0 ≤ m ∧ ns.length ≤ 63
theorem Pen.some {H : Hp} {d : Addr} {k : Nat} (h : Pen H d k) : ∃ l x, H d = some (.dK ((Sum.inr "cells", V.ref l) :: x)) := by
  obtain ⟨l, ns, m, h, _⟩ := h
  exact ⟨l, _, h⟩
theorem Pen.same {H H' : Hp} {d : Addr} {k : Nat} (h : Pen H d k) (s : Same H H') : Pen H' d k := by
  obtain ⟨l, ns, m, h1, h2, h3⟩ := h
  exact ⟨l, ns, m, s _ _ h1, s _ _ h2, h3⟩
theorem any_but {H H' : Hp} {v : V} {D : PyData} {d : Addr} {k : Nat} (h : AnyV H v D) (p : Pen H d k) (s : But d H H') : AnyV H' v D := by
  obtain ⟨l, x, e⟩ := p.some
  cases h with
  | non => exact .non
  | bl b => exact .bl b
  | int i h => exact .int i h
  | str x h => exact .str x h
  | tup ns hn h => exact .tup ns hn (s _ _ (ne_of h e (fun z => nomatch z)) h)
  | lst h => exact .lst (s _ _ (ne_of h e (fun z => nomatch z)) h)
  | dct h => exact .dct (s _ _ (ne_of h e (fun z => by injection z with z; cases z)) h)
theorem mul_l {i j : Int} (h1 : -(2 ^ 64) < i) (h2 : i < 2 ^ 64) : CMul i j := .inl ⟨h1, h2⟩
theorem mul_m {i j p : Int} (h : 0 < p) (hp : p ≤ 2 ^ 64) : CMul (i % p) j :=
  .inl ⟨Int.lt_of_lt_of_le (by decide) (Int.emod_nonneg _ (by omega)), Int.lt_of_lt_of_le (Int.emod_lt_of_pos _ h) hp⟩
theorem dp_ints {K : PySem.W.Frag} {H : Hp} : ∀ ns : List Int, DpAll K H (ns.map V.int) (ns.map PyData.int)
  | [] => .nil
  | n :: ns => .cons (.int n) (dp_ints ns)
theorem lay_ints : ∀ ns : List Int, PyData.canLayAll0 (ns.map PyData.int) = true ∧ PyData.depthAll (ns.map PyData.int) = 0
  | [] => by simp [PyData.canLayAll0, PyData.depthAll]
  | n :: ns => by
    obtain ⟨h1, h2⟩ := lay_ints ns
    simp [PyData.canLayAll0, PyData.canLay0, PyData.depthAll, PyData.depth, h1, h2]
theorem shaped_ints (ns : List Int) : SeqAt.shaped (.list (ns.map PyData.int)) = true := by
  obtain ⟨h1, h2⟩ := lay_ints ns
  simp [SeqAt.shaped, PyData.canLay0, PyData.depth, h1, h2]
theorem abs_nn (z : Int) : 0 ≤ (if z < 0 then -z else z) := by split <;> omega
/-! ### the promises -/
def spPen (K : PySem.W.Frag) : Sp := fun vs H Q _ => ∃ (a : Addr) (ns : List Int), vs = [.ref a] ∧ SqL K H a (ns.map V.int) ∧ ns.length ≤ 63 ∧ ∀ d H', Pen H' d 0 → Same H H' → H d = none → Q (.ref d) H'
def spDraw : Sp := fun vs H Q _ => ∃ (d : Addr) (b : Int) (k : Nat), vs = [.ref d, .int b] ∧ Pen H d k ∧ 0 < b ∧ b < 1000000 ∧ k ≤ 1000000 ∧ ∀ v H' k', 0 ≤ v → v < b → k' ≤ k + 1 → Pen H' d k' → But d H H' → Q (.int v) H'
def spPick : Sp := fun vs H Q _ => ∃ (d p : Addr) (xs : List V) (k : Nat), vs = [.ref d, .ref p] ∧ Pen H d k ∧ H p = some (.lst xs) ∧ 0 < xs.length ∧ xs.length < 1000 ∧ k ≤ 1000000 ∧
  ∀ v H' k', v ∈ xs → k' ≤ k + 1 → Pen H' d k' → But d H H' → Q v H'
def spAny : Sp := fun vs H Q _ => ∃ (d : Addr) (k : Nat), vs = [.ref d] ∧ Pen H d k ∧ k ≤ 1000 ∧ ∀ v D H' k', AnyV H' v D → k' ≤ k + 2 → Pen H' d k' → But d H H' → Q v H'
section
variable {P : Program} {w : World} {K : PySem.W.Frag} {mg : Str → Option Value} {base : Heap} {A : Ad}
theorem sc_pen : FnScope ["_law_script"] ["_law_script"] (defScope s_pen) := ⟨rfl, rfl, rfl, by decide +kernel, rfl, by decide +kernel, by decide +kernel⟩
theorem ok_pen (T : Txt K mg A) : FnOk P w K mg base CX0 1 A.a_pen A.d_pen ["_law_script"] (spPen K) := by
  refine T.F_pen.ok sc_pen (fun vs H Q E h => ?_) (fun cdv A outer s H vs Q E hr h => ?_)
  · obtain ⟨a, ns, rfl, _⟩ := h; rfl
  · obtain ⟨a, ns, rfl, hs, hl, k⟩ := h
    refine ⟨_, (pss_one (ps_ret (pe_disp (pps_cons pe_str (pe_callTy call_list_of (by rfl) T.z_list (by decide +kernel) (pa_cons (pe_slice sl_list (pv 0) po_none (po_some pe_int)) pa_nil)) (pps_cons pe_str pe_int (pps_cons pe_str pe_int pps_nil))) (by rfl) (by rfl) (fun z => by cases z) (by decide)))), ?_⟩
    intro p np
    have s1 : ∀ o, Same H (upd H p o) := fun o b u e => by rw [upd_ne (ne_of_none e np)]; exact e
    refine ⟨_, rfl, 63, rfl, a, _, rfl, (s1 _).seq hs, fun q nq => ⟨q, _, rfl, .inl (SqL.of upd_same), fun l nl => ?_⟩⟩
    have nqp : p ≠ q := ne_of_none upd_same nq
    have nlp : p ≠ l := by
      refine ne_of_none (H := upd (upd H p (.dK [])) q (.lst _)) (o := .dK []) ?_ nl
      rw [upd_ne nqp]; exact upd_same
    refine ⟨?_, penK l 0 0, rfl, (by show 3 ≤ 15; decide), ?_⟩
    · rw [upd_ne nlp, upd_ne nqp]; exact upd_same
    · rw [pen_merge]
      refine k p _ ⟨l, (ns.drop (HT.sIx (ns.map V.int).length 0 none)).take (HT.sIx (ns.map V.int).length (ns.map V.int).length (some 63) - HT.sIx (ns.map V.int).length 0 none), 0, upd_same, ?_, Int.le_refl 0, ?_⟩ ?_ np
      · rw [upd_ne nlp.symm, upd_same]
        unfold cutV
        rw [List.map_take, List.map_drop]
      · rw [List.length_take, List.length_drop]; omega
      · intro b u e
        have nb := ne_of_none e np
        have e1 : upd H p (.dK []) b = some u := by rw [upd_ne nb]; exact e
        have nbq := ne_of_none e1 nq
        have e2 : (upd (upd H p (.dK [])) q (.lst (cutV (ns.map V.int) none (some 63)))) b = some u := by rw [upd_ne nbq]; exact e1
        rw [upd_ne nb, upd_ne (ne_of_none e2 nl)]
        exact e2
theorem sc_draw : FnScope ["_law_pen_here", "_law_base", "_law_digit", "_law_k", "_law_told_cells", "_law_cell", "_law_mix"] ["_law_pen_here", "_law_base"] (defScope s_draw) := ⟨rfl, rfl, rfl, by decide +kernel, rfl, by decide +kernel, by decide +kernel⟩
theorem ok_draw (T : Txt K mg A) : FnOk P w K mg base CX0 1 A.a_draw A.d_draw ["_law_pen_here", "_law_base"] spDraw := by
  refine T.F_draw.ok sc_draw (fun vs H Q E h => ?_) (fun cdv A outer s H vs Q E hr h => ?_)
  · obtain ⟨d, b, k, rfl, _⟩ := h; rfl
  · obtain ⟨d, b, k, rfl, ⟨l, ns, m, hd, hc, hm, hn⟩, b0, b1, hk, kq⟩ := h
    have hu := hu_of hr
    have gL := pen_l l k m ▸ DGet.k (k := Sum.inr "left") hd
    have gO := pen_o l k m ▸ DGet.k (k := Sum.inr "opened") hd
    have gC := pen_c l k m ▸ DGet.k (k := Sum.inr "cells") hd
    have ndl : l ≠ d := ne_of hc hd (fun z => nomatch z)
    refine ⟨_, (pss_cons (ps_if (pt_cmpR op_gt (pe_dget hu (pv 0) pe_str (fun _ _ => rfl)) pe_int (nomark _)) (pss_cons (ps_set (i := 2) sc_draw.nd rfl (Or.inl rfl) (pe_op op_mod (pe_callTy call_int1 (by rfl) T.z_int (by decide +kernel) (pa_cons (pe_dget hu (pv 0) pe_str (fun _ _ => rfl)) pa_nil)) (pv 1)))
       (pss_cons (ps_dput hu (pv 0) pe_str (pe_op op_fdiv (pe_dget hu (pv 0) pe_str (fun _ _ => rfl)) (pv 1)) rfl)
       (pss_one (ps_ret (pv 2)))))
        pss_nil)
      (pss_cons (ps_par (i := 3) (j := 4) (by rfl) sc_draw.nd rfl rfl (by decide) rfl rfl (pa_cons (pe_dget hu (pv 0) pe_str (fun _ _ => rfl)) (pa_cons (pe_dget hu (pv 0) pe_str (fun _ _ => rfl)) pa_nil)) (by rfl))
      (pss_cons (ps_dput hu (pv 0) pe_str (pe_op op_add (pv 3) pe_int) rfl)
      (pss_cons (ps_if (pt_cmpR (op_eqD hr.units) (pv 4) (pe_lst pa_nil) (nomark _)) (pss_one (ps_ret (pe_op op_mod (pe_callTy call_int1 (by rfl) T.z_int (by decide +kernel) (pa_cons (pe_op op_add (pe_op op_mul pe_int (pv 3)) pe_int) pa_nil)) (pv 1))))
        pss_nil)
      (pss_cons (ps_set (i := 5) sc_draw.nd rfl (Or.inl rfl) (pe_ix ix_list (pv 4) (pe_op op_mod (pe_callTy call_int1 (by rfl) T.z_int (by decide +kernel) (pa_cons (pv 3) pa_nil)) (pe_callB call_len_seq (by rfl) T.z_len PySem.boot_len (pa_cons (pv 4) pa_nil))) (fun _ _ => rfl)))
      (pss_cons (ps_if (PW.pt (pw_and (pt_cmpR op_lt (pv 3) (pe_callB call_len_seq (by rfl) T.z_len PySem.boot_len (pa_cons (pv 4) pa_nil)) (nomark _)) (pw_and1 (pt_cmpR op_ge (pe_callB call_abs (by rfl) T.z_abs (by decide +kernel) (pa_cons (pv 5) pa_nil)) (pe_op op_pow pe_int pe_int) (nomark _))))) (pss_cons (ps_dput hu (pv 0) pe_str (pe_op op_fdiv (pe_op op_sub (pe_callB call_abs (by rfl) T.z_abs (by decide +kernel) (pa_cons (pv 5) pa_nil)) (pe_op op_pow pe_int pe_int)) (pv 1)) rfl)
       (pss_one (ps_ret (pe_op op_mod (pe_callTy call_int1 (by rfl) T.z_int (by decide +kernel) (pa_cons (pe_op op_sub (pe_callB call_abs (by rfl) T.z_abs (by decide +kernel) (pa_cons (pv 5) pa_nil)) (pe_op op_pow pe_int pe_int)) pa_nil)) (pv 1)))))
        pss_nil)
      (pss_cons (ps_set (i := 6) sc_draw.nd rfl (Or.inl rfl) (pe_op op_mod (pe_callTy call_int1 (by rfl) T.z_int (by decide +kernel) (pa_cons (pe_op op_add (pe_op op_add (pe_op op_add (pe_op op_mul (pe_op op_mod (pe_callTy call_int1 (by rfl) T.z_int (by decide +kernel) (pa_cons (pv 5) pa_nil)) pe_int) pe_int) (pe_op op_mul (pe_op op_mul pe_int (pv 3)) (pv 3))) (pe_op op_mul pe_int (pv 3))) pe_int) pa_nil)) pe_int))
      (pss_cons (ps_set (i := 6) sc_draw.nd rfl (Or.inl rfl) (pe_op op_mod (pe_callTy call_int1 (by rfl) T.z_int (by decide +kernel) (pa_cons (pe_op op_add (pe_op op_add (pe_op op_mul (pv 6) (pv 6)) (pe_op op_mul pe_int (pv 6))) (pe_op op_mul pe_int (pv 3))) pa_nil)) pe_int))
      (pss_one (ps_ret (pe_op op_mod (pe_callTy call_int1 (by rfl) T.z_int (by decide +kernel) (pa_cons (pe_op op_fdiv (pe_op op_mod (pe_callTy call_int1 (by rfl) T.z_int (by decide +kernel) (pa_cons (pe_op op_mul (pv 6) (pe_op op_add (pv 6) pe_int)) pa_nil)) pe_int) pe_int) pa_nil)) (pv 1)))))))))))), ?_⟩
    refine ⟨_, rfl, d, _, rfl, gL, _, _, rfl, rfl, _, rfl, ite2 (fun c => ?_) (fun c => ?_)⟩
    · refine ⟨_, rfl, d, _, rfl, gL, .inl ⟨_, rfl, _, rfl, _, _, rfl, rfl, b0, ?_⟩⟩
      refine ⟨_, rfl, d, _, rfl, gL, _, rfl, _, _, rfl, rfl, ⟨b0, by omega⟩, _, rfl, d, _, rfl, DPut.k (k := Sum.inr "left") hd (by show 3 < sizeLine; decide), _, rfl, ?_⟩
      refine kq _ _ k (Int.emod_nonneg _ (by omega)) (Int.emod_lt_of_pos _ b0) (by omega) ⟨l, ns, m / b, ?_, ?_, Int.ediv_nonneg hm (by omega), hn⟩ (But.upd (fun _ _ _ e => e))
      · rw [put_l]; exact upd_same
      · rw [upd_ne ndl]; exact hc
    · refine ⟨_, rfl, d, _, rfl, gO, _, rfl, d, _, rfl, gC, _, _, rfl, ?_⟩
      refine ⟨_, rfl, _, _, rfl, rfl, _, rfl, d, _, rfl, DPut.k (k := Sum.inr "opened") hd (by show 3 < sizeLine; decide), ?_⟩
      rw [put_o]
      have hd1 : upd H d (.dK (penK l ((k : Int) + 1) m)) d = some (.dK (penK l ((k : Int) + 1) m)) := upd_same
      have hc1 : upd H d (.dK (penK l ((k : Int) + 1) m)) l = some (.lst (ns.map V.int)) := by rw [upd_ne ndl]; exact hc
      have bt1 : But d H (upd H d (.dK (penK l ((k : Int) + 1) m))) := But.upd (fun _ _ _ e => e)
      generalize hH1 : upd H d (.dK (penK l ((k : Int) + 1) m)) = H1 at hd1 hc1 bt1 ⊢
      refine ⟨_, rfl, Nat.zero_le _, fun p np => ?_⟩
      have ndp := ne_of_none hd1 np
      have nlp := ne_of_none hc1 np
      have hd2 : upd H1 p (.lst []) d = some (.dK (penK l ((k : Int) + 1) m)) := by rw [upd_ne ndp]; exact hd1
      have hc2 : upd H1 p (.lst []) l = some (.lst (ns.map V.int)) := by rw [upd_ne nlp]; exact hc1
      have bt2 : But d H (upd H1 p (.lst [])) := But.new bt1 np (by rw [hd1]; exact fun z => nomatch z)
      have hp2 : upd H1 p (.lst []) p = some (.lst []) := upd_same
      generalize hH2 : upd H1 p (.lst []) = H2 at hd2 hc2 bt2 hp2 ⊢
      have pen2 : Pen H2 d (k + 1) := ⟨l, ns, m, hd2, hc2, hm, hn⟩
      refine ⟨.list (ns.map PyData.int), .list [], .lst (SqL.of hc2) (dp_ints ns), .lst (SqL.of hp2) .nil, shaped_ints ns, rfl, _, rfl, ite2 (fun c2 => ?_) (fun c2 => ?_)⟩
      · refine ⟨_, rfl, _, _, rfl, rfl, mul_l (by decide) (by decide), _, _, rfl, rfl, .inl ⟨_, rfl, _, rfl, _, _, rfl, rfl, b0, ?_⟩⟩
        exact kq _ _ (k + 1) (Int.emod_nonneg _ (by omega)) (Int.emod_lt_of_pos _ b0) (Nat.le_refl _) pen2 bt2
      · have hne : 0 < ns.length := by
          cases ns with
          | nil => exact absurd rfl c2
          | cons _ _ => exact Nat.succ_pos _
        have lz : (0 : Int) < ((ns.map V.int).length : Int) := by rw [List.length_map]; omega
        obtain ⟨j, hj⟩ : ∃ j : Nat, (k : Int) % ((ns.map V.int).length : Int) = (j : Int) := ⟨((k : Int) % ((ns.map V.int).length : Int)).toNat, (Int.toNat_of_nonneg (Int.emod_nonneg _ (by omega))).symm⟩
        have hjl : j < ns.length := by
          have := Int.emod_lt_of_pos (k : Int) lz
          rw [hj, List.length_map] at this
          omega
        have hcell : (ns.map V.int)[j]? = some (V.int ns[j]) := by rw [List.getElem?_map, List.getElem?_eq_getElem hjl]; rfl
        refine ⟨_, rfl, _, rfl, .inl ⟨_, rfl, _, rfl, l, _, rfl, .inl (SqL.of hc2), _, _, rfl, rfl, lz, ?_⟩⟩
        refine ⟨l, _, _, _, rfl, rfl, SqL.of hc2, at_of hj hcell, ?_⟩
        generalize ns[j] = z
        refine ⟨_, rfl, _, rfl, l, _, rfl, .inl (SqL.of hc2), _, _, rfl, rfl, _, rfl, ?_⟩
        refine ite2 (fun _ => ?_) (fun _ => ?_)
        · refine ⟨_, rfl, _, rfl, _, _, rfl, rfl, ⟨by decide, by decide, by decide⟩, _, _, rfl, rfl, _, rfl, ite2 (fun c3 => ?_) (fun _ => ?_)⟩
          · have c4 := of_decide_eq_true c3
            refine ⟨_, rfl, _, rfl, _, _, rfl, rfl, ⟨by decide, by decide, by decide⟩, _, _, rfl, rfl, _, rfl, _, _, rfl, rfl, ⟨b0, by omega⟩, _, rfl, d, _, rfl, DPut.k (k := Sum.inr "left") hd2 (by show 3 < sizeLine; decide), ?_⟩
            refine ⟨_, rfl, _, rfl, _, _, rfl, rfl, ⟨by decide, by decide, by decide⟩, _, _, rfl, rfl, .inl ⟨_, rfl, _, rfl, _, _, rfl, rfl, b0, ?_⟩⟩
            refine kq _ _ (k + 1) (Int.emod_nonneg _ (by omega)) (Int.emod_lt_of_pos _ b0) (Nat.le_refl _) ⟨l, ns, _, by rw [put_l]; exact upd_same, ?_, Int.ediv_nonneg (Int.sub_nonneg_of_le c4) (by omega), hn⟩ (But.upd bt2)
            rw [upd_ne ndl]; exact hc2
          · exact (by
            refine ⟨_, rfl, .inl ⟨_, rfl, _, _, rfl, rfl, (by decide : (0 : Int) < 4294965361), _, _, rfl, rfl, mul_m (by decide) (by decide), _, rfl, _, _, rfl, rfl, mul_l (by decide) (by decide), _, rfl, _, _, rfl, rfl, mul_l (by omega) (by omega), _, _, rfl, rfl, _, rfl, _, _, rfl, rfl, mul_l (by decide) (by decide), _, _, rfl, rfl, _, _, rfl, rfl, .inl ⟨_, rfl, _, _, rfl, rfl, (by decide : (0 : Int) < 4294965383), ?_⟩⟩⟩
            refine ⟨_, rfl, _, rfl, _, _, rfl, rfl, mul_m (by decide) (by decide), _, rfl, _, _, rfl, rfl, mul_l (by decide) (by decide), _, _, rfl, rfl, _, rfl, _, _, rfl, rfl, mul_l (by decide) (by decide), _, _, rfl, rfl, .inl ⟨_, rfl, _, _, rfl, rfl, (by decide : (0 : Int) < 4294965337), ?_⟩⟩
            refine ⟨_, rfl, _, rfl, _, _, rfl, rfl, _, _, rfl, rfl, mul_m (by decide) (by decide), .inl ⟨_, rfl, _, _, rfl, rfl, (by decide : (0 : Int) < 4294965313), _, _, rfl, rfl, ⟨by decide, by decide⟩, .inl ⟨_, rfl, _, rfl, _, _, rfl, rfl, b0, ?_⟩⟩⟩
            exact kq _ _ (k + 1) (Int.emod_nonneg _ (by omega)) (Int.emod_lt_of_pos _ b0) (Nat.le_refl _) pen2 bt2)
        · refine iteF ?_
          exact (by
            refine ⟨_, rfl, .inl ⟨_, rfl, _, _, rfl, rfl, (by decide : (0 : Int) < 4294965361), _, _, rfl, rfl, mul_m (by decide) (by decide), _, rfl, _, _, rfl, rfl, mul_l (by decide) (by decide), _, rfl, _, _, rfl, rfl, mul_l (by omega) (by omega), _, _, rfl, rfl, _, rfl, _, _, rfl, rfl, mul_l (by decide) (by decide), _, _, rfl, rfl, _, _, rfl, rfl, .inl ⟨_, rfl, _, _, rfl, rfl, (by decide : (0 : Int) < 4294965383), ?_⟩⟩⟩
            refine ⟨_, rfl, _, rfl, _, _, rfl, rfl, mul_m (by decide) (by decide), _, rfl, _, _, rfl, rfl, mul_l (by decide) (by decide), _, _, rfl, rfl, _, rfl, _, _, rfl, rfl, mul_l (by decide) (by decide), _, _, rfl, rfl, .inl ⟨_, rfl, _, _, rfl, rfl, (by decide : (0 : Int) < 4294965337), ?_⟩⟩
            refine ⟨_, rfl, _, rfl, _, _, rfl, rfl, _, _, rfl, rfl, mul_m (by decide) (by decide), .inl ⟨_, rfl, _, _, rfl, rfl, (by decide : (0 : Int) < 4294965313), _, _, rfl, rfl, ⟨by decide, by decide⟩, .inl ⟨_, rfl, _, rfl, _, _, rfl, rfl, b0, ?_⟩⟩⟩
            exact kq _ _ (k + 1) (Int.emod_nonneg _ (by omega)) (Int.emod_lt_of_pos _ b0) (Nat.le_refl _) pen2 bt2)
end
end Z

set_option Elab.async false
set_option linter.all false
set_option maxRecDepth 100000
set_option maxHeartbeats 8000000
/-! a thing is picked; kept -/
namespace Z
open PySem L2 XV
section
variable {P : Program} {w : World} {K : PySem.W.Frag} {mg : Str → Option Value} {base : Heap} {A : Ad}
theorem sc_pick : FnScope ["_law_pen_here", "_law_some"] ["_law_pen_here", "_law_some"] (defScope s_pick) := ⟨rfl, rfl, rfl, by decide +kernel, rfl, by decide +kernel, by decide +kernel⟩
theorem ok_pick (T : Txt K mg A) : FnOk P w K mg base CX0 2 A.a_pick A.d_pick ["_law_pen_here", "_law_some"] spPick := by
  have G_draw := ok_draw (P := P) (w := w) (base := base) T
  refine T.F_pick.ok sc_pick (fun vs H Q E h => ?_) (fun cdv A outer s H vs Q E hr h => ?_)
  · obtain ⟨d, p, xs, k, rfl, _⟩ := h; rfl
  · obtain ⟨d, p, xs, k, rfl, pen, hp, h0, h1, hk, kq⟩ := h
    refine ⟨_, (pss_one (ps_ret (pe_ix ix_list (pv 1) (pe_call G_draw (hr.mono (by decide)) (by rfl) T.g_draw T.F_draw.kp T.b_draw .nil pass0 (pa_cons (pv 0) (pa_cons (pe_callB call_len_seq (by rfl) T.z_len PySem.boot_len (pa_cons (pv 1) pa_nil)) pa_nil))) (fun _ _ => rfl)))), ?_⟩
    refine ⟨_, rfl, _, rfl, _, rfl, p, xs, rfl, .inl (SqL.of hp), d, _, k, rfl, pen, by omega, by omega, hk, fun v H' k' v0 v1 kk pen' bt => ?_⟩
    obtain ⟨l, x, e⟩ := pen.some
    have hp' : H' p = some (.lst xs) := bt _ _ (ne_of hp e (fun z => nomatch z)) hp
    have hv : v.toNat < xs.length := by omega
    refine ⟨p, xs, v, xs[v.toNat], rfl, rfl, SqL.of hp', at_of (Int.toNat_of_nonneg v0).symm (List.getElem?_eq_getElem hv), ?_⟩
    exact kq _ _ _ (List.getElem_mem hv) kk pen' bt
theorem sc_anything : FnScope ["_law_pen_here"] ["_law_pen_here"] (defScope s_anything) := ⟨rfl, rfl, rfl, by decide +kernel, rfl, by decide +kernel, by decide +kernel⟩
theorem ok_anything (T : Txt K mg A) : FnOk P w K mg base CX0 3 A.a_anything A.d_anything ["_law_pen_here"] spAny := by
  have G_draw := ok_draw (P := P) (w := w) (base := base) T
  have G_pick := ok_pick (P := P) (w := w) (base := base) T
  refine T.F_anything.ok sc_anything (fun vs H Q E h => ?_) (fun cdv A outer s H vs Q E hr h => ?_)
  · obtain ⟨d, k, rfl, _⟩ := h; rfl
  · obtain ⟨d, k, rfl, pen, hk, kq⟩ := h
    obtain ⟨l0, x0, e0⟩ := pen.some
    refine ⟨_, (pss_one (ps_ret (pe_call G_pick (hr.mono (by decide)) (by rfl) T.g_pick T.F_pick.kp T.b_pick .nil pass0 (pa_cons (pv 0) (pa_cons (pe_lst (pa_cons pe_non (pa_cons pe_bl (pa_cons pe_int (pa_cons pe_int (pa_cons (pe_un un_neg pe_int) (pa_cons (pe_op op_pow pe_int pe_int) (pa_cons pe_str (pa_cons pe_str (pa_cons (pe_tup pa_nil) (pa_cons (pe_tup (pa_cons pe_int (pa_cons pe_int pa_nil))) (pa_cons (pe_lst (pa_cons pe_int pa_nil)) (pa_cons pe_dnewK (pa_cons (pe_op op_add (pe_op op_pow pe_int pe_int) (pe_call G_draw (hr.mono (by decide)) (by rfl) T.g_draw T.F_draw.kp T.b_draw .nil pass0 (pa_cons (pv 0) (pa_cons pe_int pa_nil)))) pa_nil)))))))))))))) pa_nil))))), ?_⟩
    refine ⟨_, rfl, _, rfl, _, _, rfl, rfl, ⟨by decide, by decide, by decide⟩, (by show 0 ≤ sizeLine; decide), fun t0 ht0 => ⟨(by show 2 ≤ sizeLine; decide), fun t2 ht2 => ⟨(by show 1 ≤ sizeLine; decide), fun l3 hl3 => ?_⟩⟩⟩
    intro d0 hd0
    have s1 : Same H (upd H t0 (.tup [])) := fun b u e => by rw [upd_ne (ne_of_none e ht0)]; exact e
    have s2 : Same (upd H t0 (.tup [])) (upd (upd H t0 (.tup [])) t2 (.tup [.int 1, .int 2])) := fun b u e => by rw [upd_ne (ne_of_none e ht2)]; exact e
    have s3 : Same (upd (upd H t0 (.tup [])) t2 (.tup [.int 1, .int 2])) (upd (upd (upd H t0 (.tup [])) t2 (.tup [.int 1, .int 2])) l3 (.lst [.int 3])) := fun b u e => by rw [upd_ne (ne_of_none e hl3)]; exact e
    have a1 : AnyV (upd H t0 (.tup [])) (.ref t0) (.tuple []) := .tup [] (.inl rfl) upd_same
    have a2 : AnyV (upd (upd H t0 (.tup [])) t2 (.tup [.int 1, .int 2])) (.ref t2) (.tuple [.int 1, .int 2]) := .tup [1, 2] (.inr rfl) upd_same
    have a3 : AnyV (upd (upd (upd H t0 (.tup [])) t2 (.tup [.int 1, .int 2])) l3 (.lst [.int 3])) (.ref l3) (.list [.int 3]) := .lst upd_same
    have a1 := (a1.same s2).same s3
    have a2 := a2.same s3
    have pen3 := ((pen.same s1).same s2).same s3
    have b3 : But d H (upd (upd (upd H t0 (.tup [])) t2 (.tup [.int 1, .int 2])) l3 (.lst [.int 3])) := But.of ((s1.trans s2).trans s3)
    generalize (upd (upd (upd H t0 (.tup [])) t2 (.tup [.int 1, .int 2])) l3 (.lst [.int 3])) = H3 at hd0 a1 a2 a3 pen3 b3 ⊢
    have s4 : Same H3 (upd H3 d0 (.dK [])) := fun b u e => by rw [upd_ne (ne_of_none e hd0)]; exact e
    have a4 : AnyV (upd H3 d0 (.dK [])) (.ref d0) (.dict []) := .dct upd_same
    have a1 := a1.same s4
    have a2 := a2.same s4
    have a3 := a3.same s4
    have pen4 := pen3.same s4
    have b4 : But d H (upd H3 d0 (.dK [])) := b3.trans (But.of s4)
    refine ⟨_, _, rfl, rfl, ⟨by decide, by decide, by decide⟩, _, rfl, d, _, k, rfl, pen4, by decide, by decide, by omega, fun v H' k' v0 v1 kk pen' bt => ?_⟩
    have a1 := any_but a1 pen4 bt
    have a2 := any_but a2 pen4 bt
    have a3 := any_but a3 pen4 bt
    have a4 := any_but a4 pen4 bt
    refine ⟨_, _, rfl, rfl, (by show 13 ≤ sizeLine; decide), fun p np => ?_⟩
    have s5 : ∀ o, Same H' (upd H' p o) := fun o b u e => by rw [upd_ne (ne_of_none e np)]; exact e
    have pen5 := fun o => pen'.same (s5 o)
    refine ⟨d, p, _, k', rfl, pen5 _, upd_same, (by show 0 < 13; decide), (by show 13 < 1000; decide), by omega, fun x H'' k'' hx k2 pen'' bt2 => ?_⟩
    have go : ∃ D, AnyV (upd H' p (.lst [.non, .bl true, .int 0, .int 5, .int (-1), .int (10 ^ Int.toNat 30), .str "", .str "f", .ref t0, .ref t2, .ref l3, .ref d0, .int (10 ^ Int.toNat 9 + v)])) x D := by
      simp only [List.mem_cons, List.not_mem_nil, or_false] at hx
      rcases hx with rfl | rfl | rfl | rfl | rfl | rfl | rfl | rfl | rfl | rfl | rfl | rfl | rfl
      · exact ⟨_, .non⟩
      · exact ⟨_, .bl _⟩
      · exact ⟨_, .int _ (by decide +kernel)⟩
      · exact ⟨_, .int _ (by decide +kernel)⟩
      · exact ⟨_, .int _ (by decide +kernel)⟩
      · exact ⟨_, .int _ (by decide +kernel)⟩
      · exact ⟨_, .str _ (by decide +kernel)⟩
      · exact ⟨_, .str _ (by decide +kernel)⟩
      · exact ⟨_, a1.same (s5 _)⟩
      · exact ⟨_, a2.same (s5 _)⟩
      · exact ⟨_, a3.same (s5 _)⟩
      · exact ⟨_, a4.same (s5 _)⟩
      · exact ⟨_, .int _ (by
          have e9 : (10 : Int) ^ Int.toNat 9 = 1000000000 := by decide +kernel
          rw [e9]
          have : (1000000000 + v).natAbs < 1000000100 := by omega
          exact Nat.lt_of_lt_of_le this (Nat.le_of_ble_eq_true (by decide +kernel)))⟩
    obtain ⟨D, aD⟩ := go
    exact kq x D _ _ (any_but aD (pen5 _) bt2) (by omega) pen'' (((b4.trans bt).trans (But.of (s5 _))).trans bt2)
/-- kept: a flat value comes back as it is; full: any small thing as a copy -/
theorem yes_of {σ : L2.St} {H : Hp} {A B : Bool → Hp → Prop} (h : A true H) : tYes σ H (fun b H3 => if b = true then A b H3 else B b H3) := by
  unfold tYes
  show if true = true then A true H else B true H
  rw [if_pos rfl]
  exact h
def flat (v : V) : Prop := ∀ a, v ≠ .ref a
def spKept (full : Bool) : Sp := fun vs H Q _ => ∃ v D, vs = [v] ∧ AnyV H v D ∧ ((flat v ∧ Q v H) ∨ (full = true ∧ ∀ v' H', Same H H' → AnyV H' v' D → Q v' H'))
theorem any_ty {H : Hp} {v : V} {D : PyData} (h : AnyV H v D) (K : PySem.W.Frag) : ∃ t : String, TyX K H v (.type t) ∧ ((t ≠ "list" ∧ t ≠ "tuple" ∧ t ≠ "dict" ∧ flat v) ∨ ¬ flat v) := by
  cases h with
  | non => exact ⟨_, .base .non, .inl ⟨by decide, by decide, by decide, fun a z => nomatch z⟩⟩
  | bl b => exact ⟨_, .base (.bl b), .inl ⟨by decide, by decide, by decide, fun a z => nomatch z⟩⟩
  | int i h => exact ⟨_, .base (.int i), .inl ⟨by decide, by decide, by decide, fun a z => nomatch z⟩⟩
  | str x h => exact ⟨_, .base (.str x), .inl ⟨by decide, by decide, by decide, fun a z => nomatch z⟩⟩
  | tup ns hn h => exact ⟨_, .base (.tup h), .inr fun z => z _ rfl⟩
  | lst h => exact ⟨_, .base (.lst h), .inr fun z => z _ rfl⟩
  | dct h => exact ⟨_, .base (.dK h), .inr fun z => z _ rfl⟩
-- N ["value", "part", "key"] cells {'value'}
theorem sc_kept : FnScope ["value", "part", "key"] ["value"] (defScope s_kept) := ⟨rfl, rfl, rfl, by decide +kernel, rfl, by decide +kernel, by decide +kernel⟩
theorem ok_kept {k : Nat} {sp : Sp} (T : Txt K mg A) (full : Bool) (G_kept : FnOk P w K mg base CX0 k A.a_kept A.d_kept ["value"] sp) (hG : full = true → ∀ i H Q E, i.natAbs < 10 ^ 40 → Q (V.int i) H → sp [.int i] H Q E) :
    FnOk P w K mg base CX0 (k + 1) A.a_kept A.d_kept ["value"] (spKept full) := by
  refine T.F_kept.ok sc_kept (fun vs H Q E h => ?_) (fun cdv A outer s H vs Q E hr h => ?_)
  · obtain ⟨v, D, rfl, _⟩ := h; rfl
  · obtain ⟨v, D, rfl, hv, kq⟩ := h
    have hu : _ := hu_of hr
    refine ⟨_, (pss_cons (ps_if (pt_val (pe_callB call_isi (by rfl) T.z_isinstance (by decide +kernel) (pa_cons (pv 0) (pa_cons (pe_bltn (v := .ty "list") (by rfl) T.z_list (by decide +kernel) rfl) pa_nil)))) (pss_one (ps_ret (pe_lc (own := [("part", 1)]) (by rfl) sc_kept.nd (pi_list (pv 0)) (blkOk_by (own := [("part", 1)]) (N := ["value", "part", "key"]) (sc := defScope s_kept) (by decide +kernel)) (fun _ _ _ _ _ => (pg_name (i := 1) sc_kept.nd rfl (Or.inl rfl))) (fun _ _ _ _ _ => pts_nil) (fun _ _ _ _ _ => (pe_call G_kept hr (by rfl) T.g_kept T.F_kept.kp T.b_kept .nil pass0 (pa_cons (pv 1) pa_nil))))))
        pss_nil)
      (pss_cons (ps_if (pt_val (pe_callB call_isi (by rfl) T.z_isinstance (by decide +kernel) (pa_cons (pv 0) (pa_cons (pe_bltn (v := .ty "tuple") (by rfl) T.z_tuple (by decide +kernel) rfl) pa_nil)))) (pss_one (ps_ret (pe_callTy call_tuple_of (by rfl) T.z_tuple (by decide +kernel) (pa_cons (pe_lc (own := [("part", 1)]) (by rfl) sc_kept.nd (pi_tup (pv 0)) (blkOk_by (own := [("part", 1)]) (N := ["value", "part", "key"]) (sc := defScope s_kept) (by decide +kernel)) (fun _ _ _ _ _ => (pg_name (i := 1) sc_kept.nd rfl (Or.inl rfl))) (fun _ _ _ _ _ => pts_nil) (fun _ _ _ _ _ => (pe_call G_kept hr (by rfl) T.g_kept T.F_kept.kp T.b_kept .nil pass0 (pa_cons (pv 1) pa_nil)))) pa_nil))))
        pss_nil)
      (pss_cons (ps_if (pt_val (pe_callB call_isi (by rfl) T.z_isinstance (by decide +kernel) (pa_cons (pv 0) (pa_cons (pe_bltn (v := .ty "dict") (by rfl) T.z_dict (by decide +kernel) rfl) pa_nil)))) (pss_one (ps_ret (pe_lock (pe_dc (own := [("key", 2)]) (by rfl) sc_kept.nd (pi_keys (pv 0)) (blkOk_by (own := [("key", 2)]) (N := ["value", "part", "key"]) (sc := defScope s_kept) (by decide +kernel)) (fun _ _ _ _ _ => (pg_name (i := 2) sc_kept.nd rfl (Or.inl rfl))) (fun _ _ _ _ _ => pts_nil) (fun _ _ _ _ _ => (pv 2)) (fun _ _ _ _ _ => (pe_call G_kept hr (by rfl) T.g_kept T.F_kept.kp T.b_kept .nil pass0 (pa_cons (pe_dget hu (pv 0) (pv 2) (fun _ _ => rfl)) pa_nil)))))))
        pss_nil)
      (pss_one (ps_ret (pv 0)))))), ?_⟩
    cases hv with
    | non =>
      refine ⟨_, rfl, _, .ty "list", .type "NoneType", .type "list", false, rfl, .ty "list", .base (.non), kit_ty (by decide +kernel), false, rfl, iteF ?_⟩
      refine ⟨_, rfl, _, .ty "tuple", .type "NoneType", .type "tuple", false, rfl, .ty "tuple", .base (.non), kit_ty (by decide +kernel), false, rfl, iteF ?_⟩
      refine ⟨_, rfl, _, .ty "dict", .type "NoneType", .type "dict", false, rfl, .ty "dict", .base (.non), kit_ty (by decide +kernel), false, rfl, iteF ?_⟩
      refine ⟨_, rfl, ?_⟩
      rcases kq with ⟨_, q⟩ | ⟨_, q⟩
      · exact q
      · exact q _ _ (Same.refl _) (.non )
    | bl b =>
      refine ⟨_, rfl, _, .ty "list", .type "bool", .type "list", false, rfl, .ty "list", .base (.bl b), kit_ty (by decide +kernel), false, rfl, iteF ?_⟩
      refine ⟨_, rfl, _, .ty "tuple", .type "bool", .type "tuple", false, rfl, .ty "tuple", .base (.bl b), kit_ty (by decide +kernel), false, rfl, iteF ?_⟩
      refine ⟨_, rfl, _, .ty "dict", .type "bool", .type "dict", false, rfl, .ty "dict", .base (.bl b), kit_ty (by decide +kernel), false, rfl, iteF ?_⟩
      refine ⟨_, rfl, ?_⟩
      rcases kq with ⟨_, q⟩ | ⟨_, q⟩
      · exact q
      · exact q _ _ (Same.refl _) (.bl b)
    | int i hi =>
      refine ⟨_, rfl, _, .ty "list", .type "int", .type "list", false, rfl, .ty "list", .base (.int i), kit_ty (by decide +kernel), false, rfl, iteF ?_⟩
      refine ⟨_, rfl, _, .ty "tuple", .type "int", .type "tuple", false, rfl, .ty "tuple", .base (.int i), kit_ty (by decide +kernel), false, rfl, iteF ?_⟩
      refine ⟨_, rfl, _, .ty "dict", .type "int", .type "dict", false, rfl, .ty "dict", .base (.int i), kit_ty (by decide +kernel), false, rfl, iteF ?_⟩
      refine ⟨_, rfl, ?_⟩
      rcases kq with ⟨_, q⟩ | ⟨_, q⟩
      · exact q
      · exact q _ _ (Same.refl _) (.int i hi)
    | str x hx =>
      refine ⟨_, rfl, _, .ty "list", .type "str", .type "list", false, rfl, .ty "list", .base (.str x), kit_ty (by decide +kernel), false, rfl, iteF ?_⟩
      refine ⟨_, rfl, _, .ty "tuple", .type "str", .type "tuple", false, rfl, .ty "tuple", .base (.str x), kit_ty (by decide +kernel), false, rfl, iteF ?_⟩
      refine ⟨_, rfl, _, .ty "dict", .type "str", .type "dict", false, rfl, .ty "dict", .base (.str x), kit_ty (by decide +kernel), false, rfl, iteF ?_⟩
      refine ⟨_, rfl, ?_⟩
      rcases kq with ⟨_, q⟩ | ⟨_, q⟩
      · exact q
      · exact q _ _ (Same.refl _) (.str x hx)
    | @lst a ha =>
      refine ⟨_, rfl, _, .ty "list", .type "list", .type "list", true, rfl, .ty "list", .base (.lst ha), kit_ty (by decide +kernel), true, rfl, iteT ?_⟩
      rcases kq with ⟨z, _⟩ | ⟨full1, kq⟩
      · exact absurd rfl (z a)
      refine ⟨_, rfl, a, rfl, ⟨_, SqL.of ha⟩, fun D nD => ?_⟩
      refine lc_list (K := K) (a := a) (xs := [V.int 3]) (fun i H' => Same H H' ∧ H' D = some (.lst ((([3] : List Int).take i).map V.int))) ⟨fun b u e => by rw [upd_ne (ne_of_none e nD)]; exact e, upd_same⟩ (fun i H' _ q => q.1.seq (SqL.of ha)) ?_ ?_
      · rintro i x H' hx ⟨s1, hD⟩
        have hi : i = 0 ∧ x = .int 3 := by
          cases i with
          | zero => exact ⟨rfl, (Option.some.inj hx).symm⟩
          | succ i => simp at hx
        obtain ⟨rfl, rfl⟩ := hi
        refine ⟨rfl, ?_⟩
        refine yes_of ?_
        refine ⟨_, rfl, hG full1 3 H' _ _ (by decide +kernel) ?_⟩
        exact ⟨[], hD, by decide, fun b u e => by rw [upd_ne (ne_of_none e nD)]; exact s1 b u e, upd_same⟩
      · rintro H' ⟨s1, hD⟩
        exact kq _ _ s1 (.lst hD)
    | @tup a ns hn ha =>
      refine ⟨_, rfl, _, .ty "list", .type "tuple", .type "list", false, rfl, .ty "list", .base (.tup ha), kit_ty (by decide +kernel), false, rfl, iteF ?_⟩
      refine ⟨_, rfl, _, .ty "tuple", .type "tuple", .type "tuple", true, rfl, .ty "tuple", .base (.tup ha), kit_ty (by decide +kernel), true, rfl, iteT ?_⟩
      rcases kq with ⟨z, _⟩ | ⟨full1, kq⟩
      · exact absurd rfl (z a)
      refine ⟨_, rfl, a, rfl, ⟨_, SqT.of ha⟩, fun D nD => ?_⟩
      refine lc_tup (K := K) (a := a) (xs := ns.map V.int) (fun i H' => Same H H' ∧ H' D = some (.lst ((ns.take i).map V.int))) ⟨fun b u e => by rw [upd_ne (ne_of_none e nD)]; exact e, upd_same⟩ (fun i H' _ q => .inl (.inl (q.1 _ _ ha))) ?_ ?_
      · rintro i x H' hx ⟨s1, hD⟩
        obtain ⟨z, hz, rfl⟩ : ∃ z, ns[i]? = some z ∧ x = V.int z := by
          rw [List.getElem?_map] at hx
          cases e : ns[i]? with
          | none => rw [e] at hx; cases hx
          | some z => rw [e] at hx; exact ⟨z, rfl, (Option.some.inj hx).symm⟩
        have zb : z.natAbs < 10 ^ 40 := by
          have := List.mem_of_getElem? hz
          rcases hn with rfl | rfl
          · cases this
          · simp only [List.mem_cons, List.not_mem_nil, or_false] at this
            rcases this with rfl | rfl <;> decide +kernel
        refine ⟨rfl, ?_⟩
        refine yes_of ?_
        refine ⟨_, rfl, hG full1 z H' _ _ zb ?_⟩
        refine ⟨_, hD, ?_, fun b u e => by rw [upd_ne (ne_of_none e nD)]; exact s1 b u e, ?_⟩
        · have : ((ns.take i).map V.int).length ≤ 2 := by
            rw [List.length_map, List.length_take]
            rcases hn with rfl | rfl
            · exact Nat.le_trans (Nat.min_le_right _ _) (by decide)
            · exact Nat.le_trans (Nat.min_le_right _ _) (by decide)
          rw [sizeLine_eq]; omega
        · have e : ns.take (i + 1) = ns.take i ++ [z] := by
            rw [List.take_add_one, hz]; rfl
          rw [e, List.map_append]
          exact upd_same
      · rintro H' ⟨s1, hD⟩
        rw [List.length_map, List.take_length] at hD
        refine ⟨D, _, rfl, .inl ⟨SqL.of hD, fun l nl => ?_⟩⟩
        exact kq _ _ (s1.trans fun b u e => by rw [upd_ne (ne_of_none e nl)]; exact e) (.tup ns hn upd_same)
    | @dct a ha =>
      refine ⟨_, rfl, _, .ty "list", .type "dict", .type "list", false, rfl, .ty "list", .base (.dK ha), kit_ty (by decide +kernel), false, rfl, iteF ?_⟩
      refine ⟨_, rfl, _, .ty "tuple", .type "dict", .type "tuple", false, rfl, .ty "tuple", .base (.dK ha), kit_ty (by decide +kernel), false, rfl, iteF ?_⟩
      refine ⟨_, rfl, _, .ty "dict", .type "dict", .type "dict", true, rfl, .ty "dict", .base (.dK ha), kit_ty (by decide +kernel), true, rfl, iteT ?_⟩
      rcases kq with ⟨z, _⟩ | ⟨full1, kq⟩
      · exact absurd rfl (z a)
      refine ⟨a, .dK [], ha, trivial, fun od => ?_⟩
      refine ⟨_, rfl, a, od, rfl, .inl ⟨[], upd_same, fun D nD => ?_⟩⟩
      have naD : a ≠ D := ne_of_none upd_same nD
      refine ⟨fun i _ H' => i = 0 ∧ H' = upd (upd H a (.frz od (.dK []))) D (.dK []), ⟨0, rfl, rfl⟩, fun i m H' w => .inl ?_⟩
      obtain ⟨rfl, rfl⟩ := w
      have fz : upd (upd H a (.frz od (.dK []))) D (.dK []) a = some (.frz od (.dK [])) := by rw [upd_ne naD]; exact upd_same
      refine ⟨⟨fz, Nat.le_refl _⟩, fz, ?_⟩
      refine kq _ _ (fun b u e => ?_) (.dct (by rw [upd_ne naD.symm]; exact upd_same))
      by_cases hb : b = a
      · subst hb; rw [upd_same]; rw [ha] at e; exact e
      · have e2 : upd H a (.frz od (.dK [])) b = some u := by rw [upd_ne hb]; exact e
        rw [upd_ne hb, upd_ne (ne_of_none e2 nD)]
        exact e2
end
end Z

set_option Elab.async false
set_option linter.all false
set_option maxRecDepth 100000
set_option maxHeartbeats 8000000
/-! the errors' own __init__, and what an error that is made holds -/
namespace Z
open PySem L2 XV
theorem any_upd {H : Hp} {v : V} {d : PyData} {x : Addr} {o : HO} (h : AnyV H v d) (n : H x = none ∨ ∃ φ, H x = some (.ext φ)) : AnyV (upd H x o) v d := by
  have ne : ∀ {a : Addr} {u : HO}, H a = some u → (∀ φ, u ≠ .ext φ) → a ≠ x := fun {a u} e nu z => by
    subst z
    rcases n with n | ⟨φ, n⟩
    · rw [n] at e; cases e
    · rw [n] at e; exact nu φ (Option.some.inj e).symm
  cases h with
  | non => exact .non
  | bl b => exact .bl b
  | int i h => exact .int i h
  | str y h => exact .str y h
  | tup ns hn h => exact .tup ns hn (by rw [upd_ne (ne h fun φ z => nomatch z)]; exact h)
  | lst h => exact .lst (by rw [upd_ne (ne h fun φ z => nomatch z)]; exact h)
  | dct h => exact .dct (by rw [upd_ne (ne h fun φ z => nomatch z)]; exact h)
theorem all_upd {H : Hp} {x : Addr} {o : HO} (n : H x = none ∨ ∃ φ, H x = some (.ext φ)) : ∀ {vs : List V} {ds : List PyData}, AnyAll H vs ds → AnyAll (upd H x o) vs ds
  | _, _, .nil => .nil
  | _, _, .cons h t => .cons (any_upd h n) (all_upd n t)
theorem all_mono {H H' : Hp} (k : ∀ v d, AnyV H v d → AnyV H' v d) : ∀ {vs : List V} {ds : List PyData}, AnyAll H vs ds → AnyAll H' vs ds
  | _, _, .nil => .nil
  | _, _, .cons h t => .cons (k _ _ h) (all_mono k t)
theorem all_at {H : Hp} : ∀ {vs : List V} {ds : List PyData} {i : Nat} {d : PyData}, AnyAll H vs ds → ds[i]? = some d → ∃ v, vs[i]? = some v ∧ AnyV H v d
  | _, _, _, _, .nil, e => by cases e
  | _, _, 0, _, .cons h _, e => ⟨_, rfl, Option.some.inj e ▸ h⟩
  | _, _, i + 1, _, .cons _ t, e => all_at (i := i) t e
theorem all_len {H : Hp} : ∀ {vs : List V} {ds : List PyData}, AnyAll H vs ds → vs.length = ds.length
  | _, _, .nil => rfl
  | _, _, .cons _ t => congrArg Nat.succ (all_len t)
theorem look_no {f : Str} : ∀ (fs : List Str) (ws : List V), f ∉ fs → ((fs.zip ws).reverse).lookup f = none
  | [], _, _ => by simp
  | _ :: _, [], _ => by simp
  | g :: fs, w :: ws, h => by
    have ih := look_no fs ws (fun z => h (List.mem_cons_of_mem _ z))
    have ng : (f == g) = false := by
      refine beq_eq_false_iff_ne.mpr fun z => h ?_
      rw [z]; exact List.mem_cons_self
    rw [List.zip_cons_cons, List.reverse_cons, List.lookup_append, ih]
    simp [List.lookup, ng]
theorem look_at {f : Str} {w : V} : ∀ (fs : List Str) (ws : List V) (i : Nat), fs.Nodup → fs[i]? = some f → ws[i]? = some w → ((fs.zip ws).reverse).lookup f = some w
  | [], _, _, _, e, _ => by cases e
  | _ :: _, [], _, _, _, e => by cases e
  | g :: fs, v :: ws, 0, nd, e1, e2 => by
    obtain rfl := Option.some.inj e1
    obtain rfl := Option.some.inj e2
    rw [List.zip_cons_cons, List.reverse_cons, List.lookup_append, look_no fs ws (List.nodup_cons.mp nd).1]
    simp [List.lookup]
  | g :: fs, v :: ws, i + 1, nd, e1, e2 => by
    rw [List.zip_cons_cons, List.reverse_cons, List.lookup_append, look_at fs ws i (List.nodup_cons.mp nd).2 e1 e2]
    rfl
/-- an error's __init__: copies of what it is given in its fields -/
def spInit (C : Addr) (fs : List Str) : Sp := fun vs H Q _ => ∃ (a : Addr) (us : List V) (ds : List PyData), vs = .ref a :: us ∧ us.length = fs.length ∧ H a = some (exo a C none) ∧ AnyAll H us ds ∧
  ∀ (ws : List V) (H' : Hp), AnyAll H' ws ds → ErrAt H' a C ((fs.zip ws).reverse) → But a H H' → Q .non H'
/-- the error at a, being made: gs are stored -/
def Mkg (H0 H : Hp) (a C : Addr) (gs : List (Str × V)) : Prop := But a H0 H ∧ ((gs = [] ∧ H a = some (exo a C none)) ∨ ∃ dx, H0 dx = none ∧ dx ≠ a ∧ H a = some (exo a C (some dx)) ∧ H dx = some (exd dx gs))
theorem Mkg.err {H0 H : Hp} {a C : Addr} {gs : List (Str × V)} (m : Mkg H0 H a C gs) : ErrAt H a C gs := by
  rcases m.2 with ⟨e, h⟩ | ⟨dx, _, _, h1, h2⟩
  · exact .inl ⟨e, h⟩
  · exact .inr ⟨dx, h1, h2⟩
section
variable {K : PySem.W.Frag} {C a : Addr} {f : Str} {σ : L2.St} {H0 H : Hp} {D : Ends} {i : Nat} {u : V} {d : PyData} {gs : List (Str × V)}
/-- self.f = kept(u) -/
theorem fld_step (T : OexC K C) (no : PySem.W.findIn K (.ref C) f = some none) (h0 : σ[0]? = some (some (.ref a))) (hi : σ[i]? = some (some u)) (au : AnyV H u d) (m : Mkg H0 H a C gs) (hl : gs.length ≤ 900)
    (q : ∀ w H', AnyV H' w d → Mkg H0 H' a C ((f, w) :: gs) → (∀ v e, AnyV H v e → AnyV H' v e) → D.nx σ H') :
    tOst K f (tVar 0) (tCall (spKept true) [] E0 (tCons (tVar i) tNil)) D σ H := by
  refine ⟨_, hi, u, d, rfl, au, .inr ⟨rfl, fun w H1 s1 aw => ?_⟩⟩
  refine ⟨_, h0, a, C, rfl, T, no, ?_⟩
  rcases m with ⟨bt, ⟨rfl, ha⟩ | ⟨dx, n0, nx, ha, hd⟩⟩
  · refine .inl ⟨s1 _ _ ha, fun dx nx ne => ?_⟩
    have e1 : upd H1 dx (exd dx [(f, w)]) a = some (exo a C none) := by rw [upd_ne ne.symm]; exact s1 _ _ ha
    refine q w _ (any_upd (any_upd aw (.inl nx)) (.inr ⟨_, e1⟩)) ⟨fun b o nb e => ?_, .inr ⟨dx, ?_, ne, upd_same, ?_⟩⟩ fun v e h => any_upd (any_upd (h.same s1) (.inl nx)) (.inr ⟨_, e1⟩)
    · have e2 := s1 _ _ (bt b o nb e)
      rw [upd_ne nb, upd_ne (ne_of_none e2 nx)]; exact e2
    · cases e : H0 dx with
      | none => rfl
      | some o => rw [s1 _ _ (bt dx o ne e)] at nx; cases nx
    · rw [upd_ne ne]; exact upd_same
  · have hd1 := s1 _ _ hd
    refine .inr ⟨dx, gs, s1 _ _ ha, hd1, hl, ?_⟩
    refine q w _ (any_upd aw (.inr ⟨_, hd1⟩)) ⟨fun b o nb e => ?_, .inr ⟨dx, n0, nx, ?_, upd_same⟩⟩ fun v e h => any_upd (h.same s1) (.inr ⟨_, hd1⟩)
    · rw [upd_ne (ne_of_none e n0)]; exact s1 _ _ (bt b o nb e)
    · rw [upd_ne nx.symm]; exact s1 _ _ ha
/-- Base.__init__(self, text) -/
theorem base_step {tx : Str} (T : OexC K C) (h0 : σ[0]? = some (some (.ref a))) (ha : H a = some (exo a C none)) (q : D.nx σ H) : tDrop (tVeI K (tCons (tVar 0) (tCons (tC (.str tx)) tNil))) D σ H :=
  ⟨_, h0, a, C, _, rfl, (by show 1 ≤ 1000; decide), T, ha, q⟩
end
section
variable {P : Program} {w : World} {K : PySem.W.Frag} {mg : Str → Option Value} {base : Heap} {A : Ad}
theorem ok_none {f : Addr} {fd : FuncData} {ps : List Str} : FnOk P w K mg base CX0 0 f fd ps (fun _ _ _ _ => False) := ⟨fun _ _ _ _ h => h.elim, fun _ _ _ _ _ _ _ _ _ _ _ _ _ h => h.elim⟩
theorem ok_kept2 (T : Txt K mg A) : FnOk P w K mg base CX0 2 A.a_kept A.d_kept ["value"] (spKept true) :=
  ok_kept T true (ok_kept (k := 0) T false ok_none (fun z => nomatch z)) fun _ i H Q E hi q => ⟨_, _, rfl, .int i hi, .inl ⟨fun a z => (nomatch z), q⟩⟩
theorem sc_TooMany : FnScope ["self", "what", "many", "most"] ["self", "what", "many", "most"] (defScope s_TooMany) := ⟨rfl, rfl, rfl, by decide +kernel, rfl, by decide +kernel, by decide +kernel⟩
theorem ok_TooMany (T : Txt K mg A) : FnOk P w K mg base CX0 3 A.i_TooMany A.d_TooMany ["self", "what", "many", "most"] (spInit A.c_TooMany ["what", "many", "most"]) := by
  have G_kept := ok_kept2 (P := P) (w := w) (base := base) T
  refine T.E_TooMany.F.ok sc_TooMany (fun vs H Q E h => ?_) (fun cdv A' outer s H vs Q E hr h => ?_)
  · obtain ⟨a, us, ds, rfl, hl, _⟩ := h; exact congrArg Nat.succ hl
  · obtain ⟨a, us, ds, rfl, hl, ha, hA, k⟩ := h
    have hr2 : Room 2 _ := hr
    match us, ds, hl, hA with
    | [u0, u1, u2], _, _, .cons h0 (.cons h1 (.cons h2 .nil)) =>
      refine ⟨_, (pss_cons (ps_expr (pe_binit T.B (by rfl) T.gj (pa_cons (pv 0) (pa_cons pe_str pa_nil)))) (pss_cons (ps_ost (pv 0) (pe_call G_kept hr2 (by rfl) T.g_kept T.F_kept.kp T.b_kept .nil pass0 (pa_cons (pv 1) pa_nil))) (pss_cons (ps_ost (pv 0) (pe_call G_kept hr2 (by rfl) T.g_kept T.F_kept.kp T.b_kept .nil pass0 (pa_cons (pv 2) pa_nil))) (pss_one (ps_ost (pv 0) (pe_call G_kept hr2 (by rfl) T.g_kept T.F_kept.kp T.b_kept .nil pass0 (pa_cons (pv 3) pa_nil))))))), ?_⟩
      refine base_step T.E_TooMany.E.T rfl ha ?_
      refine fld_step (i := 1) T.E_TooMany.E.T (T.E_TooMany.no "what" (by decide +kernel)) rfl rfl h0 (⟨fun _ _ _ e => e, .inl ⟨rfl, ha⟩⟩ : Mkg H H a A.c_TooMany []) (by show 0 ≤ 900; decide) fun w0 H0 a0 m0 p0 => ?_
      refine fld_step (i := 2) T.E_TooMany.E.T (T.E_TooMany.no "many" (by decide +kernel)) rfl rfl (p0 _ _ h1) m0 (by show 1 ≤ 900; decide) fun w1 H1 a1 m1 p1 => ?_
      refine fld_step (i := 3) T.E_TooMany.E.T (T.E_TooMany.no "most" (by decide +kernel)) rfl rfl (p1 _ _ (p0 _ _ h2)) m1 (by show 2 ≤ 900; decide) fun w2 H2 a2 m2 p2 => ?_
      exact k [w0, w1, w2] H2 (.cons (p2 _ _ (p1 _ _ a0)) (.cons (p2 _ _ a1) (.cons a2 .nil))) m2.err m2.1
theorem sc_BadCount : FnScope ["self", "index"] ["self", "index"] (defScope s_BadCount) := ⟨rfl, rfl, rfl, by decide +kernel, rfl, by decide +kernel, by decide +kernel⟩
theorem ok_BadCount (T : Txt K mg A) : FnOk P w K mg base CX0 3 A.i_BadCount A.d_BadCount ["self", "index"] (spInit A.c_BadCount ["index"]) := by
  have G_kept := ok_kept2 (P := P) (w := w) (base := base) T
  refine T.E_BadCount.F.ok sc_BadCount (fun vs H Q E h => ?_) (fun cdv A' outer s H vs Q E hr h => ?_)
  · obtain ⟨a, us, ds, rfl, hl, _⟩ := h; exact congrArg Nat.succ hl
  · obtain ⟨a, us, ds, rfl, hl, ha, hA, k⟩ := h
    have hr2 : Room 2 _ := hr
    match us, ds, hl, hA with
    | [u0], _, _, .cons h0 .nil =>
      refine ⟨_, (pss_cons (ps_expr (pe_binit T.B (by rfl) T.gj (pa_cons (pv 0) (pa_cons pe_str pa_nil)))) (pss_one (ps_ost (pv 0) (pe_call G_kept hr2 (by rfl) T.g_kept T.F_kept.kp T.b_kept .nil pass0 (pa_cons (pv 1) pa_nil))))), ?_⟩
      refine base_step T.E_BadCount.E.T rfl ha ?_
      refine fld_step (i := 1) T.E_BadCount.E.T (T.E_BadCount.no "index" (by decide +kernel)) rfl rfl h0 (⟨fun _ _ _ e => e, .inl ⟨rfl, ha⟩⟩ : Mkg H H a A.c_BadCount []) (by show 0 ≤ 900; decide) fun w0 H0 a0 m0 p0 => ?_
      exact k [w0] H0 (.cons a0 .nil) m0.err m0.1
theorem sc_BadLength : FnScope ["self", "index"] ["self", "index"] (defScope s_BadLength) := ⟨rfl, rfl, rfl, by decide +kernel, rfl, by decide +kernel, by decide +kernel⟩
theorem ok_BadLength (T : Txt K mg A) : FnOk P w K mg base CX0 3 A.i_BadLength A.d_BadLength ["self", "index"] (spInit A.c_BadLength ["index"]) := by
  have G_kept := ok_kept2 (P := P) (w := w) (base := base) T
  refine T.E_BadLength.F.ok sc_BadLength (fun vs H Q E h => ?_) (fun cdv A' outer s H vs Q E hr h => ?_)
  · obtain ⟨a, us, ds, rfl, hl, _⟩ := h; exact congrArg Nat.succ hl
  · obtain ⟨a, us, ds, rfl, hl, ha, hA, k⟩ := h
    have hr2 : Room 2 _ := hr
    match us, ds, hl, hA with
    | [u0], _, _, .cons h0 .nil =>
      refine ⟨_, (pss_cons (ps_expr (pe_binit T.B (by rfl) T.gj (pa_cons (pv 0) (pa_cons pe_str pa_nil)))) (pss_one (ps_ost (pv 0) (pe_call G_kept hr2 (by rfl) T.g_kept T.F_kept.kp T.b_kept .nil pass0 (pa_cons (pv 1) pa_nil))))), ?_⟩
      refine base_step T.E_BadLength.E.T rfl ha ?_
      refine fld_step (i := 1) T.E_BadLength.E.T (T.E_BadLength.no "index" (by decide +kernel)) rfl rfl h0 (⟨fun _ _ _ e => e, .inl ⟨rfl, ha⟩⟩ : Mkg H H a A.c_BadLength []) (by show 0 ≤ 900; decide) fun w0 H0 a0 m0 p0 => ?_
      exact k [w0] H0 (.cons a0 .nil) m0.err m0.1
theorem sc_NotFull : FnScope ["self"] ["self"] (defScope s_NotFull) := ⟨rfl, rfl, rfl, by decide +kernel, rfl, by decide +kernel, by decide +kernel⟩
theorem ok_NotFull (T : Txt K mg A) : FnOk P w K mg base CX0 3 A.i_NotFull A.d_NotFull ["self"] (spInit A.c_NotFull []) := by
  have G_kept := ok_kept2 (P := P) (w := w) (base := base) T
  refine T.E_NotFull.F.ok sc_NotFull (fun vs H Q E h => ?_) (fun cdv A' outer s H vs Q E hr h => ?_)
  · obtain ⟨a, us, ds, rfl, hl, _⟩ := h; exact congrArg Nat.succ hl
  · obtain ⟨a, us, ds, rfl, hl, ha, hA, k⟩ := h
    have hr2 : Room 2 _ := hr
    match us, ds, hl, hA with
    | [], _, _, .nil =>
      refine ⟨_, (pss_one (ps_expr (pe_binit T.B (by rfl) T.gj (pa_cons (pv 0) (pa_cons pe_str pa_nil))))), ?_⟩
      exact base_step T.E_NotFull.E.T rfl ha (k [] H .nil (.inl ⟨rfl, ha⟩) (fun _ _ _ e => e))
theorem sc_BadWord : FnScope ["self", "index"] ["self", "index"] (defScope s_BadWord) := ⟨rfl, rfl, rfl, by decide +kernel, rfl, by decide +kernel, by decide +kernel⟩
theorem ok_BadWord (T : Txt K mg A) : FnOk P w K mg base CX0 3 A.i_BadWord A.d_BadWord ["self", "index"] (spInit A.c_BadWord ["index"]) := by
  have G_kept := ok_kept2 (P := P) (w := w) (base := base) T
  refine T.E_BadWord.F.ok sc_BadWord (fun vs H Q E h => ?_) (fun cdv A' outer s H vs Q E hr h => ?_)
  · obtain ⟨a, us, ds, rfl, hl, _⟩ := h; exact congrArg Nat.succ hl
  · obtain ⟨a, us, ds, rfl, hl, ha, hA, k⟩ := h
    have hr2 : Room 2 _ := hr
    match us, ds, hl, hA with
    | [u0], _, _, .cons h0 .nil =>
      refine ⟨_, (pss_cons (ps_expr (pe_binit T.B (by rfl) T.gj (pa_cons (pv 0) (pa_cons pe_str pa_nil)))) (pss_one (ps_ost (pv 0) (pe_call G_kept hr2 (by rfl) T.g_kept T.F_kept.kp T.b_kept .nil pass0 (pa_cons (pv 1) pa_nil))))), ?_⟩
      refine base_step T.E_BadWord.E.T rfl ha ?_
      refine fld_step (i := 1) T.E_BadWord.E.T (T.E_BadWord.no "index" (by decide +kernel)) rfl rfl h0 (⟨fun _ _ _ e => e, .inl ⟨rfl, ha⟩⟩ : Mkg H H a A.c_BadWord []) (by show 0 ≤ 900; decide) fun w0 H0 a0 m0 p0 => ?_
      exact k [w0] H0 (.cons a0 .nil) m0.err m0.1
theorem sc_Begins : FnScope ["self", "index", "other"] ["self", "index", "other"] (defScope s_Begins) := ⟨rfl, rfl, rfl, by decide +kernel, rfl, by decide +kernel, by decide +kernel⟩
theorem ok_Begins (T : Txt K mg A) : FnOk P w K mg base CX0 3 A.i_Begins A.d_Begins ["self", "index", "other"] (spInit A.c_Begins ["index", "other"]) := by
  have G_kept := ok_kept2 (P := P) (w := w) (base := base) T
  refine T.E_Begins.F.ok sc_Begins (fun vs H Q E h => ?_) (fun cdv A' outer s H vs Q E hr h => ?_)
  · obtain ⟨a, us, ds, rfl, hl, _⟩ := h; exact congrArg Nat.succ hl
  · obtain ⟨a, us, ds, rfl, hl, ha, hA, k⟩ := h
    have hr2 : Room 2 _ := hr
    match us, ds, hl, hA with
    | [u0, u1], _, _, .cons h0 (.cons h1 .nil) =>
      refine ⟨_, (pss_cons (ps_expr (pe_binit T.B (by rfl) T.gj (pa_cons (pv 0) (pa_cons pe_str pa_nil)))) (pss_cons (ps_ost (pv 0) (pe_call G_kept hr2 (by rfl) T.g_kept T.F_kept.kp T.b_kept .nil pass0 (pa_cons (pv 1) pa_nil))) (pss_one (ps_ost (pv 0) (pe_call G_kept hr2 (by rfl) T.g_kept T.F_kept.kp T.b_kept .nil pass0 (pa_cons (pv 2) pa_nil)))))), ?_⟩
      refine base_step T.E_Begins.E.T rfl ha ?_
      refine fld_step (i := 1) T.E_Begins.E.T (T.E_Begins.no "index" (by decide +kernel)) rfl rfl h0 (⟨fun _ _ _ e => e, .inl ⟨rfl, ha⟩⟩ : Mkg H H a A.c_Begins []) (by show 0 ≤ 900; decide) fun w0 H0 a0 m0 p0 => ?_
      refine fld_step (i := 2) T.E_Begins.E.T (T.E_Begins.no "other" (by decide +kernel)) rfl rfl (p0 _ _ h1) m0 (by show 1 ≤ 900; decide) fun w1 H1 a1 m1 p1 => ?_
      exact k [w0, w1] H1 (.cons (p1 _ _ a0) (.cons a1 .nil)) m1.err m1.1
theorem sc_OtherSize : FnScope ["self", "many", "wanted"] ["self", "many", "wanted"] (defScope s_OtherSize) := ⟨rfl, rfl, rfl, by decide +kernel, rfl, by decide +kernel, by decide +kernel⟩
theorem ok_OtherSize (T : Txt K mg A) : FnOk P w K mg base CX0 3 A.i_OtherSize A.d_OtherSize ["self", "many", "wanted"] (spInit A.c_OtherSize ["many", "wanted"]) := by
  have G_kept := ok_kept2 (P := P) (w := w) (base := base) T
  refine T.E_OtherSize.F.ok sc_OtherSize (fun vs H Q E h => ?_) (fun cdv A' outer s H vs Q E hr h => ?_)
  · obtain ⟨a, us, ds, rfl, hl, _⟩ := h; exact congrArg Nat.succ hl
  · obtain ⟨a, us, ds, rfl, hl, ha, hA, k⟩ := h
    have hr2 : Room 2 _ := hr
    match us, ds, hl, hA with
    | [u0, u1], _, _, .cons h0 (.cons h1 .nil) =>
      refine ⟨_, (pss_cons (ps_expr (pe_binit T.B (by rfl) T.gj (pa_cons (pv 0) (pa_cons pe_str pa_nil)))) (pss_cons (ps_ost (pv 0) (pe_call G_kept hr2 (by rfl) T.g_kept T.F_kept.kp T.b_kept .nil pass0 (pa_cons (pv 1) pa_nil))) (pss_one (ps_ost (pv 0) (pe_call G_kept hr2 (by rfl) T.g_kept T.F_kept.kp T.b_kept .nil pass0 (pa_cons (pv 2) pa_nil)))))), ?_⟩
      refine base_step T.E_OtherSize.E.T rfl ha ?_
      refine fld_step (i := 1) T.E_OtherSize.E.T (T.E_OtherSize.no "many" (by decide +kernel)) rfl rfl h0 (⟨fun _ _ _ e => e, .inl ⟨rfl, ha⟩⟩ : Mkg H H a A.c_OtherSize []) (by show 0 ≤ 900; decide) fun w0 H0 a0 m0 p0 => ?_
      refine fld_step (i := 2) T.E_OtherSize.E.T (T.E_OtherSize.no "wanted" (by decide +kernel)) rfl rfl (p0 _ _ h1) m0 (by show 1 ≤ 900; decide) fun w1 H1 a1 m1 p1 => ?_
      exact k [w0, w1] H1 (.cons (p1 _ _ a0) (.cons a1 .nil)) m1.err m1.1
theorem sc_BadSize : FnScope ["self", "size"] ["self", "size"] (defScope s_BadSize) := ⟨rfl, rfl, rfl, by decide +kernel, rfl, by decide +kernel, by decide +kernel⟩
theorem ok_BadSize (T : Txt K mg A) : FnOk P w K mg base CX0 3 A.i_BadSize A.d_BadSize ["self", "size"] (spInit A.c_BadSize ["size"]) := by
  have G_kept := ok_kept2 (P := P) (w := w) (base := base) T
  refine T.E_BadSize.F.ok sc_BadSize (fun vs H Q E h => ?_) (fun cdv A' outer s H vs Q E hr h => ?_)
  · obtain ⟨a, us, ds, rfl, hl, _⟩ := h; exact congrArg Nat.succ hl
  · obtain ⟨a, us, ds, rfl, hl, ha, hA, k⟩ := h
    have hr2 : Room 2 _ := hr
    match us, ds, hl, hA with
    | [u0], _, _, .cons h0 .nil =>
      refine ⟨_, (pss_cons (ps_expr (pe_binit T.B (by rfl) T.gj (pa_cons (pv 0) (pa_cons pe_str pa_nil)))) (pss_one (ps_ost (pv 0) (pe_call G_kept hr2 (by rfl) T.g_kept T.F_kept.kp T.b_kept .nil pass0 (pa_cons (pv 1) pa_nil))))), ?_⟩
      refine base_step T.E_BadSize.E.T rfl ha ?_
      refine fld_step (i := 1) T.E_BadSize.E.T (T.E_BadSize.no "size" (by decide +kernel)) rfl rfl h0 (⟨fun _ _ _ e => e, .inl ⟨rfl, ha⟩⟩ : Mkg H H a A.c_BadSize []) (by show 0 ≤ 900; decide) fun w0 H0 a0 m0 p0 => ?_
      exact k [w0] H0 (.cons a0 .nil) m0.err m0.1
theorem sc_NoBorder : FnScope ["self"] ["self"] (defScope s_NoBorder) := ⟨rfl, rfl, rfl, by decide +kernel, rfl, by decide +kernel, by decide +kernel⟩
theorem ok_NoBorder (T : Txt K mg A) : FnOk P w K mg base CX0 3 A.i_NoBorder A.d_NoBorder ["self"] (spInit A.c_NoBorder []) := by
  have G_kept := ok_kept2 (P := P) (w := w) (base := base) T
  refine T.E_NoBorder.F.ok sc_NoBorder (fun vs H Q E h => ?_) (fun cdv A' outer s H vs Q E hr h => ?_)
  · obtain ⟨a, us, ds, rfl, hl, _⟩ := h; exact congrArg Nat.succ hl
  · obtain ⟨a, us, ds, rfl, hl, ha, hA, k⟩ := h
    have hr2 : Room 2 _ := hr
    match us, ds, hl, hA with
    | [], _, _, .nil =>
      refine ⟨_, (pss_one (ps_expr (pe_binit T.B (by rfl) T.gj (pa_cons (pv 0) (pa_cons pe_str pa_nil))))), ?_⟩
      exact base_step T.E_NoBorder.E.T rfl ha (k [] H .nil (.inl ⟨rfl, ha⟩) (fun _ _ _ e => e))
theorem sc_TooShort : FnScope ["self", "most", "least"] ["self", "most", "least"] (defScope s_TooShort) := ⟨rfl, rfl, rfl, by decide +kernel, rfl, by decide +kernel, by decide +kernel⟩
theorem ok_TooShort (T : Txt K mg A) : FnOk P w K mg base CX0 3 A.i_TooShort A.d_TooShort ["self", "most", "least"] (spInit A.c_TooShort ["most", "least"]) := by
  have G_kept := ok_kept2 (P := P) (w := w) (base := base) T
  refine T.E_TooShort.F.ok sc_TooShort (fun vs H Q E h => ?_) (fun cdv A' outer s H vs Q E hr h => ?_)
  · obtain ⟨a, us, ds, rfl, hl, _⟩ := h; exact congrArg Nat.succ hl
  · obtain ⟨a, us, ds, rfl, hl, ha, hA, k⟩ := h
    have hr2 : Room 2 _ := hr
    match us, ds, hl, hA with
    | [u0, u1], _, _, .cons h0 (.cons h1 .nil) =>
      refine ⟨_, (pss_cons (ps_expr (pe_binit T.B (by rfl) T.gj (pa_cons (pv 0) (pa_cons pe_str pa_nil)))) (pss_cons (ps_ost (pv 0) (pe_call G_kept hr2 (by rfl) T.g_kept T.F_kept.kp T.b_kept .nil pass0 (pa_cons (pv 1) pa_nil))) (pss_one (ps_ost (pv 0) (pe_call G_kept hr2 (by rfl) T.g_kept T.F_kept.kp T.b_kept .nil pass0 (pa_cons (pv 2) pa_nil)))))), ?_⟩
      refine base_step T.E_TooShort.E.T rfl ha ?_
      refine fld_step (i := 1) T.E_TooShort.E.T (T.E_TooShort.no "most" (by decide +kernel)) rfl rfl h0 (⟨fun _ _ _ e => e, .inl ⟨rfl, ha⟩⟩ : Mkg H H a A.c_TooShort []) (by show 0 ≤ 900; decide) fun w0 H0 a0 m0 p0 => ?_
      refine fld_step (i := 2) T.E_TooShort.E.T (T.E_TooShort.no "least" (by decide +kernel)) rfl rfl (p0 _ _ h1) m0 (by show 1 ≤ 900; decide) fun w1 H1 a1 m1 p1 => ?_
      exact k [w0, w1] H1 (.cons (p1 _ _ a0) (.cons a1 .nil)) m1.err m1.1
theorem sc_TooLong : FnScope ["self", "sign"] ["self", "sign"] (defScope s_TooLong) := ⟨rfl, rfl, rfl, by decide +kernel, rfl, by decide +kernel, by decide +kernel⟩
theorem ok_TooLong (T : Txt K mg A) : FnOk P w K mg base CX0 3 A.i_TooLong A.d_TooLong ["self", "sign"] (spInit A.c_TooLong ["sign"]) := by
  have G_kept := ok_kept2 (P := P) (w := w) (base := base) T
  refine T.E_TooLong.F.ok sc_TooLong (fun vs H Q E h => ?_) (fun cdv A' outer s H vs Q E hr h => ?_)
  · obtain ⟨a, us, ds, rfl, hl, _⟩ := h; exact congrArg Nat.succ hl
  · obtain ⟨a, us, ds, rfl, hl, ha, hA, k⟩ := h
    have hr2 : Room 2 _ := hr
    match us, ds, hl, hA with
    | [u0], _, _, .cons h0 .nil =>
      refine ⟨_, (pss_cons (ps_expr (pe_binit T.B (by rfl) T.gj (pa_cons (pv 0) (pa_cons pe_str pa_nil)))) (pss_one (ps_ost (pv 0) (pe_call G_kept hr2 (by rfl) T.g_kept T.F_kept.kp T.b_kept .nil pass0 (pa_cons (pv 1) pa_nil))))), ?_⟩
      refine base_step T.E_TooLong.E.T rfl ha ?_
      refine fld_step (i := 1) T.E_TooLong.E.T (T.E_TooLong.no "sign" (by decide +kernel)) rfl rfl h0 (⟨fun _ _ _ e => e, .inl ⟨rfl, ha⟩⟩ : Mkg H H a A.c_TooLong []) (by show 0 ≤ 900; decide) fun w0 H0 a0 m0 p0 => ?_
      exact k [w0] H0 (.cons a0 .nil) m0.err m0.1
theorem sc_BadOver : FnScope ["self"] ["self"] (defScope s_BadOver) := ⟨rfl, rfl, rfl, by decide +kernel, rfl, by decide +kernel, by decide +kernel⟩
theorem ok_BadOver (T : Txt K mg A) : FnOk P w K mg base CX0 3 A.i_BadOver A.d_BadOver ["self"] (spInit A.c_BadOver []) := by
  have G_kept := ok_kept2 (P := P) (w := w) (base := base) T
  refine T.E_BadOver.F.ok sc_BadOver (fun vs H Q E h => ?_) (fun cdv A' outer s H vs Q E hr h => ?_)
  · obtain ⟨a, us, ds, rfl, hl, _⟩ := h; exact congrArg Nat.succ hl
  · obtain ⟨a, us, ds, rfl, hl, ha, hA, k⟩ := h
    have hr2 : Room 2 _ := hr
    match us, ds, hl, hA with
    | [], _, _, .nil =>
      refine ⟨_, (pss_one (ps_expr (pe_binit T.B (by rfl) T.gj (pa_cons (pv 0) (pa_cons pe_str pa_nil))))), ?_⟩
      exact base_step T.E_BadOver.E.T rfl ha (k [] H .nil (.inl ⟨rfl, ha⟩) (fun _ _ _ e => e))
theorem sc_BadTie : FnScope ["self", "tie"] ["self", "tie"] (defScope s_BadTie) := ⟨rfl, rfl, rfl, by decide +kernel, rfl, by decide +kernel, by decide +kernel⟩
theorem ok_BadTie (T : Txt K mg A) : FnOk P w K mg base CX0 3 A.i_BadTie A.d_BadTie ["self", "tie"] (spInit A.c_BadTie ["tie"]) := by
  have G_kept := ok_kept2 (P := P) (w := w) (base := base) T
  refine T.E_BadTie.F.ok sc_BadTie (fun vs H Q E h => ?_) (fun cdv A' outer s H vs Q E hr h => ?_)
  · obtain ⟨a, us, ds, rfl, hl, _⟩ := h; exact congrArg Nat.succ hl
  · obtain ⟨a, us, ds, rfl, hl, ha, hA, k⟩ := h
    have hr2 : Room 2 _ := hr
    match us, ds, hl, hA with
    | [u0], _, _, .cons h0 .nil =>
      refine ⟨_, (pss_cons (ps_expr (pe_binit T.B (by rfl) T.gj (pa_cons (pv 0) (pa_cons pe_str pa_nil)))) (pss_one (ps_ost (pv 0) (pe_call G_kept hr2 (by rfl) T.g_kept T.F_kept.kp T.b_kept .nil pass0 (pa_cons (pv 1) pa_nil))))), ?_⟩
      refine base_step T.E_BadTie.E.T rfl ha ?_
      refine fld_step (i := 1) T.E_BadTie.E.T (T.E_BadTie.no "tie" (by decide +kernel)) rfl rfl h0 (⟨fun _ _ _ e => e, .inl ⟨rfl, ha⟩⟩ : Mkg H H a A.c_BadTie []) (by show 0 ≤ 900; decide) fun w0 H0 a0 m0 p0 => ?_
      exact k [w0] H0 (.cons a0 .nil) m0.err m0.1
theorem sc_NotLeast : FnScope ["self"] ["self"] (defScope s_NotLeast) := ⟨rfl, rfl, rfl, by decide +kernel, rfl, by decide +kernel, by decide +kernel⟩
theorem ok_NotLeast (T : Txt K mg A) : FnOk P w K mg base CX0 3 A.i_NotLeast A.d_NotLeast ["self"] (spInit A.c_NotLeast []) := by
  have G_kept := ok_kept2 (P := P) (w := w) (base := base) T
  refine T.E_NotLeast.F.ok sc_NotLeast (fun vs H Q E h => ?_) (fun cdv A' outer s H vs Q E hr h => ?_)
  · obtain ⟨a, us, ds, rfl, hl, _⟩ := h; exact congrArg Nat.succ hl
  · obtain ⟨a, us, ds, rfl, hl, ha, hA, k⟩ := h
    have hr2 : Room 2 _ := hr
    match us, ds, hl, hA with
    | [], _, _, .nil =>
      refine ⟨_, (pss_one (ps_expr (pe_binit T.B (by rfl) T.gj (pa_cons (pv 0) (pa_cons pe_str pa_nil))))), ?_⟩
      exact base_step T.E_NotLeast.E.T rfl ha (k [] H .nil (.inl ⟨rfl, ha⟩) (fun _ _ _ e => e))
theorem sc_BadSign : FnScope ["self", "index"] ["self", "index"] (defScope s_BadSign) := ⟨rfl, rfl, rfl, by decide +kernel, rfl, by decide +kernel, by decide +kernel⟩
theorem ok_BadSign (T : Txt K mg A) : FnOk P w K mg base CX0 3 A.i_BadSign A.d_BadSign ["self", "index"] (spInit A.c_BadSign ["index"]) := by
  have G_kept := ok_kept2 (P := P) (w := w) (base := base) T
  refine T.E_BadSign.F.ok sc_BadSign (fun vs H Q E h => ?_) (fun cdv A' outer s H vs Q E hr h => ?_)
  · obtain ⟨a, us, ds, rfl, hl, _⟩ := h; exact congrArg Nat.succ hl
  · obtain ⟨a, us, ds, rfl, hl, ha, hA, k⟩ := h
    have hr2 : Room 2 _ := hr
    match us, ds, hl, hA with
    | [u0], _, _, .cons h0 .nil =>
      refine ⟨_, (pss_cons (ps_expr (pe_binit T.B (by rfl) T.gj (pa_cons (pv 0) (pa_cons pe_str pa_nil)))) (pss_one (ps_ost (pv 0) (pe_call G_kept hr2 (by rfl) T.g_kept T.F_kept.kp T.b_kept .nil pass0 (pa_cons (pv 1) pa_nil))))), ?_⟩
      refine base_step T.E_BadSign.E.T rfl ha ?_
      refine fld_step (i := 1) T.E_BadSign.E.T (T.E_BadSign.no "index" (by decide +kernel)) rfl rfl h0 (⟨fun _ _ _ e => e, .inl ⟨rfl, ha⟩⟩ : Mkg H H a A.c_BadSign []) (by show 0 ≤ 900; decide) fun w0 H0 a0 m0 p0 => ?_
      exact k [w0] H0 (.cons a0 .nil) m0.err m0.1
theorem sc_BadRule : FnScope ["self", "name"] ["self", "name"] (defScope s_BadRule) := ⟨rfl, rfl, rfl, by decide +kernel, rfl, by decide +kernel, by decide +kernel⟩
theorem ok_BadRule (T : Txt K mg A) : FnOk P w K mg base CX0 3 A.i_BadRule A.d_BadRule ["self", "name"] (spInit A.c_BadRule ["name"]) := by
  have G_kept := ok_kept2 (P := P) (w := w) (base := base) T
  refine T.E_BadRule.F.ok sc_BadRule (fun vs H Q E h => ?_) (fun cdv A' outer s H vs Q E hr h => ?_)
  · obtain ⟨a, us, ds, rfl, hl, _⟩ := h; exact congrArg Nat.succ hl
  · obtain ⟨a, us, ds, rfl, hl, ha, hA, k⟩ := h
    have hr2 : Room 2 _ := hr
    match us, ds, hl, hA with
    | [u0], _, _, .cons h0 .nil =>
      refine ⟨_, (pss_cons (ps_expr (pe_binit T.B (by rfl) T.gj (pa_cons (pv 0) (pa_cons pe_str pa_nil)))) (pss_one (ps_ost (pv 0) (pe_call G_kept hr2 (by rfl) T.g_kept T.F_kept.kp T.b_kept .nil pass0 (pa_cons (pv 1) pa_nil))))), ?_⟩
      refine base_step T.E_BadRule.E.T rfl ha ?_
      refine fld_step (i := 1) T.E_BadRule.E.T (T.E_BadRule.no "name" (by decide +kernel)) rfl rfl h0 (⟨fun _ _ _ e => e, .inl ⟨rfl, ha⟩⟩ : Mkg H H a A.c_BadRule []) (by show 0 ≤ 900; decide) fun w0 H0 a0 m0 p0 => ?_
      exact k [w0] H0 (.cons a0 .nil) m0.err m0.1
theorem sc_Ring : FnScope ["self", "name"] ["self", "name"] (defScope s_Ring) := ⟨rfl, rfl, rfl, by decide +kernel, rfl, by decide +kernel, by decide +kernel⟩
theorem ok_Ring (T : Txt K mg A) : FnOk P w K mg base CX0 3 A.i_Ring A.d_Ring ["self", "name"] (spInit A.c_Ring ["name"]) := by
  have G_kept := ok_kept2 (P := P) (w := w) (base := base) T
  refine T.E_Ring.F.ok sc_Ring (fun vs H Q E h => ?_) (fun cdv A' outer s H vs Q E hr h => ?_)
  · obtain ⟨a, us, ds, rfl, hl, _⟩ := h; exact congrArg Nat.succ hl
  · obtain ⟨a, us, ds, rfl, hl, ha, hA, k⟩ := h
    have hr2 : Room 2 _ := hr
    match us, ds, hl, hA with
    | [u0], _, _, .cons h0 .nil =>
      refine ⟨_, (pss_cons (ps_expr (pe_binit T.B (by rfl) T.gj (pa_cons (pv 0) (pa_cons pe_str pa_nil)))) (pss_one (ps_ost (pv 0) (pe_call G_kept hr2 (by rfl) T.g_kept T.F_kept.kp T.b_kept .nil pass0 (pa_cons (pv 1) pa_nil))))), ?_⟩
      refine base_step T.E_Ring.E.T rfl ha ?_
      refine fld_step (i := 1) T.E_Ring.E.T (T.E_Ring.no "name" (by decide +kernel)) rfl rfl h0 (⟨fun _ _ _ e => e, .inl ⟨rfl, ha⟩⟩ : Mkg H H a A.c_Ring []) (by show 0 ≤ 900; decide) fun w0 H0 a0 m0 p0 => ?_
      exact k [w0] H0 (.cons a0 .nil) m0.err m0.1
theorem sc_NoRule : FnScope ["self", "root"] ["self", "root"] (defScope s_NoRule) := ⟨rfl, rfl, rfl, by decide +kernel, rfl, by decide +kernel, by decide +kernel⟩
theorem ok_NoRule (T : Txt K mg A) : FnOk P w K mg base CX0 3 A.i_NoRule A.d_NoRule ["self", "root"] (spInit A.c_NoRule ["root"]) := by
  have G_kept := ok_kept2 (P := P) (w := w) (base := base) T
  refine T.E_NoRule.F.ok sc_NoRule (fun vs H Q E h => ?_) (fun cdv A' outer s H vs Q E hr h => ?_)
  · obtain ⟨a, us, ds, rfl, hl, _⟩ := h; exact congrArg Nat.succ hl
  · obtain ⟨a, us, ds, rfl, hl, ha, hA, k⟩ := h
    have hr2 : Room 2 _ := hr
    match us, ds, hl, hA with
    | [u0], _, _, .cons h0 .nil =>
      refine ⟨_, (pss_cons (ps_expr (pe_binit T.B (by rfl) T.gj (pa_cons (pv 0) (pa_cons pe_str pa_nil)))) (pss_one (ps_ost (pv 0) (pe_call G_kept hr2 (by rfl) T.g_kept T.F_kept.kp T.b_kept .nil pass0 (pa_cons (pv 1) pa_nil))))), ?_⟩
      refine base_step T.E_NoRule.E.T rfl ha ?_
      refine fld_step (i := 1) T.E_NoRule.E.T (T.E_NoRule.no "root" (by decide +kernel)) rfl rfl h0 (⟨fun _ _ _ e => e, .inl ⟨rfl, ha⟩⟩ : Mkg H H a A.c_NoRule []) (by show 0 ≤ 900; decide) fun w0 H0 a0 m0 p0 => ?_
      exact k [w0] H0 (.cons a0 .nil) m0.err m0.1
theorem sc_BadPlace : FnScope ["self", "place"] ["self", "place"] (defScope s_BadPlace) := ⟨rfl, rfl, rfl, by decide +kernel, rfl, by decide +kernel, by decide +kernel⟩
theorem ok_BadPlace (T : Txt K mg A) : FnOk P w K mg base CX0 3 A.i_BadPlace A.d_BadPlace ["self", "place"] (spInit A.c_BadPlace ["place"]) := by
  have G_kept := ok_kept2 (P := P) (w := w) (base := base) T
  refine T.E_BadPlace.F.ok sc_BadPlace (fun vs H Q E h => ?_) (fun cdv A' outer s H vs Q E hr h => ?_)
  · obtain ⟨a, us, ds, rfl, hl, _⟩ := h; exact congrArg Nat.succ hl
  · obtain ⟨a, us, ds, rfl, hl, ha, hA, k⟩ := h
    have hr2 : Room 2 _ := hr
    match us, ds, hl, hA with
    | [u0], _, _, .cons h0 .nil =>
      refine ⟨_, (pss_cons (ps_expr (pe_binit T.B (by rfl) T.gj (pa_cons (pv 0) (pa_cons pe_str pa_nil)))) (pss_one (ps_ost (pv 0) (pe_call G_kept hr2 (by rfl) T.g_kept T.F_kept.kp T.b_kept .nil pass0 (pa_cons (pv 1) pa_nil))))), ?_⟩
      refine base_step T.E_BadPlace.E.T rfl ha ?_
      refine fld_step (i := 1) T.E_BadPlace.E.T (T.E_BadPlace.no "place" (by decide +kernel)) rfl rfl h0 (⟨fun _ _ _ e => e, .inl ⟨rfl, ha⟩⟩ : Mkg H H a A.c_BadPlace []) (by show 0 ≤ 900; decide) fun w0 H0 a0 m0 p0 => ?_
      exact k [w0] H0 (.cons a0 .nil) m0.err m0.1
theorem sc_BadBits : FnScope ["self", "index"] ["self", "index"] (defScope s_BadBits) := ⟨rfl, rfl, rfl, by decide +kernel, rfl, by decide +kernel, by decide +kernel⟩
theorem ok_BadBits (T : Txt K mg A) : FnOk P w K mg base CX0 3 A.i_BadBits A.d_BadBits ["self", "index"] (spInit A.c_BadBits ["index"]) := by
  have G_kept := ok_kept2 (P := P) (w := w) (base := base) T
  refine T.E_BadBits.F.ok sc_BadBits (fun vs H Q E h => ?_) (fun cdv A' outer s H vs Q E hr h => ?_)
  · obtain ⟨a, us, ds, rfl, hl, _⟩ := h; exact congrArg Nat.succ hl
  · obtain ⟨a, us, ds, rfl, hl, ha, hA, k⟩ := h
    have hr2 : Room 2 _ := hr
    match us, ds, hl, hA with
    | [u0], _, _, .cons h0 .nil =>
      refine ⟨_, (pss_cons (ps_expr (pe_binit T.B (by rfl) T.gj (pa_cons (pv 0) (pa_cons pe_str pa_nil)))) (pss_one (ps_ost (pv 0) (pe_call G_kept hr2 (by rfl) T.g_kept T.F_kept.kp T.b_kept .nil pass0 (pa_cons (pv 1) pa_nil))))), ?_⟩
      refine base_step T.E_BadBits.E.T rfl ha ?_
      refine fld_step (i := 1) T.E_BadBits.E.T (T.E_BadBits.no "index" (by decide +kernel)) rfl rfl h0 (⟨fun _ _ _ e => e, .inl ⟨rfl, ha⟩⟩ : Mkg H H a A.c_BadBits []) (by show 0 ≤ 900; decide) fun w0 H0 a0 m0 p0 => ?_
      exact k [w0] H0 (.cons a0 .nil) m0.err m0.1
theorem sc_BadNode : FnScope ["self", "node"] ["self", "node"] (defScope s_BadNode) := ⟨rfl, rfl, rfl, by decide +kernel, rfl, by decide +kernel, by decide +kernel⟩
theorem ok_BadNode (T : Txt K mg A) : FnOk P w K mg base CX0 3 A.i_BadNode A.d_BadNode ["self", "node"] (spInit A.c_BadNode ["node"]) := by
  have G_kept := ok_kept2 (P := P) (w := w) (base := base) T
  refine T.E_BadNode.F.ok sc_BadNode (fun vs H Q E h => ?_) (fun cdv A' outer s H vs Q E hr h => ?_)
  · obtain ⟨a, us, ds, rfl, hl, _⟩ := h; exact congrArg Nat.succ hl
  · obtain ⟨a, us, ds, rfl, hl, ha, hA, k⟩ := h
    have hr2 : Room 2 _ := hr
    match us, ds, hl, hA with
    | [u0], _, _, .cons h0 .nil =>
      refine ⟨_, (pss_cons (ps_expr (pe_binit T.B (by rfl) T.gj (pa_cons (pv 0) (pa_cons pe_str pa_nil)))) (pss_one (ps_ost (pv 0) (pe_call G_kept hr2 (by rfl) T.g_kept T.F_kept.kp T.b_kept .nil pass0 (pa_cons (pv 1) pa_nil))))), ?_⟩
      refine base_step T.E_BadNode.E.T rfl ha ?_
      refine fld_step (i := 1) T.E_BadNode.E.T (T.E_BadNode.no "node" (by decide +kernel)) rfl rfl h0 (⟨fun _ _ _ e => e, .inl ⟨rfl, ha⟩⟩ : Mkg H H a A.c_BadNode []) (by show 0 ≤ 900; decide) fun w0 H0 a0 m0 p0 => ?_
      exact k [w0] H0 (.cons a0 .nil) m0.err m0.1
theorem sc_BadTable : FnScope ["self", "node"] ["self", "node"] (defScope s_BadTable) := ⟨rfl, rfl, rfl, by decide +kernel, rfl, by decide +kernel, by decide +kernel⟩
theorem ok_BadTable (T : Txt K mg A) : FnOk P w K mg base CX0 3 A.i_BadTable A.d_BadTable ["self", "node"] (spInit A.c_BadTable ["node"]) := by
  have G_kept := ok_kept2 (P := P) (w := w) (base := base) T
  refine T.E_BadTable.F.ok sc_BadTable (fun vs H Q E h => ?_) (fun cdv A' outer s H vs Q E hr h => ?_)
  · obtain ⟨a, us, ds, rfl, hl, _⟩ := h; exact congrArg Nat.succ hl
  · obtain ⟨a, us, ds, rfl, hl, ha, hA, k⟩ := h
    have hr2 : Room 2 _ := hr
    match us, ds, hl, hA with
    | [u0], _, _, .cons h0 .nil =>
      refine ⟨_, (pss_cons (ps_expr (pe_binit T.B (by rfl) T.gj (pa_cons (pv 0) (pa_cons pe_str pa_nil)))) (pss_one (ps_ost (pv 0) (pe_call G_kept hr2 (by rfl) T.g_kept T.F_kept.kp T.b_kept .nil pass0 (pa_cons (pv 1) pa_nil))))), ?_⟩
      refine base_step T.E_BadTable.E.T rfl ha ?_
      refine fld_step (i := 1) T.E_BadTable.E.T (T.E_BadTable.no "node" (by decide +kernel)) rfl rfl h0 (⟨fun _ _ _ e => e, .inl ⟨rfl, ha⟩⟩ : Mkg H H a A.c_BadTable []) (by show 0 ≤ 900; decide) fun w0 H0 a0 m0 p0 => ?_
      exact k [w0] H0 (.cons a0 .nil) m0.err m0.1
theorem sc_BadLooks : FnScope ["self", "looks"] ["self", "looks"] (defScope s_BadLooks) := ⟨rfl, rfl, rfl, by decide +kernel, rfl, by decide +kernel, by decide +kernel⟩
theorem ok_BadLooks (T : Txt K mg A) : FnOk P w K mg base CX0 3 A.i_BadLooks A.d_BadLooks ["self", "looks"] (spInit A.c_BadLooks ["looks"]) := by
  have G_kept := ok_kept2 (P := P) (w := w) (base := base) T
  refine T.E_BadLooks.F.ok sc_BadLooks (fun vs H Q E h => ?_) (fun cdv A' outer s H vs Q E hr h => ?_)
  · obtain ⟨a, us, ds, rfl, hl, _⟩ := h; exact congrArg Nat.succ hl
  · obtain ⟨a, us, ds, rfl, hl, ha, hA, k⟩ := h
    have hr2 : Room 2 _ := hr
    match us, ds, hl, hA with
    | [u0], _, _, .cons h0 .nil =>
      refine ⟨_, (pss_cons (ps_expr (pe_binit T.B (by rfl) T.gj (pa_cons (pv 0) (pa_cons pe_str pa_nil)))) (pss_one (ps_ost (pv 0) (pe_call G_kept hr2 (by rfl) T.g_kept T.F_kept.kp T.b_kept .nil pass0 (pa_cons (pv 1) pa_nil))))), ?_⟩
      refine base_step T.E_BadLooks.E.T rfl ha ?_
      refine fld_step (i := 1) T.E_BadLooks.E.T (T.E_BadLooks.no "looks" (by decide +kernel)) rfl rfl h0 (⟨fun _ _ _ e => e, .inl ⟨rfl, ha⟩⟩ : Mkg H H a A.c_BadLooks []) (by show 0 ≤ 900; decide) fun w0 H0 a0 m0 p0 => ?_
      exact k [w0] H0 (.cons a0 .nil) m0.err m0.1
theorem sc_NoSigns : FnScope ["self"] ["self"] (defScope s_NoSigns) := ⟨rfl, rfl, rfl, by decide +kernel, rfl, by decide +kernel, by decide +kernel⟩
theorem ok_NoSigns (T : Txt K mg A) : FnOk P w K mg base CX0 3 A.i_NoSigns A.d_NoSigns ["self"] (spInit A.c_NoSigns []) := by
  have G_kept := ok_kept2 (P := P) (w := w) (base := base) T
  refine T.E_NoSigns.F.ok sc_NoSigns (fun vs H Q E h => ?_) (fun cdv A' outer s H vs Q E hr h => ?_)
  · obtain ⟨a, us, ds, rfl, hl, _⟩ := h; exact congrArg Nat.succ hl
  · obtain ⟨a, us, ds, rfl, hl, ha, hA, k⟩ := h
    have hr2 : Room 2 _ := hr
    match us, ds, hl, hA with
    | [], _, _, .nil =>
      refine ⟨_, (pss_one (ps_expr (pe_binit T.B (by rfl) T.gj (pa_cons (pv 0) (pa_cons pe_str pa_nil))))), ?_⟩
      exact base_step T.E_NoSigns.E.T rfl ha (k [] H .nil (.inl ⟨rfl, ha⟩) (fun _ _ _ e => e))
end
end Z

set_option Elab.async false
set_option linter.all false
set_option maxRecDepth 100000
set_option maxHeartbeats 8000000
/-! the law's lists: their elements one by one -/
namespace Z
open PySem L2 XV
/-- what is said of a value, and stays said while what is tracked stays -/
structure Rm where
  r : Hp → V → Prop
  m : ∀ {H H' : Hp} {v : V}, Same H H' → r H v → r H' v
def anyR (d : PyData) : Rm := ⟨fun H v => AnyV H v d, fun s h => h.same s⟩
def errR (C : Addr) : Rm := ⟨fun H v => ∃ a fs, v = .ref a ∧ ErrAt H a C fs, fun s ⟨a, fs, e, h⟩ => ⟨a, fs, e, h.same s⟩⟩
def isR (x : V) : Rm := ⟨fun _ v => v = x, fun _ h => h⟩
inductive AllR (H : Hp) : List V → List Rm → Prop where
  | nil : AllR H [] []
  | cons {v : V} {R : Rm} {vs : List V} {Rs : List Rm} : R.r H v → AllR H vs Rs → AllR H (v :: vs) (R :: Rs)
theorem AllR.same {H H' : Hp} (s : Same H H') : ∀ {vs : List V} {Rs : List Rm}, AllR H vs Rs → AllR H' vs Rs
  | _, _, .nil => .nil
  | _, _, .cons (R := R) h t => .cons (R.m s h) (t.same s)
theorem AllR.append {H : Hp} : ∀ {vs ws : List V} {Rs Ss : List Rm}, AllR H vs Rs → AllR H ws Ss → AllR H (vs ++ ws) (Rs ++ Ss)
  | _, _, _, _, .nil, k => k
  | _, _, _, _, .cons h t, k => .cons h (t.append k)
theorem AllR.length {H : Hp} : ∀ {vs : List V} {Rs : List Rm}, AllR H vs Rs → vs.length = Rs.length
  | _, _, .nil => rfl
  | _, _, .cons _ t => congrArg Nat.succ t.length
theorem AllR.any {H : Hp} : ∀ {vs : List V} {ds : List PyData}, AllR H vs (ds.map anyR) → AnyAll H vs ds
  | _, [], .nil => .nil
  | _, d :: ds, .cons h t => .cons h t.any
theorem AllR.is {H : Hp} : ∀ {vs xs : List V}, AllR H vs (xs.map isR) → vs = xs
  | _, [], .nil => rfl
  | _, x :: xs, .cons (v := v) h t => by
    have h' : v = x := h
    rw [h', t.is]
theorem AllR.at {H : Hp} : ∀ {vs : List V} {Rs : List Rm} {i : Nat} {R : Rm}, AllR H vs Rs → Rs[i]? = some R → ∃ v, vs[i]? = some v ∧ R.r H v
  | _, _, _, _, .nil, e => by cases e
  | _, _, 0, _, .cons h _, e => ⟨_, rfl, Option.some.inj e ▸ h⟩
  | _, _, i + 1, _, .cons _ t, e => AllR.at (i := i) t e
def El (te : TE) (σ : L2.St) (H : Hp) (R : Rm) : Prop := ∀ H1, Same H H1 → ∀ Q : VK, (∀ w H2, Same H1 H2 → R.r H2 w → Q w H2) → te σ H1 Q
def ElA (ta : TA) (σ : L2.St) (H : Hp) (Rs : List Rm) : Prop := ∀ H1, Same H H1 → ∀ Q : List V → Hp → Prop, (∀ ws H2, Same H1 H2 → AllR H2 ws Rs → Q ws H2) → ta σ H1 Q
section
variable {σ : L2.St} {H : Hp} {te : TE} {ta : TA} {R : Rm} {Rs : List Rm}
theorem El.mono {H' : Hp} (s : Same H H') (h : El te σ H R) : El te σ H' R := fun H1 s1 Q q => h H1 (s.trans s1) Q q
theorem ElA.mono {H' : Hp} (s : Same H H') (h : ElA ta σ H Rs) : ElA ta σ H' Rs := fun H1 s1 Q q => h H1 (s.trans s1) Q q
theorem ela_nil : ElA tNil σ H [] := fun H1 _ _ q => q [] H1 (Same.refl H1) .nil
theorem ela_cons (h : El te σ H R) (t : ElA ta σ H Rs) : ElA (tCons te ta) σ H (R :: Rs) := fun H1 s1 Q q =>
  h H1 s1 _ fun w H2 s2 r => t H2 (s1.trans s2) _ fun ws H3 s3 rs => q (w :: ws) H3 (s2.trans s3) (.cons (R.m s3 r) rs)
theorem el_var {i : Nat} {v : V} (h : σ[i]? = some (some v)) (r : R.r H v) : El (tVar i) σ H R := fun H1 s1 _ q => ⟨v, h, q v H1 (Same.refl H1) (R.m s1 r)⟩
/-- the list at p -/
def LL (H : Hp) (p : Addr) (Rs : List Rm) : Prop := ∃ ws, H p = some (.lst ws) ∧ AllR H ws Rs
theorem LL.same {H' : Hp} {p : Addr} (h : LL H p Rs) (s : Same H H') : LL H' p Rs := let ⟨ws, e, r⟩ := h; ⟨ws, s _ _ e, r.same s⟩
theorem same_new {p : Addr} {o : HO} (n : H p = none) : Same H (upd H p o) := fun b u e => by rw [upd_ne (ne_of_none e n)]; exact e
theorem lst_step {D : Ends} {i : Nat} (h : ElA ta σ H Rs) (hl : Rs.length ≤ 100) (q : ∀ p H2, Same H H2 → LL H2 p Rs → D.nx (σ.set i (some (.ref p))) H2) : tAsg (tLst ta) (gName i) D σ H :=
  h H (Same.refl H) _ fun ws H2 s2 r => ⟨by rw [r.length, sizeLine_eq]; omega, fun p n => q p _ (s2.trans (same_new n)) ⟨ws, upd_same, r.same (same_new n)⟩⟩
theorem more_step {D : Ends} {i j : Nat} {p : Addr} {Ss : List Rm} (hp : LL H p Rs) (hv : σ[j]? = some (some (.ref p))) (h : ElA ta σ H Ss) (hl : Rs.length + Ss.length ≤ 100)
    (q : ∀ p H2, Same H H2 → LL H2 p (Rs ++ Ss) → D.nx (σ.set i (some (.ref p))) H2) : tAsg (tOp rCat (tVar j) (tLst ta)) (gName i) D σ H := by
  refine ⟨_, hv, h H (Same.refl H) _ fun zs H2 s2 r => ⟨by rw [r.length, sizeLine_eq]; omega, fun b nb => ?_⟩⟩
  obtain ⟨ws, e, rw'⟩ := hp
  have s3 := same_new (o := .lst zs) nb
  refine ⟨p, b, ws, zs, rfl, rfl, s3 _ _ (s2 _ _ e), upd_same, by rw [r.length, rw'.length, sizeLine_eq]; omega, fun p' n' => ?_⟩
  have s4 := same_new (o := .lst (ws ++ zs)) n'
  exact q p' _ ((s2.trans s3).trans s4) ⟨ws ++ zs, upd_same, ((rw'.same ((s2.trans s3).trans s4)).append (r.same (s3.trans s4)))⟩
theorem but_same {a : Addr} {o : HO} {H' : Hp} (n : H a = none) (b : But a (upd H a o) H') : Same H H' := fun x u e => by
  have ne := ne_of_none e n
  exact b x u ne (by rw [upd_ne ne]; exact e)
variable {K : PySem.W.Frag} {mg : Str → Option Value} {cj C fI : Addr} {x qual : Str} {st : Stmt} {fd : FuncData} {fs : List Str} {ds : List PyData}
theorem el_err (hl : ds.length = fs.length) (h : ElA ta σ H (ds.map anyR)) : El (tErr C fs.length (spInit C fs) (fun vs _ => vs) E0 ta) σ H (errR C) := fun H1 s1 Q q =>
  h H1 s1 _ fun us H2 s2 r => ⟨by rw [r.length, List.length_map, hl], fun a na => ⟨a, us, ds, rfl, by rw [r.length, List.length_map, hl], upd_same, all_upd (.inl na) r.any, fun ws H' _ ea bt =>
    ⟨rfl, q _ H' (s2.trans (but_same na bt)) ⟨a, _, rfl, ea⟩⟩⟩⟩
theorem el_fld {f : Str} {d : PyData} (E : Ec K mg cj C fI x qual st fd fs) (i : Nat) (hf : fs[i]? = some f) (hd : ds[i]? = some d) (nd : fs.Nodup) (hl : ds.length = fs.length) (h : ElA ta σ H (ds.map anyR)) :
    El (tEfld K f (tErr C fs.length (spInit C fs) (fun vs _ => vs) E0 ta)) σ H (anyR d) := fun H1 s1 Q q =>
  h H1 s1 _ fun us H2 s2 r => ⟨by rw [r.length, List.length_map, hl], fun a na => ⟨a, us, ds, rfl, by rw [r.length, List.length_map, hl], upd_same, all_upd (.inl na) r.any, fun ws H' aw ea bt => by
    obtain ⟨w, hw, aw⟩ := all_at aw hd
    exact ⟨rfl, a, C, _, w, rfl, ea, E.R, E.no f (List.mem_of_getElem? hf), look_at fs ws i nd hf hw, q w H' (s2.trans (but_same na bt)) aw⟩⟩⟩
theorem el_fldK {f : Str} {d : PyData} (E : Ec K mg cj C fI x qual st fd fs) (i : Nat) (hf : fs[i]? = some f) (hd : ds[i]? = some d) (nd : fs.Nodup) (hl : ds.length = fs.length) (h : ElA ta σ H (ds.map anyR)) :
    El (tEfld K f (tErrK C fs.length (spInit C fs) (fun vs zs => vs ++ zs) E0 ta)) σ H (anyR d) := fun H1 s1 Q q =>
  h H1 s1 _ fun us H2 s2 r => ⟨by rw [r.length, List.length_map, hl], fun a na => ⟨a, us, ds, rfl, by rw [r.length, List.length_map, hl], upd_same, all_upd (.inl na) r.any, fun ws H' aw ea bt => by
    obtain ⟨w, hw, aw⟩ := all_at aw hd
    exact ⟨rfl, a, C, _, w, rfl, ea, E.R, E.no f (List.mem_of_getElem? hf), look_at fs ws i nd hf hw, q w H' (s2.trans (but_same na bt)) aw⟩⟩⟩
theorem Ec.cls (E : Ec K mg cj C fI x qual st fd fs) : (PySem.W.clsIn K C).isSome = true := by obtain ⟨cd, h, _⟩ := E.m; rw [h]; rfl
theorem Ec.sub (E : Ec K mg cj C fI x qual st fd fs) (b : Value) : PySem.W.subIn K (.ref C) b = some ([Value.ref C, .ref cj, .type "ValueError", .type "Exception", .type "BaseException", .type "object"].contains b) := by
  obtain ⟨cd, h, hm⟩ := E.m
  show PySem.W.mroIn K C b = _
  unfold PySem.W.mroIn
  rw [h, Option.bind_some, hm]
  rfl
theorem kit_ref (E : Ec K mg cj C fI x qual st fd fs) {B : Addr} (hB : (PySem.W.clsIn K B).isSome = true) (hT : PySem.W.typeIn K (.ref B) = some (.type "type")) {b : Bool} (h : [Value.ref C, .ref cj, .type "ValueError", .type "Exception", .type "BaseException", .type "object"].contains (.ref B) = b) :
    PySem.W.kitOne K (.ref C) (.ref B) = some b := by
  have hc : PySem.W.kitCls K (.ref C) (.ref B) = some b := by
    show (if ((PySem.W.clsIn K B).isSome && PySem.W.typeIn K (.ref B) == some (.type "type")) = true then PySem.W.subIn K (.ref C) (.ref B) else none) = some b
    rw [hB, hT, if_pos (by rfl), E.sub, h]
  unfold PySem.W.kitOne
  by_cases e : (Value.ref C == Value.ref B) = true
  · rw [if_pos e]
    have e' : C = B := by injection beq_iff_eq.mp e
    subst e'
    rw [← h]
    simp
  · rw [if_neg e, hc]
theorem kit_ve (E : Ec K mg cj C fI x qual st fd fs) : PySem.W.kitOne K (.ref C) (.type "ValueError") = some true := by
  unfold PySem.W.kitOne
  rw [if_neg (by rw [show (Value.ref C == Value.type "ValueError") = false from rfl]; exact Bool.false_ne_true)]
  show (if PySem.W.kitMeta "ValueError" = true then PySem.W.subIn K (.ref C) (.type "ValueError") else none) = some true
  rw [if_pos (by decide +kernel), E.sub]
  rfl
end
/-- the class of the i-th error -/
structure Ek (K : PySem.W.Frag) (mg : Str → Option Value) (A : Ad) (C : Addr) : Prop where
  ex : ∃ fI x qual st fd fs, Ec K mg A.cj C fI x qual st fd fs
theorem cls_all {K : PySem.W.Frag} {mg : Str → Option Value} {A : Ad} (T : Txt K mg A) : ∀ C ∈ A.cs, Ek K mg A C := by
  intro C h
  simp only [Ad.cs, List.mem_cons, List.not_mem_nil, or_false] at h
  rcases h with rfl | rfl | rfl | rfl | rfl | rfl | rfl | rfl | rfl | rfl | rfl | rfl | rfl | rfl | rfl | rfl | rfl | rfl | rfl | rfl | rfl | rfl | rfl | rfl
  · exact ⟨_, _, _, _, _, _, T.E_TooMany⟩
  · exact ⟨_, _, _, _, _, _, T.E_BadCount⟩
  · exact ⟨_, _, _, _, _, _, T.E_BadLength⟩
  · exact ⟨_, _, _, _, _, _, T.E_NotFull⟩
  · exact ⟨_, _, _, _, _, _, T.E_BadWord⟩
  · exact ⟨_, _, _, _, _, _, T.E_Begins⟩
  · exact ⟨_, _, _, _, _, _, T.E_OtherSize⟩
  · exact ⟨_, _, _, _, _, _, T.E_BadSize⟩
  · exact ⟨_, _, _, _, _, _, T.E_NoBorder⟩
  · exact ⟨_, _, _, _, _, _, T.E_TooShort⟩
  · exact ⟨_, _, _, _, _, _, T.E_TooLong⟩
  · exact ⟨_, _, _, _, _, _, T.E_BadOver⟩
  · exact ⟨_, _, _, _, _, _, T.E_BadTie⟩
  · exact ⟨_, _, _, _, _, _, T.E_NotLeast⟩
  · exact ⟨_, _, _, _, _, _, T.E_BadSign⟩
  · exact ⟨_, _, _, _, _, _, T.E_BadRule⟩
  · exact ⟨_, _, _, _, _, _, T.E_Ring⟩
  · exact ⟨_, _, _, _, _, _, T.E_NoRule⟩
  · exact ⟨_, _, _, _, _, _, T.E_BadPlace⟩
  · exact ⟨_, _, _, _, _, _, T.E_BadBits⟩
  · exact ⟨_, _, _, _, _, _, T.E_BadNode⟩
  · exact ⟨_, _, _, _, _, _, T.E_BadTable⟩
  · exact ⟨_, _, _, _, _, _, T.E_BadLooks⟩
  · exact ⟨_, _, _, _, _, _, T.E_NoSigns⟩
theorem cls_kit {K : PySem.W.Frag} {mg : Str → Option Value} {A : Ad} (T : Txt K mg A) {i j : Nat} {C D : Addr} (hi : A.cs[i]? = some C) (hj : A.cs[j]? = some D) : PySem.W.kitOne K (.ref C) (.ref D) = some (decide (i = j)) := by
  obtain ⟨_, _, _, _, _, _, E⟩ := (cls_all T C (List.mem_of_getElem? hi)).ex
  obtain ⟨_, _, _, _, _, _, E'⟩ := (cls_all T D (List.mem_of_getElem? hj)).ex
  have nd := T.nd
  refine kit_ref E E'.cls E'.ty ?_
  have nj : D ≠ A.cj := fun z => (List.nodup_cons.mp nd).1 (z ▸ List.mem_of_getElem? hj)
  by_cases e : i = j
  · subst e
    rw [hi] at hj
    obtain rfl := Option.some.inj hj
    simp
  · have nc : D ≠ C := fun z => by
      subst z
      exact e (nd_ix (List.nodup_cons.mp nd).2 hi hj)
    rw [decide_eq_false e]
    have e1 : (Value.ref D == Value.ref C) = false := beq_eq_false_iff_ne.mpr fun z => nc (by injection z)
    have e2 : (Value.ref D == Value.ref A.cj) = false := beq_eq_false_iff_ne.mpr fun z => nj (by injection z)
    simp only [List.contains_cons, e1, e2, Bool.false_or]
    rfl
theorem el_isv {K : PySem.W.Frag} {mg : Str → Option Value} {A : Ad} {σ : L2.St} {H : Hp} {i k : Nat} {a C : Addr} {fs : List (Str × V)} (j : Nat) {D : Addr} (T : Txt K mg A) (hv : σ[k]? = some (some (.ref a))) (ea : ErrAt H a C fs) (hi : A.cs[i]? = some C) (hj : A.cs[j]? = some D) :
    El (tCB (rIsV K) (tCons (tVar k) (tCons (tC (.ref D)) tNil))) σ H (isR (.bl (decide (i = j)))) := fun H1 s1 Q q => by
  obtain ⟨_, _, _, _, _, _, E⟩ := (cls_all T C (List.mem_of_getElem? hi)).ex
  exact ⟨_, hv, a, C, fs, .ref D, .ref D, _, rfl, ea.same s1, E.R, .own D, cls_kit T hi hj, q _ H1 (Same.refl H1) rfl⟩
def dues (a b c : PyData) : List PyData := [a, b, c, a, a, a, a, b, a, b, a, a, b, a, a, a, a, a, a, a, a, a, a, a]
def spBy : Sp := fun vs H Q _ => ∃ (x y z : V) (a b c : PyData), vs = [x, y, z] ∧ AnyV H x a ∧ AnyV H y b ∧ AnyV H z c ∧ ∀ p H', Same H H' → LL H' p ((dues a b c).map anyR) → Q (.ref p) H'
def spMade (cs : List Addr) : Sp := fun vs H Q _ => ∃ (x y z : V) (a b c : PyData), vs = [x, y, z] ∧ AnyV H x a ∧ AnyV H y b ∧ AnyV H z c ∧ ∀ p H', Same H H' → LL H' p (cs.map errR) → Q (.ref p) H'
def spSorts (cs : List Addr) : Sp := fun vs H Q _ => ∃ (a C : Addr) (fs : List (Str × V)) (i : Nat), vs = [.ref a] ∧ cs[i]? = some C ∧ ErrAt H a C fs ∧ ∀ p H', Same H H' → H' p = some (.lst [.int (i : Int)]) → Q (.ref p) H'
section
variable {P : Program} {w : World} {K : PySem.W.Frag} {mg : Str → Option Value} {base : Heap} {A : Ad}
theorem sc_bypos : FnScope ["_law_a", "_law_b", "_law_c", "_law_found"] ["_law_a", "_law_b", "_law_c"] (defScope s_bypos) := ⟨rfl, rfl, rfl, by decide +kernel, rfl, by decide +kernel, by decide +kernel⟩
theorem ok_bypos (T : Txt K mg A) : FnOk P w K mg base CX0 5 A.a_bypos A.d_bypos ["_law_a", "_law_b", "_law_c"] spBy := by
  have G_TooMany := ok_TooMany (P := P) (w := w) (base := base) T
  have G_BadCount := ok_BadCount (P := P) (w := w) (base := base) T
  have G_BadLength := ok_BadLength (P := P) (w := w) (base := base) T
  have G_BadWord := ok_BadWord (P := P) (w := w) (base := base) T
  have G_Begins := ok_Begins (P := P) (w := w) (base := base) T
  have G_OtherSize := ok_OtherSize (P := P) (w := w) (base := base) T
  have G_BadSize := ok_BadSize (P := P) (w := w) (base := base) T
  have G_TooShort := ok_TooShort (P := P) (w := w) (base := base) T
  have G_TooLong := ok_TooLong (P := P) (w := w) (base := base) T
  have G_BadTie := ok_BadTie (P := P) (w := w) (base := base) T
  have G_BadSign := ok_BadSign (P := P) (w := w) (base := base) T
  have G_BadRule := ok_BadRule (P := P) (w := w) (base := base) T
  have G_Ring := ok_Ring (P := P) (w := w) (base := base) T
  have G_NoRule := ok_NoRule (P := P) (w := w) (base := base) T
  have G_BadPlace := ok_BadPlace (P := P) (w := w) (base := base) T
  have G_BadBits := ok_BadBits (P := P) (w := w) (base := base) T
  have G_BadNode := ok_BadNode (P := P) (w := w) (base := base) T
  have G_BadTable := ok_BadTable (P := P) (w := w) (base := base) T
  have G_BadLooks := ok_BadLooks (P := P) (w := w) (base := base) T
  refine T.F_bypos.ok sc_bypos (fun vs H Q E h => ?_) (fun cdv A' outer s H vs Q E hr h => ?_)
  · obtain ⟨x, y, z, a, b, c, rfl, _⟩ := h; rfl
  · obtain ⟨x, y, z, a, b, c, rfl, hx, hy, hz, kq⟩ := h
    refine ⟨_, (pss_cons (ps_set (i := 3) sc_bypos.nd rfl (Or.inl rfl) (pe_lst (pa_cons (pe_efld (pe_err T.E_TooMany.E G_TooMany (hr.mono (by decide)) (by rfl) T.E_TooMany.g T.E_TooMany.b pass0 (pa_cons (pv 0) (pa_cons (pv 1) (pa_cons (pv 2) pa_nil))) (by decide))) (pa_cons (pe_efld (pe_err T.E_TooMany.E G_TooMany (hr.mono (by decide)) (by rfl) T.E_TooMany.g T.E_TooMany.b pass0 (pa_cons (pv 0) (pa_cons (pv 1) (pa_cons (pv 2) pa_nil))) (by decide))) (pa_cons (pe_efld (pe_err T.E_TooMany.E G_TooMany (hr.mono (by decide)) (by rfl) T.E_TooMany.g T.E_TooMany.b pass0 (pa_cons (pv 0) (pa_cons (pv 1) (pa_cons (pv 2) pa_nil))) (by decide))) (pa_cons (pe_efld (pe_err T.E_BadCount.E G_BadCount (hr.mono (by decide)) (by rfl) T.E_BadCount.g T.E_BadCount.b pass0 (pa_cons (pv 0) pa_nil) (by decide))) pa_nil))))))
      (pss_cons (ps_set (i := 3) sc_bypos.nd rfl (Or.inl rfl) (pe_op op_cat (pv 3) (pe_lst (pa_cons (pe_efld (pe_err T.E_BadLength.E G_BadLength (hr.mono (by decide)) (by rfl) T.E_BadLength.g T.E_BadLength.b pass0 (pa_cons (pv 0) pa_nil) (by decide))) (pa_cons (pe_efld (pe_err T.E_BadWord.E G_BadWord (hr.mono (by decide)) (by rfl) T.E_BadWord.g T.E_BadWord.b pass0 (pa_cons (pv 0) pa_nil) (by decide))) (pa_cons (pe_efld (pe_err T.E_Begins.E G_Begins (hr.mono (by decide)) (by rfl) T.E_Begins.g T.E_Begins.b pass0 (pa_cons (pv 0) (pa_cons (pv 1) pa_nil)) (by decide))) (pa_cons (pe_efld (pe_err T.E_Begins.E G_Begins (hr.mono (by decide)) (by rfl) T.E_Begins.g T.E_Begins.b pass0 (pa_cons (pv 0) (pa_cons (pv 1) pa_nil)) (by decide))) pa_nil)))))))
      (pss_cons (ps_set (i := 3) sc_bypos.nd rfl (Or.inl rfl) (pe_op op_cat (pv 3) (pe_lst (pa_cons (pe_efld (pe_err T.E_OtherSize.E G_OtherSize (hr.mono (by decide)) (by rfl) T.E_OtherSize.g T.E_OtherSize.b pass0 (pa_cons (pv 0) (pa_cons (pv 1) pa_nil)) (by decide))) (pa_cons (pe_efld (pe_err T.E_OtherSize.E G_OtherSize (hr.mono (by decide)) (by rfl) T.E_OtherSize.g T.E_OtherSize.b pass0 (pa_cons (pv 0) (pa_cons (pv 1) pa_nil)) (by decide))) (pa_cons (pe_efld (pe_err T.E_BadSize.E G_BadSize (hr.mono (by decide)) (by rfl) T.E_BadSize.g T.E_BadSize.b pass0 (pa_cons (pv 0) pa_nil) (by decide))) (pa_cons (pe_efld (pe_err T.E_TooShort.E G_TooShort (hr.mono (by decide)) (by rfl) T.E_TooShort.g T.E_TooShort.b pass0 (pa_cons (pv 0) (pa_cons (pv 1) pa_nil)) (by decide))) pa_nil)))))))
      (pss_cons (ps_set (i := 3) sc_bypos.nd rfl (Or.inl rfl) (pe_op op_cat (pv 3) (pe_lst (pa_cons (pe_efld (pe_err T.E_TooShort.E G_TooShort (hr.mono (by decide)) (by rfl) T.E_TooShort.g T.E_TooShort.b pass0 (pa_cons (pv 0) (pa_cons (pv 1) pa_nil)) (by decide))) (pa_cons (pe_efld (pe_err T.E_TooLong.E G_TooLong (hr.mono (by decide)) (by rfl) T.E_TooLong.g T.E_TooLong.b pass0 (pa_cons (pv 0) pa_nil) (by decide))) (pa_cons (pe_efld (pe_err T.E_BadTie.E G_BadTie (hr.mono (by decide)) (by rfl) T.E_BadTie.g T.E_BadTie.b pass0 (pa_cons (pv 0) pa_nil) (by decide))) (pa_cons (pe_efld (pe_err T.E_BadSign.E G_BadSign (hr.mono (by decide)) (by rfl) T.E_BadSign.g T.E_BadSign.b pass0 (pa_cons (pv 0) pa_nil) (by decide))) pa_nil)))))))
      (pss_cons (ps_set (i := 3) sc_bypos.nd rfl (Or.inl rfl) (pe_op op_cat (pv 3) (pe_lst (pa_cons (pe_efld (pe_err T.E_BadRule.E G_BadRule (hr.mono (by decide)) (by rfl) T.E_BadRule.g T.E_BadRule.b pass0 (pa_cons (pv 0) pa_nil) (by decide))) (pa_cons (pe_efld (pe_err T.E_Ring.E G_Ring (hr.mono (by decide)) (by rfl) T.E_Ring.g T.E_Ring.b pass0 (pa_cons (pv 0) pa_nil) (by decide))) (pa_cons (pe_efld (pe_err T.E_NoRule.E G_NoRule (hr.mono (by decide)) (by rfl) T.E_NoRule.g T.E_NoRule.b pass0 (pa_cons (pv 0) pa_nil) (by decide))) (pa_cons (pe_efld (pe_err T.E_BadPlace.E G_BadPlace (hr.mono (by decide)) (by rfl) T.E_BadPlace.g T.E_BadPlace.b pass0 (pa_cons (pv 0) pa_nil) (by decide))) (pa_cons (pe_efld (pe_err T.E_BadBits.E G_BadBits (hr.mono (by decide)) (by rfl) T.E_BadBits.g T.E_BadBits.b pass0 (pa_cons (pv 0) pa_nil) (by decide))) pa_nil))))))))
      (pss_cons (ps_set (i := 3) sc_bypos.nd rfl (Or.inl rfl) (pe_op op_cat (pv 3) (pe_lst (pa_cons (pe_efld (pe_err T.E_BadNode.E G_BadNode (hr.mono (by decide)) (by rfl) T.E_BadNode.g T.E_BadNode.b pass0 (pa_cons (pv 0) pa_nil) (by decide))) (pa_cons (pe_efld (pe_err T.E_BadTable.E G_BadTable (hr.mono (by decide)) (by rfl) T.E_BadTable.g T.E_BadTable.b pass0 (pa_cons (pv 0) pa_nil) (by decide))) (pa_cons (pe_efld (pe_err T.E_BadLooks.E G_BadLooks (hr.mono (by decide)) (by rfl) T.E_BadLooks.g T.E_BadLooks.b pass0 (pa_cons (pv 0) pa_nil) (by decide))) pa_nil))))))
      (pss_one (ps_ret (pv 3))))))))), ?_⟩
    refine lst_step (i := 3) (ela_cons (el_fld (ds := [a, b, c]) T.E_TooMany 0 (by rfl) (by rfl) (by decide +kernel) rfl (ela_cons (el_var (i := 0) rfl (hx.same (Same.refl _))) (ela_cons (el_var (i := 1) rfl (hy.same (Same.refl _))) (ela_cons (el_var (i := 2) rfl (hz.same (Same.refl _))) ela_nil))))
        (ela_cons (el_fld (ds := [a, b, c]) T.E_TooMany 1 (by rfl) (by rfl) (by decide +kernel) rfl (ela_cons (el_var (i := 0) rfl (hx.same (Same.refl _))) (ela_cons (el_var (i := 1) rfl (hy.same (Same.refl _))) (ela_cons (el_var (i := 2) rfl (hz.same (Same.refl _))) ela_nil))))
        (ela_cons (el_fld (ds := [a, b, c]) T.E_TooMany 2 (by rfl) (by rfl) (by decide +kernel) rfl (ela_cons (el_var (i := 0) rfl (hx.same (Same.refl _))) (ela_cons (el_var (i := 1) rfl (hy.same (Same.refl _))) (ela_cons (el_var (i := 2) rfl (hz.same (Same.refl _))) ela_nil))))
        (ela_cons (el_fld (ds := [a]) T.E_BadCount 0 (by rfl) (by rfl) (by decide +kernel) rfl (ela_cons (el_var (i := 0) rfl (hx.same (Same.refl _))) ela_nil))
        ela_nil)))) (by show 4 ≤ 100; decide) fun p0 H0 s0 l0 => ?_
    refine more_step (i := 3) (j := 3) l0 rfl (ela_cons (el_fld (ds := [a]) T.E_BadLength 0 (by rfl) (by rfl) (by decide +kernel) rfl (ela_cons (el_var (i := 0) rfl (hx.same s0)) ela_nil))
        (ela_cons (el_fld (ds := [a]) T.E_BadWord 0 (by rfl) (by rfl) (by decide +kernel) rfl (ela_cons (el_var (i := 0) rfl (hx.same s0)) ela_nil))
        (ela_cons (el_fld (ds := [a, b]) T.E_Begins 0 (by rfl) (by rfl) (by decide +kernel) rfl (ela_cons (el_var (i := 0) rfl (hx.same s0)) (ela_cons (el_var (i := 1) rfl (hy.same s0)) ela_nil)))
        (ela_cons (el_fld (ds := [a, b]) T.E_Begins 1 (by rfl) (by rfl) (by decide +kernel) rfl (ela_cons (el_var (i := 0) rfl (hx.same s0)) (ela_cons (el_var (i := 1) rfl (hy.same s0)) ela_nil)))
        ela_nil)))) (by show 4 + 4 ≤ 100; decide) fun p1 H1 s1 l1 => ?_
    refine more_step (i := 3) (j := 3) l1 rfl (ela_cons (el_fld (ds := [a, b]) T.E_OtherSize 0 (by rfl) (by rfl) (by decide +kernel) rfl (ela_cons (el_var (i := 0) rfl (hx.same (s0.trans s1))) (ela_cons (el_var (i := 1) rfl (hy.same (s0.trans s1))) ela_nil)))
        (ela_cons (el_fld (ds := [a, b]) T.E_OtherSize 1 (by rfl) (by rfl) (by decide +kernel) rfl (ela_cons (el_var (i := 0) rfl (hx.same (s0.trans s1))) (ela_cons (el_var (i := 1) rfl (hy.same (s0.trans s1))) ela_nil)))
        (ela_cons (el_fld (ds := [a]) T.E_BadSize 0 (by rfl) (by rfl) (by decide +kernel) rfl (ela_cons (el_var (i := 0) rfl (hx.same (s0.trans s1))) ela_nil))
        (ela_cons (el_fld (ds := [a, b]) T.E_TooShort 0 (by rfl) (by rfl) (by decide +kernel) rfl (ela_cons (el_var (i := 0) rfl (hx.same (s0.trans s1))) (ela_cons (el_var (i := 1) rfl (hy.same (s0.trans s1))) ela_nil)))
        ela_nil)))) (by show 8 + 4 ≤ 100; decide) fun p2 H2 s2 l2 => ?_
    refine more_step (i := 3) (j := 3) l2 rfl (ela_cons (el_fld (ds := [a, b]) T.E_TooShort 1 (by rfl) (by rfl) (by decide +kernel) rfl (ela_cons (el_var (i := 0) rfl (hx.same ((s0.trans s1).trans s2))) (ela_cons (el_var (i := 1) rfl (hy.same ((s0.trans s1).trans s2))) ela_nil)))
        (ela_cons (el_fld (ds := [a]) T.E_TooLong 0 (by rfl) (by rfl) (by decide +kernel) rfl (ela_cons (el_var (i := 0) rfl (hx.same ((s0.trans s1).trans s2))) ela_nil))
        (ela_cons (el_fld (ds := [a]) T.E_BadTie 0 (by rfl) (by rfl) (by decide +kernel) rfl (ela_cons (el_var (i := 0) rfl (hx.same ((s0.trans s1).trans s2))) ela_nil))
        (ela_cons (el_fld (ds := [a]) T.E_BadSign 0 (by rfl) (by rfl) (by decide +kernel) rfl (ela_cons (el_var (i := 0) rfl (hx.same ((s0.trans s1).trans s2))) ela_nil))
        ela_nil)))) (by show 12 + 4 ≤ 100; decide) fun p3 H3 s3 l3 => ?_
    refine more_step (i := 3) (j := 3) l3 rfl (ela_cons (el_fld (ds := [a]) T.E_BadRule 0 (by rfl) (by rfl) (by decide +kernel) rfl (ela_cons (el_var (i := 0) rfl (hx.same (((s0.trans s1).trans s2).trans s3))) ela_nil))
        (ela_cons (el_fld (ds := [a]) T.E_Ring 0 (by rfl) (by rfl) (by decide +kernel) rfl (ela_cons (el_var (i := 0) rfl (hx.same (((s0.trans s1).trans s2).trans s3))) ela_nil))
        (ela_cons (el_fld (ds := [a]) T.E_NoRule 0 (by rfl) (by rfl) (by decide +kernel) rfl (ela_cons (el_var (i := 0) rfl (hx.same (((s0.trans s1).trans s2).trans s3))) ela_nil))
        (ela_cons (el_fld (ds := [a]) T.E_BadPlace 0 (by rfl) (by rfl) (by decide +kernel) rfl (ela_cons (el_var (i := 0) rfl (hx.same (((s0.trans s1).trans s2).trans s3))) ela_nil))
        (ela_cons (el_fld (ds := [a]) T.E_BadBits 0 (by rfl) (by rfl) (by decide +kernel) rfl (ela_cons (el_var (i := 0) rfl (hx.same (((s0.trans s1).trans s2).trans s3))) ela_nil))
        ela_nil))))) (by show 16 + 5 ≤ 100; decide) fun p4 H4 s4 l4 => ?_
    refine more_step (i := 3) (j := 3) l4 rfl (ela_cons (el_fld (ds := [a]) T.E_BadNode 0 (by rfl) (by rfl) (by decide +kernel) rfl (ela_cons (el_var (i := 0) rfl (hx.same ((((s0.trans s1).trans s2).trans s3).trans s4))) ela_nil))
        (ela_cons (el_fld (ds := [a]) T.E_BadTable 0 (by rfl) (by rfl) (by decide +kernel) rfl (ela_cons (el_var (i := 0) rfl (hx.same ((((s0.trans s1).trans s2).trans s3).trans s4))) ela_nil))
        (ela_cons (el_fld (ds := [a]) T.E_BadLooks 0 (by rfl) (by rfl) (by decide +kernel) rfl (ela_cons (el_var (i := 0) rfl (hx.same ((((s0.trans s1).trans s2).trans s3).trans s4))) ela_nil))
        ela_nil))) (by show 21 + 3 ≤ 100; decide) fun p5 H5 s5 l5 => ?_
    exact ⟨_, rfl, kq _ _ (((((s0.trans s1).trans s2).trans s3).trans s4).trans s5) l5⟩
theorem sc_byname : FnScope ["_law_a", "_law_b", "_law_c", "_law_found"] ["_law_a", "_law_b", "_law_c"] (defScope s_byname) := ⟨rfl, rfl, rfl, by decide +kernel, rfl, by decide +kernel, by decide +kernel⟩
theorem ok_byname (T : Txt K mg A) : FnOk P w K mg base CX0 5 A.a_byname A.d_byname ["_law_a", "_law_b", "_law_c"] spBy := by
  have G_TooMany := ok_TooMany (P := P) (w := w) (base := base) T
  have G_BadCount := ok_BadCount (P := P) (w := w) (base := base) T
  have G_BadLength := ok_BadLength (P := P) (w := w) (base := base) T
  have G_BadWord := ok_BadWord (P := P) (w := w) (base := base) T
  have G_Begins := ok_Begins (P := P) (w := w) (base := base) T
  have G_OtherSize := ok_OtherSize (P := P) (w := w) (base := base) T
  have G_BadSize := ok_BadSize (P := P) (w := w) (base := base) T
  have G_TooShort := ok_TooShort (P := P) (w := w) (base := base) T
  have G_TooLong := ok_TooLong (P := P) (w := w) (base := base) T
  have G_BadTie := ok_BadTie (P := P) (w := w) (base := base) T
  have G_BadSign := ok_BadSign (P := P) (w := w) (base := base) T
  have G_BadRule := ok_BadRule (P := P) (w := w) (base := base) T
  have G_Ring := ok_Ring (P := P) (w := w) (base := base) T
  have G_NoRule := ok_NoRule (P := P) (w := w) (base := base) T
  have G_BadPlace := ok_BadPlace (P := P) (w := w) (base := base) T
  have G_BadBits := ok_BadBits (P := P) (w := w) (base := base) T
  have G_BadNode := ok_BadNode (P := P) (w := w) (base := base) T
  have G_BadTable := ok_BadTable (P := P) (w := w) (base := base) T
  have G_BadLooks := ok_BadLooks (P := P) (w := w) (base := base) T
  refine T.F_byname.ok sc_byname (fun vs H Q E h => ?_) (fun cdv A' outer s H vs Q E hr h => ?_)
  · obtain ⟨x, y, z, a, b, c, rfl, _⟩ := h; rfl
  · obtain ⟨x, y, z, a, b, c, rfl, hx, hy, hz, kq⟩ := h
    refine ⟨_, (pss_cons (ps_set (i := 3) sc_byname.nd rfl (Or.inl rfl) (pe_lst (pa_cons (pe_efld (pe_errK T.E_TooMany.E G_TooMany (hr.mono (by decide)) (by rfl) T.E_TooMany.g T.E_TooMany.k pass0 (pk_cons (pv 0) (pk_cons (pv 1) (pk_cons (pv 2) pk_nil))))) (pa_cons (pe_efld (pe_errK T.E_TooMany.E G_TooMany (hr.mono (by decide)) (by rfl) T.E_TooMany.g T.E_TooMany.k pass0 (pk_cons (pv 0) (pk_cons (pv 1) (pk_cons (pv 2) pk_nil))))) pa_nil))))
      (pss_cons (ps_set (i := 3) sc_byname.nd rfl (Or.inl rfl) (pe_op op_cat (pv 3) (pe_lst (pa_cons (pe_efld (pe_errK T.E_TooMany.E G_TooMany (hr.mono (by decide)) (by rfl) T.E_TooMany.g T.E_TooMany.k pass0 (pk_cons (pv 0) (pk_cons (pv 1) (pk_cons (pv 2) pk_nil))))) (pa_cons (pe_efld (pe_errK T.E_BadCount.E G_BadCount (hr.mono (by decide)) (by rfl) T.E_BadCount.g T.E_BadCount.k pass0 (pk_cons (pv 0) pk_nil))) pa_nil)))))
      (pss_cons (ps_set (i := 3) sc_byname.nd rfl (Or.inl rfl) (pe_op op_cat (pv 3) (pe_lst (pa_cons (pe_efld (pe_errK T.E_BadLength.E G_BadLength (hr.mono (by decide)) (by rfl) T.E_BadLength.g T.E_BadLength.k pass0 (pk_cons (pv 0) pk_nil))) (pa_cons (pe_efld (pe_errK T.E_BadWord.E G_BadWord (hr.mono (by decide)) (by rfl) T.E_BadWord.g T.E_BadWord.k pass0 (pk_cons (pv 0) pk_nil))) (pa_cons (pe_efld (pe_errK T.E_Begins.E G_Begins (hr.mono (by decide)) (by rfl) T.E_Begins.g T.E_Begins.k pass0 (pk_cons (pv 0) (pk_cons (pv 1) pk_nil)))) pa_nil))))))
      (pss_cons (ps_set (i := 3) sc_byname.nd rfl (Or.inl rfl) (pe_op op_cat (pv 3) (pe_lst (pa_cons (pe_efld (pe_errK T.E_Begins.E G_Begins (hr.mono (by decide)) (by rfl) T.E_Begins.g T.E_Begins.k pass0 (pk_cons (pv 0) (pk_cons (pv 1) pk_nil)))) (pa_cons (pe_efld (pe_errK T.E_OtherSize.E G_OtherSize (hr.mono (by decide)) (by rfl) T.E_OtherSize.g T.E_OtherSize.k pass0 (pk_cons (pv 0) (pk_cons (pv 1) pk_nil)))) pa_nil)))))
      (pss_cons (ps_set (i := 3) sc_byname.nd rfl (Or.inl rfl) (pe_op op_cat (pv 3) (pe_lst (pa_cons (pe_efld (pe_errK T.E_OtherSize.E G_OtherSize (hr.mono (by decide)) (by rfl) T.E_OtherSize.g T.E_OtherSize.k pass0 (pk_cons (pv 0) (pk_cons (pv 1) pk_nil)))) (pa_cons (pe_efld (pe_errK T.E_BadSize.E G_BadSize (hr.mono (by decide)) (by rfl) T.E_BadSize.g T.E_BadSize.k pass0 (pk_cons (pv 0) pk_nil))) pa_nil)))))
      (pss_cons (ps_set (i := 3) sc_byname.nd rfl (Or.inl rfl) (pe_op op_cat (pv 3) (pe_lst (pa_cons (pe_efld (pe_errK T.E_TooShort.E G_TooShort (hr.mono (by decide)) (by rfl) T.E_TooShort.g T.E_TooShort.k pass0 (pk_cons (pv 0) (pk_cons (pv 1) pk_nil)))) (pa_cons (pe_efld (pe_errK T.E_TooShort.E G_TooShort (hr.mono (by decide)) (by rfl) T.E_TooShort.g T.E_TooShort.k pass0 (pk_cons (pv 0) (pk_cons (pv 1) pk_nil)))) (pa_cons (pe_efld (pe_errK T.E_TooLong.E G_TooLong (hr.mono (by decide)) (by rfl) T.E_TooLong.g T.E_TooLong.k pass0 (pk_cons (pv 0) pk_nil))) pa_nil))))))
      (pss_cons (ps_set (i := 3) sc_byname.nd rfl (Or.inl rfl) (pe_op op_cat (pv 3) (pe_lst (pa_cons (pe_efld (pe_errK T.E_BadTie.E G_BadTie (hr.mono (by decide)) (by rfl) T.E_BadTie.g T.E_BadTie.k pass0 (pk_cons (pv 0) pk_nil))) (pa_cons (pe_efld (pe_errK T.E_BadSign.E G_BadSign (hr.mono (by decide)) (by rfl) T.E_BadSign.g T.E_BadSign.k pass0 (pk_cons (pv 0) pk_nil))) (pa_cons (pe_efld (pe_errK T.E_BadRule.E G_BadRule (hr.mono (by decide)) (by rfl) T.E_BadRule.g T.E_BadRule.k pass0 (pk_cons (pv 0) pk_nil))) (pa_cons (pe_efld (pe_errK T.E_Ring.E G_Ring (hr.mono (by decide)) (by rfl) T.E_Ring.g T.E_Ring.k pass0 (pk_cons (pv 0) pk_nil))) pa_nil)))))))
      (pss_cons (ps_set (i := 3) sc_byname.nd rfl (Or.inl rfl) (pe_op op_cat (pv 3) (pe_lst (pa_cons (pe_efld (pe_errK T.E_NoRule.E G_NoRule (hr.mono (by decide)) (by rfl) T.E_NoRule.g T.E_NoRule.k pass0 (pk_cons (pv 0) pk_nil))) (pa_cons (pe_efld (pe_errK T.E_BadPlace.E G_BadPlace (hr.mono (by decide)) (by rfl) T.E_BadPlace.g T.E_BadPlace.k pass0 (pk_cons (pv 0) pk_nil))) (pa_cons (pe_efld (pe_errK T.E_BadBits.E G_BadBits (hr.mono (by decide)) (by rfl) T.E_BadBits.g T.E_BadBits.k pass0 (pk_cons (pv 0) pk_nil))) pa_nil))))))
      (pss_cons (ps_set (i := 3) sc_byname.nd rfl (Or.inl rfl) (pe_op op_cat (pv 3) (pe_lst (pa_cons (pe_efld (pe_errK T.E_BadNode.E G_BadNode (hr.mono (by decide)) (by rfl) T.E_BadNode.g T.E_BadNode.k pass0 (pk_cons (pv 0) pk_nil))) (pa_cons (pe_efld (pe_errK T.E_BadTable.E G_BadTable (hr.mono (by decide)) (by rfl) T.E_BadTable.g T.E_BadTable.k pass0 (pk_cons (pv 0) pk_nil))) (pa_cons (pe_efld (pe_errK T.E_BadLooks.E G_BadLooks (hr.mono (by decide)) (by rfl) T.E_BadLooks.g T.E_BadLooks.k pass0 (pk_cons (pv 0) pk_nil))) pa_nil))))))
      (pss_one (ps_ret (pv 3)))))))))))), ?_⟩
    refine lst_step (i := 3) (ela_cons (el_fldK (ds := [a, b, c]) T.E_TooMany 0 (by rfl) (by rfl) (by decide +kernel) rfl (ela_cons (el_var (i := 0) rfl (hx.same (Same.refl _))) (ela_cons (el_var (i := 1) rfl (hy.same (Same.refl _))) (ela_cons (el_var (i := 2) rfl (hz.same (Same.refl _))) ela_nil))))
        (ela_cons (el_fldK (ds := [a, b, c]) T.E_TooMany 1 (by rfl) (by rfl) (by decide +kernel) rfl (ela_cons (el_var (i := 0) rfl (hx.same (Same.refl _))) (ela_cons (el_var (i := 1) rfl (hy.same (Same.refl _))) (ela_cons (el_var (i := 2) rfl (hz.same (Same.refl _))) ela_nil))))
        ela_nil)) (by show 2 ≤ 100; decide) fun p0 H0 s0 l0 => ?_
    refine more_step (i := 3) (j := 3) l0 rfl (ela_cons (el_fldK (ds := [a, b, c]) T.E_TooMany 2 (by rfl) (by rfl) (by decide +kernel) rfl (ela_cons (el_var (i := 0) rfl (hx.same s0)) (ela_cons (el_var (i := 1) rfl (hy.same s0)) (ela_cons (el_var (i := 2) rfl (hz.same s0)) ela_nil))))
        (ela_cons (el_fldK (ds := [a]) T.E_BadCount 0 (by rfl) (by rfl) (by decide +kernel) rfl (ela_cons (el_var (i := 0) rfl (hx.same s0)) ela_nil))
        ela_nil)) (by show 2 + 2 ≤ 100; decide) fun p1 H1 s1 l1 => ?_
    refine more_step (i := 3) (j := 3) l1 rfl (ela_cons (el_fldK (ds := [a]) T.E_BadLength 0 (by rfl) (by rfl) (by decide +kernel) rfl (ela_cons (el_var (i := 0) rfl (hx.same (s0.trans s1))) ela_nil))
        (ela_cons (el_fldK (ds := [a]) T.E_BadWord 0 (by rfl) (by rfl) (by decide +kernel) rfl (ela_cons (el_var (i := 0) rfl (hx.same (s0.trans s1))) ela_nil))
        (ela_cons (el_fldK (ds := [a, b]) T.E_Begins 0 (by rfl) (by rfl) (by decide +kernel) rfl (ela_cons (el_var (i := 0) rfl (hx.same (s0.trans s1))) (ela_cons (el_var (i := 1) rfl (hy.same (s0.trans s1))) ela_nil)))
        ela_nil))) (by show 4 + 3 ≤ 100; decide) fun p2 H2 s2 l2 => ?_
    refine more_step (i := 3) (j := 3) l2 rfl (ela_cons (el_fldK (ds := [a, b]) T.E_Begins 1 (by rfl) (by rfl) (by decide +kernel) rfl (ela_cons (el_var (i := 0) rfl (hx.same ((s0.trans s1).trans s2))) (ela_cons (el_var (i := 1) rfl (hy.same ((s0.trans s1).trans s2))) ela_nil)))
        (ela_cons (el_fldK (ds := [a, b]) T.E_OtherSize 0 (by rfl) (by rfl) (by decide +kernel) rfl (ela_cons (el_var (i := 0) rfl (hx.same ((s0.trans s1).trans s2))) (ela_cons (el_var (i := 1) rfl (hy.same ((s0.trans s1).trans s2))) ela_nil)))
        ela_nil)) (by show 7 + 2 ≤ 100; decide) fun p3 H3 s3 l3 => ?_
    refine more_step (i := 3) (j := 3) l3 rfl (ela_cons (el_fldK (ds := [a, b]) T.E_OtherSize 1 (by rfl) (by rfl) (by decide +kernel) rfl (ela_cons (el_var (i := 0) rfl (hx.same (((s0.trans s1).trans s2).trans s3))) (ela_cons (el_var (i := 1) rfl (hy.same (((s0.trans s1).trans s2).trans s3))) ela_nil)))
        (ela_cons (el_fldK (ds := [a]) T.E_BadSize 0 (by rfl) (by rfl) (by decide +kernel) rfl (ela_cons (el_var (i := 0) rfl (hx.same (((s0.trans s1).trans s2).trans s3))) ela_nil))
        ela_nil)) (by show 9 + 2 ≤ 100; decide) fun p4 H4 s4 l4 => ?_
    refine more_step (i := 3) (j := 3) l4 rfl (ela_cons (el_fldK (ds := [a, b]) T.E_TooShort 0 (by rfl) (by rfl) (by decide +kernel) rfl (ela_cons (el_var (i := 0) rfl (hx.same ((((s0.trans s1).trans s2).trans s3).trans s4))) (ela_cons (el_var (i := 1) rfl (hy.same ((((s0.trans s1).trans s2).trans s3).trans s4))) ela_nil)))
        (ela_cons (el_fldK (ds := [a, b]) T.E_TooShort 1 (by rfl) (by rfl) (by decide +kernel) rfl (ela_cons (el_var (i := 0) rfl (hx.same ((((s0.trans s1).trans s2).trans s3).trans s4))) (ela_cons (el_var (i := 1) rfl (hy.same ((((s0.trans s1).trans s2).trans s3).trans s4))) ela_nil)))
        (ela_cons (el_fldK (ds := [a]) T.E_TooLong 0 (by rfl) (by rfl) (by decide +kernel) rfl (ela_cons (el_var (i := 0) rfl (hx.same ((((s0.trans s1).trans s2).trans s3).trans s4))) ela_nil))
        ela_nil))) (by show 11 + 3 ≤ 100; decide) fun p5 H5 s5 l5 => ?_
    refine more_step (i := 3) (j := 3) l5 rfl (ela_cons (el_fldK (ds := [a]) T.E_BadTie 0 (by rfl) (by rfl) (by decide +kernel) rfl (ela_cons (el_var (i := 0) rfl (hx.same (((((s0.trans s1).trans s2).trans s3).trans s4).trans s5))) ela_nil))
        (ela_cons (el_fldK (ds := [a]) T.E_BadSign 0 (by rfl) (by rfl) (by decide +kernel) rfl (ela_cons (el_var (i := 0) rfl (hx.same (((((s0.trans s1).trans s2).trans s3).trans s4).trans s5))) ela_nil))
        (ela_cons (el_fldK (ds := [a]) T.E_BadRule 0 (by rfl) (by rfl) (by decide +kernel) rfl (ela_cons (el_var (i := 0) rfl (hx.same (((((s0.trans s1).trans s2).trans s3).trans s4).trans s5))) ela_nil))
        (ela_cons (el_fldK (ds := [a]) T.E_Ring 0 (by rfl) (by rfl) (by decide +kernel) rfl (ela_cons (el_var (i := 0) rfl (hx.same (((((s0.trans s1).trans s2).trans s3).trans s4).trans s5))) ela_nil))
        ela_nil)))) (by show 14 + 4 ≤ 100; decide) fun p6 H6 s6 l6 => ?_
    refine more_step (i := 3) (j := 3) l6 rfl (ela_cons (el_fldK (ds := [a]) T.E_NoRule 0 (by rfl) (by rfl) (by decide +kernel) rfl (ela_cons (el_var (i := 0) rfl (hx.same ((((((s0.trans s1).trans s2).trans s3).trans s4).trans s5).trans s6))) ela_nil))
        (ela_cons (el_fldK (ds := [a]) T.E_BadPlace 0 (by rfl) (by rfl) (by decide +kernel) rfl (ela_cons (el_var (i := 0) rfl (hx.same ((((((s0.trans s1).trans s2).trans s3).trans s4).trans s5).trans s6))) ela_nil))
        (ela_cons (el_fldK (ds := [a]) T.E_BadBits 0 (by rfl) (by rfl) (by decide +kernel) rfl (ela_cons (el_var (i := 0) rfl (hx.same ((((((s0.trans s1).trans s2).trans s3).trans s4).trans s5).trans s6))) ela_nil))
        ela_nil))) (by show 18 + 3 ≤ 100; decide) fun p7 H7 s7 l7 => ?_
    refine more_step (i := 3) (j := 3) l7 rfl (ela_cons (el_fldK (ds := [a]) T.E_BadNode 0 (by rfl) (by rfl) (by decide +kernel) rfl (ela_cons (el_var (i := 0) rfl (hx.same (((((((s0.trans s1).trans s2).trans s3).trans s4).trans s5).trans s6).trans s7))) ela_nil))
        (ela_cons (el_fldK (ds := [a]) T.E_BadTable 0 (by rfl) (by rfl) (by decide +kernel) rfl (ela_cons (el_var (i := 0) rfl (hx.same (((((((s0.trans s1).trans s2).trans s3).trans s4).trans s5).trans s6).trans s7))) ela_nil))
        (ela_cons (el_fldK (ds := [a]) T.E_BadLooks 0 (by rfl) (by rfl) (by decide +kernel) rfl (ela_cons (el_var (i := 0) rfl (hx.same (((((((s0.trans s1).trans s2).trans s3).trans s4).trans s5).trans s6).trans s7))) ela_nil))
        ela_nil))) (by show 21 + 3 ≤ 100; decide) fun p8 H8 s8 l8 => ?_
    exact ⟨_, rfl, kq _ _ ((((((((s0.trans s1).trans s2).trans s3).trans s4).trans s5).trans s6).trans s7).trans s8) l8⟩
theorem sc_made : FnScope ["_law_a", "_law_b", "_law_c", "_law_found"] ["_law_a", "_law_b", "_law_c"] (defScope s_made) := ⟨rfl, rfl, rfl, by decide +kernel, rfl, by decide +kernel, by decide +kernel⟩
theorem ok_made (T : Txt K mg A) : FnOk P w K mg base CX0 5 A.a_made A.d_made ["_law_a", "_law_b", "_law_c"] (spMade A.cs) := by
  have G_TooMany := ok_TooMany (P := P) (w := w) (base := base) T
  have G_BadCount := ok_BadCount (P := P) (w := w) (base := base) T
  have G_BadLength := ok_BadLength (P := P) (w := w) (base := base) T
  have G_NotFull := ok_NotFull (P := P) (w := w) (base := base) T
  have G_BadWord := ok_BadWord (P := P) (w := w) (base := base) T
  have G_Begins := ok_Begins (P := P) (w := w) (base := base) T
  have G_OtherSize := ok_OtherSize (P := P) (w := w) (base := base) T
  have G_BadSize := ok_BadSize (P := P) (w := w) (base := base) T
  have G_NoBorder := ok_NoBorder (P := P) (w := w) (base := base) T
  have G_TooShort := ok_TooShort (P := P) (w := w) (base := base) T
  have G_TooLong := ok_TooLong (P := P) (w := w) (base := base) T
  have G_BadOver := ok_BadOver (P := P) (w := w) (base := base) T
  have G_BadTie := ok_BadTie (P := P) (w := w) (base := base) T
  have G_NotLeast := ok_NotLeast (P := P) (w := w) (base := base) T
  have G_BadSign := ok_BadSign (P := P) (w := w) (base := base) T
  have G_BadRule := ok_BadRule (P := P) (w := w) (base := base) T
  have G_Ring := ok_Ring (P := P) (w := w) (base := base) T
  have G_NoRule := ok_NoRule (P := P) (w := w) (base := base) T
  have G_BadPlace := ok_BadPlace (P := P) (w := w) (base := base) T
  have G_BadBits := ok_BadBits (P := P) (w := w) (base := base) T
  have G_BadNode := ok_BadNode (P := P) (w := w) (base := base) T
  have G_BadTable := ok_BadTable (P := P) (w := w) (base := base) T
  have G_BadLooks := ok_BadLooks (P := P) (w := w) (base := base) T
  have G_NoSigns := ok_NoSigns (P := P) (w := w) (base := base) T
  refine T.F_made.ok sc_made (fun vs H Q E h => ?_) (fun cdv A' outer s H vs Q E hr h => ?_)
  · obtain ⟨x, y, z, a, b, c, rfl, _⟩ := h; rfl
  · obtain ⟨x, y, z, a, b, c, rfl, hx, hy, hz, kq⟩ := h
    refine ⟨_, (pss_cons (ps_set (i := 3) sc_made.nd rfl (Or.inl rfl) (pe_lst (pa_cons (pe_err T.E_TooMany.E G_TooMany (hr.mono (by decide)) (by rfl) T.E_TooMany.g T.E_TooMany.b pass0 (pa_cons (pv 0) (pa_cons (pv 1) (pa_cons (pv 2) pa_nil))) (by decide)) (pa_cons (pe_err T.E_BadCount.E G_BadCount (hr.mono (by decide)) (by rfl) T.E_BadCount.g T.E_BadCount.b pass0 (pa_cons (pv 0) pa_nil) (by decide)) (pa_cons (pe_err T.E_BadLength.E G_BadLength (hr.mono (by decide)) (by rfl) T.E_BadLength.g T.E_BadLength.b pass0 (pa_cons (pv 0) pa_nil) (by decide)) (pa_cons (pe_err0 T.E_NotFull.E G_NotFull (hr.mono (by decide)) (by rfl) T.E_NotFull.g T.E_NotFull.b pass0) (pa_cons (pe_err T.E_BadWord.E G_BadWord (hr.mono (by decide)) (by rfl) T.E_BadWord.g T.E_BadWord.b pass0 (pa_cons (pv 0) pa_nil) (by decide)) (pa_cons (pe_err T.E_Begins.E G_Begins (hr.mono (by decide)) (by rfl) T.E_Begins.g T.E_Begins.b pass0 (pa_cons (pv 0) (pa_cons (pv 1) pa_nil)) (by decide)) pa_nil))))))))
      (pss_cons (ps_set (i := 3) sc_made.nd rfl (Or.inl rfl) (pe_op op_cat (pv 3) (pe_lst (pa_cons (pe_err T.E_OtherSize.E G_OtherSize (hr.mono (by decide)) (by rfl) T.E_OtherSize.g T.E_OtherSize.b pass0 (pa_cons (pv 0) (pa_cons (pv 1) pa_nil)) (by decide)) (pa_cons (pe_err T.E_BadSize.E G_BadSize (hr.mono (by decide)) (by rfl) T.E_BadSize.g T.E_BadSize.b pass0 (pa_cons (pv 0) pa_nil) (by decide)) (pa_cons (pe_err0 T.E_NoBorder.E G_NoBorder (hr.mono (by decide)) (by rfl) T.E_NoBorder.g T.E_NoBorder.b pass0) (pa_cons (pe_err T.E_TooShort.E G_TooShort (hr.mono (by decide)) (by rfl) T.E_TooShort.g T.E_TooShort.b pass0 (pa_cons (pv 0) (pa_cons (pv 1) pa_nil)) (by decide)) (pa_cons (pe_err T.E_TooLong.E G_TooLong (hr.mono (by decide)) (by rfl) T.E_TooLong.g T.E_TooLong.b pass0 (pa_cons (pv 0) pa_nil) (by decide)) (pa_cons (pe_err0 T.E_BadOver.E G_BadOver (hr.mono (by decide)) (by rfl) T.E_BadOver.g T.E_BadOver.b pass0) pa_nil)))))))))
      (pss_cons (ps_set (i := 3) sc_made.nd rfl (Or.inl rfl) (pe_op op_cat (pv 3) (pe_lst (pa_cons (pe_err T.E_BadTie.E G_BadTie (hr.mono (by decide)) (by rfl) T.E_BadTie.g T.E_BadTie.b pass0 (pa_cons (pv 0) pa_nil) (by decide)) (pa_cons (pe_err0 T.E_NotLeast.E G_NotLeast (hr.mono (by decide)) (by rfl) T.E_NotLeast.g T.E_NotLeast.b pass0) (pa_cons (pe_err T.E_BadSign.E G_BadSign (hr.mono (by decide)) (by rfl) T.E_BadSign.g T.E_BadSign.b pass0 (pa_cons (pv 0) pa_nil) (by decide)) (pa_cons (pe_err T.E_BadRule.E G_BadRule (hr.mono (by decide)) (by rfl) T.E_BadRule.g T.E_BadRule.b pass0 (pa_cons (pv 0) pa_nil) (by decide)) (pa_cons (pe_err T.E_Ring.E G_Ring (hr.mono (by decide)) (by rfl) T.E_Ring.g T.E_Ring.b pass0 (pa_cons (pv 0) pa_nil) (by decide)) (pa_cons (pe_err T.E_NoRule.E G_NoRule (hr.mono (by decide)) (by rfl) T.E_NoRule.g T.E_NoRule.b pass0 (pa_cons (pv 0) pa_nil) (by decide)) (pa_cons (pe_err T.E_BadPlace.E G_BadPlace (hr.mono (by decide)) (by rfl) T.E_BadPlace.g T.E_BadPlace.b pass0 (pa_cons (pv 0) pa_nil) (by decide)) pa_nil))))))))))
      (pss_cons (ps_set (i := 3) sc_made.nd rfl (Or.inl rfl) (pe_op op_cat (pv 3) (pe_lst (pa_cons (pe_err T.E_BadBits.E G_BadBits (hr.mono (by decide)) (by rfl) T.E_BadBits.g T.E_BadBits.b pass0 (pa_cons (pv 0) pa_nil) (by decide)) (pa_cons (pe_err T.E_BadNode.E G_BadNode (hr.mono (by decide)) (by rfl) T.E_BadNode.g T.E_BadNode.b pass0 (pa_cons (pv 0) pa_nil) (by decide)) (pa_cons (pe_err T.E_BadTable.E G_BadTable (hr.mono (by decide)) (by rfl) T.E_BadTable.g T.E_BadTable.b pass0 (pa_cons (pv 0) pa_nil) (by decide)) (pa_cons (pe_err T.E_BadLooks.E G_BadLooks (hr.mono (by decide)) (by rfl) T.E_BadLooks.g T.E_BadLooks.b pass0 (pa_cons (pv 0) pa_nil) (by decide)) (pa_cons (pe_err0 T.E_NoSigns.E G_NoSigns (hr.mono (by decide)) (by rfl) T.E_NoSigns.g T.E_NoSigns.b pass0) pa_nil))))))))
      (pss_one (ps_ret (pv 3))))))), ?_⟩
    refine lst_step (i := 3) (ela_cons (el_err (ds := [a, b, c]) (fs := ["what", "many", "most"]) rfl (ela_cons (el_var (i := 0) rfl (hx.same (Same.refl _))) (ela_cons (el_var (i := 1) rfl (hy.same (Same.refl _))) (ela_cons (el_var (i := 2) rfl (hz.same (Same.refl _))) ela_nil))))
        (ela_cons (el_err (ds := [a]) (fs := ["index"]) rfl (ela_cons (el_var (i := 0) rfl (hx.same (Same.refl _))) ela_nil))
        (ela_cons (el_err (ds := [a]) (fs := ["index"]) rfl (ela_cons (el_var (i := 0) rfl (hx.same (Same.refl _))) ela_nil))
        (ela_cons (el_err (ds := []) (fs := []) rfl ela_nil)
        (ela_cons (el_err (ds := [a]) (fs := ["index"]) rfl (ela_cons (el_var (i := 0) rfl (hx.same (Same.refl _))) ela_nil))
        (ela_cons (el_err (ds := [a, b]) (fs := ["index", "other"]) rfl (ela_cons (el_var (i := 0) rfl (hx.same (Same.refl _))) (ela_cons (el_var (i := 1) rfl (hy.same (Same.refl _))) ela_nil)))
        ela_nil)))))) (by show 6 ≤ 100; decide) fun p0 H0 s0 l0 => ?_
    refine more_step (i := 3) (j := 3) l0 rfl (ela_cons (el_err (ds := [a, b]) (fs := ["many", "wanted"]) rfl (ela_cons (el_var (i := 0) rfl (hx.same s0)) (ela_cons (el_var (i := 1) rfl (hy.same s0)) ela_nil)))
        (ela_cons (el_err (ds := [a]) (fs := ["size"]) rfl (ela_cons (el_var (i := 0) rfl (hx.same s0)) ela_nil))
        (ela_cons (el_err (ds := []) (fs := []) rfl ela_nil)
        (ela_cons (el_err (ds := [a, b]) (fs := ["most", "least"]) rfl (ela_cons (el_var (i := 0) rfl (hx.same s0)) (ela_cons (el_var (i := 1) rfl (hy.same s0)) ela_nil)))
        (ela_cons (el_err (ds := [a]) (fs := ["sign"]) rfl (ela_cons (el_var (i := 0) rfl (hx.same s0)) ela_nil))
        (ela_cons (el_err (ds := []) (fs := []) rfl ela_nil)
        ela_nil)))))) (by show 6 + 6 ≤ 100; decide) fun p1 H1 s1 l1 => ?_
    refine more_step (i := 3) (j := 3) l1 rfl (ela_cons (el_err (ds := [a]) (fs := ["tie"]) rfl (ela_cons (el_var (i := 0) rfl (hx.same (s0.trans s1))) ela_nil))
        (ela_cons (el_err (ds := []) (fs := []) rfl ela_nil)
        (ela_cons (el_err (ds := [a]) (fs := ["index"]) rfl (ela_cons (el_var (i := 0) rfl (hx.same (s0.trans s1))) ela_nil))
        (ela_cons (el_err (ds := [a]) (fs := ["name"]) rfl (ela_cons (el_var (i := 0) rfl (hx.same (s0.trans s1))) ela_nil))
        (ela_cons (el_err (ds := [a]) (fs := ["name"]) rfl (ela_cons (el_var (i := 0) rfl (hx.same (s0.trans s1))) ela_nil))
        (ela_cons (el_err (ds := [a]) (fs := ["root"]) rfl (ela_cons (el_var (i := 0) rfl (hx.same (s0.trans s1))) ela_nil))
        (ela_cons (el_err (ds := [a]) (fs := ["place"]) rfl (ela_cons (el_var (i := 0) rfl (hx.same (s0.trans s1))) ela_nil))
        ela_nil))))))) (by show 12 + 7 ≤ 100; decide) fun p2 H2 s2 l2 => ?_
    refine more_step (i := 3) (j := 3) l2 rfl (ela_cons (el_err (ds := [a]) (fs := ["index"]) rfl (ela_cons (el_var (i := 0) rfl (hx.same ((s0.trans s1).trans s2))) ela_nil))
        (ela_cons (el_err (ds := [a]) (fs := ["node"]) rfl (ela_cons (el_var (i := 0) rfl (hx.same ((s0.trans s1).trans s2))) ela_nil))
        (ela_cons (el_err (ds := [a]) (fs := ["node"]) rfl (ela_cons (el_var (i := 0) rfl (hx.same ((s0.trans s1).trans s2))) ela_nil))
        (ela_cons (el_err (ds := [a]) (fs := ["looks"]) rfl (ela_cons (el_var (i := 0) rfl (hx.same ((s0.trans s1).trans s2))) ela_nil))
        (ela_cons (el_err (ds := []) (fs := []) rfl ela_nil)
        ela_nil))))) (by show 19 + 5 ≤ 100; decide) fun p3 H3 s3 l3 => ?_
    exact ⟨_, rfl, kq _ _ (((s0.trans s1).trans s2).trans s3) l3⟩
-- ["_law_error", "_law_found", "_law_k"] {'_law_found'}
theorem sc_sorts : FnScope ["_law_error", "_law_found", "_law_k"] ["_law_error"] (defScope s_sorts) := ⟨rfl, rfl, rfl, by decide +kernel, rfl, by decide +kernel, by decide +kernel⟩
theorem ok_sorts (T : Txt K mg A) : FnOk P w K mg base CX0 1 A.a_sorts A.d_sorts ["_law_error"] (spSorts A.cs) := by
  refine T.F_sorts.ok sc_sorts (fun vs H Q E h => ?_) (fun cdv A' outer s H vs Q E hr h => ?_)
  · obtain ⟨a, C, fs, i, rfl, _⟩ := h; rfl
  · obtain ⟨a, C, fs, i, rfl, hi, ea, kq⟩ := h
    refine ⟨_, (pss_cons (ps_set (i := 1) sc_sorts.nd rfl (Or.inr rfl) (pe_lst (pa_cons (pe_callB call_isV (by rfl) T.z_isinstance (by decide +kernel) (pa_cons (pv 0) (pa_cons (pe_glob (v := .ref A.c_TooMany) (by rfl) T.E_TooMany.g rfl) pa_nil))) (pa_cons (pe_callB call_isV (by rfl) T.z_isinstance (by decide +kernel) (pa_cons (pv 0) (pa_cons (pe_glob (v := .ref A.c_BadCount) (by rfl) T.E_BadCount.g rfl) pa_nil))) (pa_cons (pe_callB call_isV (by rfl) T.z_isinstance (by decide +kernel) (pa_cons (pv 0) (pa_cons (pe_glob (v := .ref A.c_BadLength) (by rfl) T.E_BadLength.g rfl) pa_nil))) pa_nil)))))
      (pss_cons (ps_set (i := 1) sc_sorts.nd rfl (Or.inr rfl) (pe_op op_cat (pv 1) (pe_lst (pa_cons (pe_callB call_isV (by rfl) T.z_isinstance (by decide +kernel) (pa_cons (pv 0) (pa_cons (pe_glob (v := .ref A.c_NotFull) (by rfl) T.E_NotFull.g rfl) pa_nil))) (pa_cons (pe_callB call_isV (by rfl) T.z_isinstance (by decide +kernel) (pa_cons (pv 0) (pa_cons (pe_glob (v := .ref A.c_BadWord) (by rfl) T.E_BadWord.g rfl) pa_nil))) (pa_cons (pe_callB call_isV (by rfl) T.z_isinstance (by decide +kernel) (pa_cons (pv 0) (pa_cons (pe_glob (v := .ref A.c_Begins) (by rfl) T.E_Begins.g rfl) pa_nil))) pa_nil))))))
      (pss_cons (ps_set (i := 1) sc_sorts.nd rfl (Or.inr rfl) (pe_op op_cat (pv 1) (pe_lst (pa_cons (pe_callB call_isV (by rfl) T.z_isinstance (by decide +kernel) (pa_cons (pv 0) (pa_cons (pe_glob (v := .ref A.c_OtherSize) (by rfl) T.E_OtherSize.g rfl) pa_nil))) (pa_cons (pe_callB call_isV (by rfl) T.z_isinstance (by decide +kernel) (pa_cons (pv 0) (pa_cons (pe_glob (v := .ref A.c_BadSize) (by rfl) T.E_BadSize.g rfl) pa_nil))) (pa_cons (pe_callB call_isV (by rfl) T.z_isinstance (by decide +kernel) (pa_cons (pv 0) (pa_cons (pe_glob (v := .ref A.c_NoBorder) (by rfl) T.E_NoBorder.g rfl) pa_nil))) pa_nil))))))
      (pss_cons (ps_set (i := 1) sc_sorts.nd rfl (Or.inr rfl) (pe_op op_cat (pv 1) (pe_lst (pa_cons (pe_callB call_isV (by rfl) T.z_isinstance (by decide +kernel) (pa_cons (pv 0) (pa_cons (pe_glob (v := .ref A.c_TooShort) (by rfl) T.E_TooShort.g rfl) pa_nil))) (pa_cons (pe_callB call_isV (by rfl) T.z_isinstance (by decide +kernel) (pa_cons (pv 0) (pa_cons (pe_glob (v := .ref A.c_TooLong) (by rfl) T.E_TooLong.g rfl) pa_nil))) (pa_cons (pe_callB call_isV (by rfl) T.z_isinstance (by decide +kernel) (pa_cons (pv 0) (pa_cons (pe_glob (v := .ref A.c_BadOver) (by rfl) T.E_BadOver.g rfl) pa_nil))) pa_nil))))))
      (pss_cons (ps_set (i := 1) sc_sorts.nd rfl (Or.inr rfl) (pe_op op_cat (pv 1) (pe_lst (pa_cons (pe_callB call_isV (by rfl) T.z_isinstance (by decide +kernel) (pa_cons (pv 0) (pa_cons (pe_glob (v := .ref A.c_BadTie) (by rfl) T.E_BadTie.g rfl) pa_nil))) (pa_cons (pe_callB call_isV (by rfl) T.z_isinstance (by decide +kernel) (pa_cons (pv 0) (pa_cons (pe_glob (v := .ref A.c_NotLeast) (by rfl) T.E_NotLeast.g rfl) pa_nil))) (pa_cons (pe_callB call_isV (by rfl) T.z_isinstance (by decide +kernel) (pa_cons (pv 0) (pa_cons (pe_glob (v := .ref A.c_BadSign) (by rfl) T.E_BadSign.g rfl) pa_nil))) pa_nil))))))
      (pss_cons (ps_set (i := 1) sc_sorts.nd rfl (Or.inr rfl) (pe_op op_cat (pv 1) (pe_lst (pa_cons (pe_callB call_isV (by rfl) T.z_isinstance (by decide +kernel) (pa_cons (pv 0) (pa_cons (pe_glob (v := .ref A.c_BadRule) (by rfl) T.E_BadRule.g rfl) pa_nil))) (pa_cons (pe_callB call_isV (by rfl) T.z_isinstance (by decide +kernel) (pa_cons (pv 0) (pa_cons (pe_glob (v := .ref A.c_Ring) (by rfl) T.E_Ring.g rfl) pa_nil))) (pa_cons (pe_callB call_isV (by rfl) T.z_isinstance (by decide +kernel) (pa_cons (pv 0) (pa_cons (pe_glob (v := .ref A.c_NoRule) (by rfl) T.E_NoRule.g rfl) pa_nil))) pa_nil))))))
      (pss_cons (ps_set (i := 1) sc_sorts.nd rfl (Or.inr rfl) (pe_op op_cat (pv 1) (pe_lst (pa_cons (pe_callB call_isV (by rfl) T.z_isinstance (by decide +kernel) (pa_cons (pv 0) (pa_cons (pe_glob (v := .ref A.c_BadPlace) (by rfl) T.E_BadPlace.g rfl) pa_nil))) (pa_cons (pe_callB call_isV (by rfl) T.z_isinstance (by decide +kernel) (pa_cons (pv 0) (pa_cons (pe_glob (v := .ref A.c_BadBits) (by rfl) T.E_BadBits.g rfl) pa_nil))) (pa_cons (pe_callB call_isV (by rfl) T.z_isinstance (by decide +kernel) (pa_cons (pv 0) (pa_cons (pe_glob (v := .ref A.c_BadNode) (by rfl) T.E_BadNode.g rfl) pa_nil))) pa_nil))))))
      (pss_cons (ps_set (i := 1) sc_sorts.nd rfl (Or.inr rfl) (pe_op op_cat (pv 1) (pe_lst (pa_cons (pe_callB call_isV (by rfl) T.z_isinstance (by decide +kernel) (pa_cons (pv 0) (pa_cons (pe_glob (v := .ref A.c_BadTable) (by rfl) T.E_BadTable.g rfl) pa_nil))) (pa_cons (pe_callB call_isV (by rfl) T.z_isinstance (by decide +kernel) (pa_cons (pv 0) (pa_cons (pe_glob (v := .ref A.c_BadLooks) (by rfl) T.E_BadLooks.g rfl) pa_nil))) (pa_cons (pe_callB call_isV (by rfl) T.z_isinstance (by decide +kernel) (pa_cons (pv 0) (pa_cons (pe_glob (v := .ref A.c_NoSigns) (by rfl) T.E_NoSigns.g rfl) pa_nil))) pa_nil))))))
      (pss_one (ps_ret (pe_lc (own := [("_law_k", 2)]) (by rfl) sc_sorts.nd (pi_range1 (by rfl) T.z_range (pa_cons (pe_callB call_len_seq (by rfl) T.z_len PySem.boot_len (pa_cons (pv 1) pa_nil)) pa_nil)) (blkOk_by (own := [("_law_k", 2)]) (N := ["_law_error", "_law_found", "_law_k"]) (sc := defScope s_sorts) (by decide +kernel)) (fun _ _ _ _ _ => (pg_name (i := 2) sc_sorts.nd rfl (Or.inl rfl))) (fun _ _ _ _ _ => (pts_one (pt_val (pe_ix (r := rIxL K) ix_list (pv 1) (pv 2) (fun _ _ => rfl))))) (fun _ _ _ _ _ => (pv 2))))))))))))), ?_⟩
    refine lst_step (i := 1) (ela_cons (el_isv 0 T rfl (ea.same (Same.refl _)) hi rfl) (ela_cons (el_isv 1 T rfl (ea.same (Same.refl _)) hi rfl) (ela_cons (el_isv 2 T rfl (ea.same (Same.refl _)) hi rfl) ela_nil))) (by show 3 ≤ 100; decide) fun p0 H0 s0 l0 => ?_
    refine more_step (i := 1) (j := 1) l0 rfl (ela_cons (el_isv 3 T rfl (ea.same s0) hi rfl) (ela_cons (el_isv 4 T rfl (ea.same s0) hi rfl) (ela_cons (el_isv 5 T rfl (ea.same s0) hi rfl) ela_nil))) (by show 3 + 3 ≤ 100; decide) fun p1 H1 s1 l1 => ?_
    refine more_step (i := 1) (j := 1) l1 rfl (ela_cons (el_isv 6 T rfl (ea.same (s0.trans s1)) hi rfl) (ela_cons (el_isv 7 T rfl (ea.same (s0.trans s1)) hi rfl) (ela_cons (el_isv 8 T rfl (ea.same (s0.trans s1)) hi rfl) ela_nil))) (by show 6 + 3 ≤ 100; decide) fun p2 H2 s2 l2 => ?_
    refine more_step (i := 1) (j := 1) l2 rfl (ela_cons (el_isv 9 T rfl (ea.same ((s0.trans s1).trans s2)) hi rfl) (ela_cons (el_isv 10 T rfl (ea.same ((s0.trans s1).trans s2)) hi rfl) (ela_cons (el_isv 11 T rfl (ea.same ((s0.trans s1).trans s2)) hi rfl) ela_nil))) (by show 9 + 3 ≤ 100; decide) fun p3 H3 s3 l3 => ?_
    refine more_step (i := 1) (j := 1) l3 rfl (ela_cons (el_isv 12 T rfl (ea.same (((s0.trans s1).trans s2).trans s3)) hi rfl) (ela_cons (el_isv 13 T rfl (ea.same (((s0.trans s1).trans s2).trans s3)) hi rfl) (ela_cons (el_isv 14 T rfl (ea.same (((s0.trans s1).trans s2).trans s3)) hi rfl) ela_nil))) (by show 12 + 3 ≤ 100; decide) fun p4 H4 s4 l4 => ?_
    refine more_step (i := 1) (j := 1) l4 rfl (ela_cons (el_isv 15 T rfl (ea.same ((((s0.trans s1).trans s2).trans s3).trans s4)) hi rfl) (ela_cons (el_isv 16 T rfl (ea.same ((((s0.trans s1).trans s2).trans s3).trans s4)) hi rfl) (ela_cons (el_isv 17 T rfl (ea.same ((((s0.trans s1).trans s2).trans s3).trans s4)) hi rfl) ela_nil))) (by show 15 + 3 ≤ 100; decide) fun p5 H5 s5 l5 => ?_
    refine more_step (i := 1) (j := 1) l5 rfl (ela_cons (el_isv 18 T rfl (ea.same (((((s0.trans s1).trans s2).trans s3).trans s4).trans s5)) hi rfl) (ela_cons (el_isv 19 T rfl (ea.same (((((s0.trans s1).trans s2).trans s3).trans s4).trans s5)) hi rfl) (ela_cons (el_isv 20 T rfl (ea.same (((((s0.trans s1).trans s2).trans s3).trans s4).trans s5)) hi rfl) ela_nil))) (by show 18 + 3 ≤ 100; decide) fun p6 H6 s6 l6 => ?_
    refine more_step (i := 1) (j := 1) l6 rfl (ela_cons (el_isv 21 T rfl (ea.same ((((((s0.trans s1).trans s2).trans s3).trans s4).trans s5).trans s6)) hi rfl) (ela_cons (el_isv 22 T rfl (ea.same ((((((s0.trans s1).trans s2).trans s3).trans s4).trans s5).trans s6)) hi rfl) (ela_cons (el_isv 23 T rfl (ea.same ((((((s0.trans s1).trans s2).trans s3).trans s4).trans s5).trans s6)) hi rfl) ela_nil))) (by show 21 + 3 ≤ 100; decide) fun p7 H7 s7 l7 => ?_
    have il : i < 24 := (List.getElem?_eq_some_iff.mp hi).1
    obtain ⟨ws, hp, hall⟩ := l7
    have hw : ws = (List.range 24).map (fun j => V.bl (decide (i = j))) := AllR.is (xs := (List.range 24).map (fun j => V.bl (decide (i = j)))) hall
    have S := (((((((s0.trans s1).trans s2).trans s3).trans s4).trans s5).trans s6).trans s7)
    generalize H7 = H9 at hp S
    have hwl : ws.length = 24 := by rw [hw, List.length_map, List.length_range]
    refine ⟨_, rfl, p7, _, rfl, .inl (SqL.of hp), _, rfl, by omega, by omega, fun D nD => ?_⟩
    rw [hwl]
    refine lc_range (lo := 0) (n := 24) (fun m H' => Same H H' ∧ H' p7 = some (.lst ws) ∧ H' D = some (.lst (if i < m then [V.int (i : Int)] else []))) ⟨S.trans (same_new nD), same_new nD _ _ hp, by rw [if_neg (Nat.not_lt_zero i)]; exact upd_same⟩ ?_ ?_
    · rintro m H' hm ⟨s1, h1, hD⟩
      have hat : ws[m]? = some (V.bl (decide (i = m))) := by
        rw [hw, List.getElem?_map, List.getElem?_range hm]; rfl
      refine ⟨rfl, _, rfl, _, rfl, p7, ws, _, _, rfl, rfl, SqL.of h1, at_of (by omega) hat, _, rfl, ite2 (fun c => ?_) (fun c => ?_)⟩
      · have c := of_decide_eq_true c
        subst c
        refine ⟨_, rfl, _, hD, by rw [if_neg (Nat.lt_irrefl _)]; decide, ?_⟩
        have np : p7 ≠ D := ne_of_none hp nD
        have nsm : ∀ o, Same H (upd H' D o) := fun o b u e => by rw [upd_ne (ne_of_none (S _ _ e) nD)]; exact s1 _ _ e
        refine ⟨nsm _, by rw [upd_ne np]; exact h1, ?_⟩
        rw [upd_same, if_neg (Nat.lt_irrefl _), if_pos (Nat.lt_succ_self _)]
        show some (HO.lst [V.int (0 + (i : Int))]) = _
        rw [Int.zero_add]
      · have c : i ≠ m := fun z => c (decide_eq_true z)
        refine ⟨s1, h1, ?_⟩
        rw [hD]
        by_cases q : i < m
        · rw [if_pos q, if_pos (by omega)]
        · rw [if_neg q, if_neg (by omega)]
    · rintro H' ⟨s1, h1, hD⟩
      rw [if_pos il] at hD
      exact kq _ _ s1 hD
end
end Z

set_option Elab.async false
set_option linter.all false
set_option maxRecDepth 100000
set_option maxHeartbeats 8000000
/-! the law's own body. repr looks at what is under way: the law's def is walked for its one caller -/
namespace Z
open PySem L2 XV PyProof.Rows
/-- a def's promise, kept where no repr is under way -/
def OkQuiet (P : Program) (w : World) (K : PySem.W.Frag) (mg : Str → Option Value) (base : Heap) (k : Nat) (f : Addr) (fd : FuncData) (ps : List Str) (sp : Sp) : Prop :=
  ∀ (A : Around) (outer : List Env) (s : Shared) (H : Hp) (args : Args) (us : List Value) (vs : List V) (Q : VK) (E : XK), A.guards = some [] → Room k A → Env0 P w K mg base A outer s H → BindsTo s fd args (ps.zip us) → Vals vs us → sp vs H Q E →
    codeAny (model P w) A (.call (.ref f) args) (CR CX0 outer P w H s Q E) s
theorem okQuiet_of {P : Program} {w : World} {K : PySem.W.Frag} {mg : Str → Option Value} {base : Heap} {x qual : Str} {st : Stmt} {f : Addr} {fd : FuncData} {N ps : List Str} {k : Nat} {sp : Sp} (F : Fun K x qual st f fd) (S : FnScope N ps (defScope st))
    (len : ∀ vs H Q E, sp vs H Q E → vs.length = ps.length)
    (hb : ∀ (cdv : Value) (A : Around) (outer : List Env) (s : Shared) (H : Hp) (vs : List V) (Q : VK) (E : XK), A.guards = some [] → Room k (A.deeper (envOfC qual (defScope st) s.heap.objs.size f cdv)) → sp vs H Q E →
      ∃ t, PSs (cxOf CX0 P w K mg base N qual (defScope st) f cdv A outer s H E) (defBody st) t ∧ t { nx := fun _ H' => Q .non H', rt := Q } (start N vs) H) : OkQuiet P w K mg base (k + 1) f fd ps sp := by
  obtain ⟨oc, od, kV, doc, pm, an, cdv, ct, osl, rfl, lk, hcd⟩ := F.ex
  intro A outer s H args us vs Q E hg hr e0 hbind r hsp
  have hl := len _ _ _ _ hsp
  have kin : K.In s.heap := e0.mod.kin.keeps fun b o e => (e0.bs b o e).1
  have nolim : s.heap.NoLimit := e0.mod.nolimit.keeps fun b o e => (e0.bs b o e).1
  have kinds : ∀ y ∈ ps.zip us, (defScope st).names.lookup y.1 = some .local ∨ ((defScope st).names.lookup y.1 = some .cell ∧ ((cellsFrom (s.heap.objs.size + 1) (defScope st).names []).lookup y.1).isSome = true) := by
    rintro ⟨n, v⟩ hy
    rcases S.par n (List.of_mem_zip hy).1 with q | q
    · exact .inl q
    · exact .inr ⟨q, PySem.W.cellsFrom_some _ _ _ (.inl q)⟩
  refine codeAny_call_function hr.depth (kin _ _ lk) rfl S.co S.gen rfl (PySem.W.codeRec_of kin hcd) (hbind _ _ _ _ ?_)
  refine wpAny_newFunctionEnv_cells S.kind kinds fun env he s1 x => ?_
  subst he
  refine ⟨nolim.keeps x.toInCall.keep, codeAny_func ?_⟩
  obtain ⟨t, ht, hq⟩ := hb cdv A outer s H vs Q E hg (hr.deeper _) hsp
  have I := inv_start (CX := CX0) (P := P) (w := w) (K := K) (mg := mg) (base := base) (E := E) S hr.hd e0 hl r x
  refine wpAny_mono (ht.run [] s1 (start N vs) H _ I hq) (fun fl s' hs => ?_) fun e s' hs => hs
  cases fl with
  | ret u =>
    obtain ⟨v, σ', H', J, rv, q⟩ := hs
    exact ⟨v, H', J.os, J.bare, J.base, J.hok, rv, q⟩
  | next =>
    obtain ⟨σ', H', J, q⟩ := hs
    exact ⟨.non, H', J.os, J.bare, J.base, J.hok, rfl, q⟩
  | brk => obtain ⟨_, _, _, q⟩ := hs; exact q.elim
  | cont => obtain ⟨_, _, _, q⟩ := hs; exact q.elim
/-- the law's call at the heap behind the top: the script alone is tracked -/
theorem enter {P : Program} {w : World} {K : PySem.W.Frag} {mg mb : Str → Option Value} {fa a : Addr} {s₁ : Shared} {vs : List Value} {ns : List Int}
    (kin : K.In s₁.heap) (hns : s₁.heap.Ns mainGlobals mg) (hb : s₁.heap.Ns builtinsNs mb) (hbb : ∀ x : Str, x ≠ "__name__" → mb x = bootBuiltins x) (hlim : s₁.heap.NoLimit) (hg : s₁.gens = #[])
    (ha : s₁.heap.get? a = some { cls := .type "list", data := .seq vs.toArray }) (hi : IntsAre vs ns) (hl : ns.length ≤ sizeLine)
    (F : ∀ (base : Heap) (H : Hp), K.In base → base.Ns mainGlobals mg → Env0 P w K mg base callerA [] s₁ H → SqL K H a (ns.map V.int) → codeAny (model P w) callerA (.call (.ref fa) ⟨[.ref a], []⟩) (CR CX0 [] P w H s₁ (fun v _ => v = .bl true) E0) s₁) :
    codeAny (model P w) callerA (.call (.ref fa) ⟨[.ref a], []⟩) (fun r s' => r = .ok (.ret (.bool true)) ∧ OldK s₁.heap s'.heap ∧ s'.os = s₁.os ∧ AllBare s'.gens) s₁ := by
  have rv := vals_ints hi
  have go : ∀ H : Hp, (∀ b u, H b = some u → b = a ∧ K.lookup a = none ∧ u = .frz { cls := .type "list", data := .seq vs.toArray } (.lst (ns.map V.int))) → SqL K H a (ns.map V.int) →
      codeAny (model P w) callerA (.call (.ref fa) ⟨[.ref a], []⟩) (fun r s' => r = .ok (.ret (.bool true)) ∧ OldK s₁.heap s'.heap ∧ s'.os = s₁.os ∧ AllBare s'.gens) s₁ := by
    intro H hH hS
    have hok : HOk P w H s₁.heap := fun b u e => by
      obtain ⟨rfl, _, rfl⟩ := hH b u e
      exact ⟨ha, by rw [List.length_map]; exact hl, vs, _, rv, ha⟩
    have free : ∀ {b : Addr} {m : Str → Option Value}, s₁.heap.Ns b m → H b = none := fun {b m} ⟨o, es, ep, e, d, _⟩ => by
      cases q : H b with
      | none => rfl
      | some u =>
        obtain ⟨rfl, _, _⟩ := hH b u q
        rw [ha] at e
        cases e
        exact nomatch (show Data.seq vs.toArray _ = Data.dict es ep from d)
    have nsb : ∀ {b : Addr} {m : Str → Option Value}, s₁.heap.Ns b m → (hidT s₁.heap H).Ns b m := fun {b m} n => by
      have n0 := free n
      obtain ⟨o, es, ep, e, d, r⟩ := n
      exact ⟨o, es, ep, hidT_get e n0, d, r⟩
    have kinb : K.In (hidT s₁.heap H) := fun b o e => hidT_get (kin b o e) (by
      cases q : H b with
      | none => rfl
      | some u =>
        obtain ⟨rfl, z, _⟩ := hH b u q
        rw [z] at e; cases e)
    have e0 : Env0 P w K mg (hidT s₁.heap H) callerA [] s₁ H :=
      ⟨rfl, ⟨kinb, nsb hns, ⟨mb, nsb hb, hbb⟩, let ⟨mc, h1, h2⟩ := hlim; ⟨mc, nsb h1, h2⟩⟩, fun b o e => of_hidT e, Nat.le_of_eq (hidT_size _ _), trivial, fun b z => (nomatch (show b ∈ ([] : List Addr) from z)), hok, .of_eq hg⟩
    refine codeAny_mono (F _ H kinb (nsb hns) e0 hS) fun r s' h => ?_
    match r, h with
    | .ok (.ret u), h =>
      obtain ⟨v, H', os, bare, un, hok', r', q⟩ := h
      obtain rfl : v = .bl true := q
      obtain rfl : u = Value.bool true := r'
      refine ⟨rfl, OldK.of_keep fun b o e => ?_, os, bare⟩
      cases q : H b with
      | none => exact un.keep b o e q (fun z => (nomatch (show b ∈ ([] : List Addr) from z))) (fun z => nomatch z)
      | some u =>
        obtain ⟨rfl, _, rfl⟩ := hH b u q
        obtain ⟨e2, _⟩ := hok' b _ (un.frzs b _ _ q)
        rw [ha] at e
        rw [e2]; exact e
    | .error _, h => exact h.elim
    | .ok .next, h => exact h.elim
    | .ok .brk, h => exact h.elim
    | .ok .cont, h => exact h.elim
  cases hk : K.lookup a with
  | some o =>
    have e := kin a o hk
    rw [ha] at e
    cases e
    exact go (fun _ => none) (fun b u z => nomatch (show (none : Option HO) = some u from z)) (.inr ⟨_, vs.toArray, _, hk, rfl, rfl, rfl, by rw [List.size_toArray, hi.length]; exact hl, by simpa using rv⟩)
  | none =>
    refine go (fun b => if b = a then some (.frz { cls := .type "list", data := .seq vs.toArray } (.lst (ns.map V.int))) else none) (fun b u z => ?_) (.inl (.inr ⟨_, if_pos rfl⟩))
    by_cases c : b = a
    · exact ⟨c, hk, Option.some.inj (((if_pos c).symm.trans z).symm)⟩
    · exact nomatch ((if_neg c).symm.trans z)
theorem walkQuiet {l : PySem.W.OpenLaw} {n k : Nat} {q : Program} {loose : List Str} {XP : (Str → Option Value) → Heap → Prop} {YP : World → Heap → Prop} {d : DefRec} {K : Params → PySem.W.Frag} {sp : PySem.W.Frag → Sp} {x : Str}
    (hn : l.most = some n) (hn2 : n ≤ sizeLine) (hdf : d.params.defaults = []) (hr : Room k callerA) (hY : ∀ (w : World) (h : Heap), YP w h → (K w.params).In h)
    (F : ∀ (w : World) (mg : Str → Option Value) (fa : Addr) (h : Heap), (K w.params).In h → h.Ns mainGlobals mg → mg d.name = some (.ref fa) →
      ∃ fd : FuncData, (∀ (s : Shared) (u : Value), BindsTo s fd ⟨[u], []⟩ [(x, u)]) ∧ ∀ base : Heap, (K w.params).In base → base.Ns mainGlobals mg → OkQuiet l.prog w (K w.params) mg base k fa fd [x] (sp (K w.params)))
    (hsp : ∀ (K : PySem.W.Frag) (H : Hp) (a : Addr) (ns : List Int), ns.length ≤ n → SqL K H a (ns.map V.int) → sp K [.ref a] H (fun v _ => v = .bl true) E0) :
    PySem.W.WalkO q loose XP YP l.row.toRowW d [] (fun f vs => PySem.call f vs) := by
  refine Att.attach_call hn hdf fun w s₀ s₁ mg mb fa o pm cd doc a vs ns G Y ho hd hcd hmg hobj hints hlen hg => ?_
  have kin := hY w _ Y
  obtain ⟨fd, hb, hF⟩ := F w mg fa _ kin G.T.g hmg
  exact enter kin G.T.g G.T.b G.T.builtins G.T.nolimit hg hobj hints (Nat.le_trans hlen hn2) fun base H kb nb e0 hS =>
    hF base kb nb callerA [] s₁ H ⟨[.ref a], []⟩ [.ref a] [.ref a] _ E0 rfl hr e0 (hb s₁ (.ref a)) (.cons rfl .nil) (hsp _ H a ns hlen hS)
theorem dp_refs {K : PySem.W.Frag} {H : Hp} : ∀ (ps : List Addr) (m : Nat), (∀ j p, ps[j]? = some p → H p = some (.lst [.int ((m + j : Nat) : Int)])) → DpAll K H (ps.map V.ref) ((List.range' m ps.length).map fun j : Nat => PyData.list [.int (j : Int)])
  | [], m, _ => .nil
  | p :: ps, m, h => by
    rw [List.map_cons, List.length_cons, List.range'_succ, List.map_cons]
    refine .cons (.lst (SqL.of (h 0 p rfl)) (.cons (.int _) .nil)) (dp_refs ps (m + 1) fun j q e => ?_)
    have := h (j + 1) q e
    rw [show m + (j + 1) = m + 1 + j by omega] at this
    exact this
def dd24 : PyData := .list ((List.range' 0 24).map fun j : Nat => PyData.list [.int (j : Int)])
theorem dd24_lay : dd24.canLay0 = true := by decide +kernel
theorem dd24_shaped : SeqAt.shaped dd24 = true := by decide +kernel
theorem dd24_eq : PyData.eqv dd24 dd24 = true := SeqAt.eqv_refl _ dd24_lay
theorem ll_any {H : Hp} {p : Addr} {ds : List PyData} (h : LL H p (ds.map anyR)) : ∃ vs, H p = some (.lst vs) ∧ AnyAll H vs ds := let ⟨vs, e, r⟩ := h; ⟨vs, e, r.any⟩
def spLaw (K : PySem.W.Frag) : Sp := fun vs H Q _ => ∃ (a : Addr) (ns : List Int), vs = [.ref a] ∧ SqL K H a (ns.map V.int) ∧ ns.length ≤ 63 ∧ ∀ H', Q (.bl true) H'
section
variable {P : Program} {w : World} {K : PySem.W.Frag} {mg : Str → Option Value} {base : Heap} {A : Ad}
-- ["_law_script", "_law_pen_here", "_law_a", "_law_b", "_law_c", "_law_due", "_law_told", "_law_error", "_law_k"]set()
theorem sc_law : FnScope ["_law_script", "_law_pen_here", "_law_a", "_law_b", "_law_c", "_law_due", "_law_told", "_law_error", "_law_k"] ["_law_script"] (defScope s_law) := ⟨rfl, rfl, rfl, by decide +kernel, rfl, by decide +kernel, by decide +kernel⟩
theorem ok_law (T : Txt K mg A) : OkQuiet P w K mg base 7 A.a_law A.d_law ["_law_script"] (spLaw K) := by
  have G_pen := ok_pen (P := P) (w := w) (base := base) T
  have G_anything := ok_anything (P := P) (w := w) (base := base) T
  have G_bypos := ok_bypos (P := P) (w := w) (base := base) T
  have G_byname := ok_byname (P := P) (w := w) (base := base) T
  have G_made := ok_made (P := P) (w := w) (base := base) T
  have G_sorts := ok_sorts (P := P) (w := w) (base := base) T
  refine okQuiet_of T.F_law sc_law (fun vs H Q E h => ?_) (fun cdv A' outer s H vs Q E hg hr h => ?_)
  · obtain ⟨a, ns, rfl, _⟩ := h; rfl
  · obtain ⟨a, ns, rfl, hS, hn, kq⟩ := h
    refine ⟨_, (pss_cons (ps_set (i := 1) sc_law.nd rfl (Or.inl rfl) (pe_call G_pen (hr.mono (by decide)) (by rfl) T.g_pen T.F_pen.kp T.b_pen .nil pass0 (pa_cons (pv 0) pa_nil)))
      (pss_cons (ps_par3 (i := 2) (j := 3) (l := 4) (by rfl) sc_law.nd rfl rfl rfl (by decide) (by decide) (by decide) rfl rfl rfl (pa_cons (pe_call G_anything (hr.mono (by decide)) (by rfl) T.g_anything T.F_anything.kp T.b_anything .nil pass0 (pa_cons (pv 1) pa_nil)) (pa_cons (pe_call G_anything (hr.mono (by decide)) (by rfl) T.g_anything T.F_anything.kp T.b_anything .nil pass0 (pa_cons (pv 1) pa_nil)) (pa_cons (pe_call G_anything (hr.mono (by decide)) (by rfl) T.g_anything T.F_anything.kp T.b_anything .nil pass0 (pa_cons (pv 1) pa_nil)) pa_nil))) (by rfl))
      (pss_cons (ps_set (i := 5) sc_law.nd rfl (Or.inl rfl) (pe_lst (pa_cons (pv 2) (pa_cons (pv 3) (pa_cons (pv 4) (pa_cons (pv 2) (pa_cons (pv 2) (pa_cons (pv 2) (pa_cons (pv 2) (pa_cons (pv 3) (pa_cons (pv 2) (pa_cons (pv 3) (pa_cons (pv 2) (pa_cons (pv 2) (pa_cons (pv 3) (pa_cons (pv 2) pa_nil))))))))))))))))
      (pss_cons (ps_set (i := 5) sc_law.nd rfl (Or.inl rfl) (pe_op op_cat (pv 5) (pe_lst (pa_cons (pv 2) (pa_cons (pv 2) (pa_cons (pv 2) (pa_cons (pv 2) (pa_cons (pv 2) (pa_cons (pv 2) (pa_cons (pv 2) (pa_cons (pv 2) (pa_cons (pv 2) (pa_cons (pv 2) pa_nil)))))))))))))
      (pss_cons (ps_if (PW.pt (pw_or (pt_cmpR op_ne (pe_callB (call_reprL hg hr.units) (by rfl) T.z_repr (by decide +kernel) (pa_cons (pe_call G_bypos (hr.mono (by decide)) (by rfl) T.g_bypos T.F_bypos.kp T.b_bypos .nil pass0 (pa_cons (pv 2) (pa_cons (pv 3) (pa_cons (pv 4) pa_nil)))) pa_nil)) (pe_callB (call_reprL hg hr.units) (by rfl) T.z_repr (by decide +kernel) (pa_cons (pv 5) pa_nil)) (nomark _)) (pw_or1 (pt_cmpR op_ne (pe_callB (call_reprL hg hr.units) (by rfl) T.z_repr (by decide +kernel) (pa_cons (pe_call G_byname (hr.mono (by decide)) (by rfl) T.g_byname T.F_byname.kp T.b_byname .nil pass0 (pa_cons (pv 2) (pa_cons (pv 3) (pa_cons (pv 4) pa_nil)))) pa_nil)) (pe_callB (call_reprL hg hr.units) (by rfl) T.z_repr (by decide +kernel) (pa_cons (pv 5) pa_nil)) (nomark _))))) (pss_one (ps_ret pe_bl))
        pss_nil)
      (pss_cons (ps_set (i := 6) sc_law.nd rfl (Or.inl rfl) (pe_call G_made (hr.mono (by decide)) (by rfl) T.g_made T.F_made.kp T.b_made .nil pass0 (pa_cons (pv 2) (pa_cons (pv 3) (pa_cons (pv 4) pa_nil)))))
      (pss_cons (ps_if (pt_cmpR (op_neD hr.units) (pe_lc (own := [("_law_error", 7)]) (by rfl) sc_law.nd (pi_list (pv 6)) (blkOk_by (own := [("_law_error", 7)]) (N := ["_law_script", "_law_pen_here", "_law_a", "_law_b", "_law_c", "_law_due", "_law_told", "_law_error", "_law_k"]) (sc := defScope s_law) (by decide +kernel)) (fun _ _ _ _ _ => (pg_name (i := 7) sc_law.nd rfl (Or.inl rfl))) (fun _ _ _ _ _ => (pts_one (PW.pt (pw_or (pt_not (pt_val (pe_callB (r := rIsV K) (id := "isinstance") call_isV (by rfl) T.z_isinstance (by decide +kernel) (pa_cons (pv 7) (pa_cons (pe_glob (v := .ref A.cj) (by rfl) T.gj rfl) pa_nil))))) (pw_or1 (pt_not (pt_val (pe_callB (r := rIsV K) (id := "isinstance") call_isV (by rfl) T.z_isinstance (by decide +kernel) (pa_cons (pv 7) (pa_cons (pe_bltn (v := .ty "ValueError") (by rfl) T.z_ValueError (by decide +kernel) rfl) pa_nil)))))))))) (fun _ _ _ _ _ => (pv 7))) (pe_lst pa_nil) (nomark _)) (pss_one (ps_ret pe_bl))
        pss_nil)
      (pss_one (ps_ret (pe_cmpR (op_eqD hr.units) (pe_lc (own := [("_law_error", 7)]) (by rfl) sc_law.nd (pi_list (pv 6)) (blkOk_by (own := [("_law_error", 7)]) (N := ["_law_script", "_law_pen_here", "_law_a", "_law_b", "_law_c", "_law_due", "_law_told", "_law_error", "_law_k"]) (sc := defScope s_law) (by decide +kernel)) (fun _ _ _ _ _ => (pg_name (i := 7) sc_law.nd rfl (Or.inl rfl))) (fun _ _ _ _ _ => pts_nil) (fun _ _ _ _ _ => (pe_call G_sorts (hr.mono (by decide)) (by rfl) T.g_sorts T.F_sorts.kp T.b_sorts .nil pass0 (pa_cons (pv 7) pa_nil)))) (pe_lc (own := [("_law_k", 8)]) (by rfl) sc_law.nd (pi_range1 (by rfl) T.z_range (pa_cons pe_int pa_nil)) (blkOk_by (own := [("_law_k", 8)]) (N := ["_law_script", "_law_pen_here", "_law_a", "_law_b", "_law_c", "_law_due", "_law_told", "_law_error", "_law_k"]) (sc := defScope s_law) (by decide +kernel)) (fun _ _ _ _ _ => (pg_name (i := 8) sc_law.nd rfl (Or.inl rfl))) (fun _ _ _ _ _ => pts_nil) (fun _ _ _ _ _ => (pe_lst (pa_cons (pv 8) pa_nil)))) (nomark _))))))))))), ?_⟩
    refine ⟨_, rfl, a, ns, rfl, hS, hn, fun d H1 pen s1 _ => ?_⟩
    refine ⟨_, rfl, d, 0, rfl, pen, by decide, fun va Da H2 k2 av kk2 pen2 bt2 => ?_⟩
    refine ⟨_, rfl, d, k2, rfl, pen2, by omega, fun vb Db H3 k3 bv kk3 pen3 bt3 => ?_⟩
    refine ⟨_, rfl, d, k3, rfl, pen3, by omega, fun vc Dc H4 k4 cv kk4 pen4 bt4 => ?_⟩
    have hx := any_but (any_but av pen2 bt3) pen3 bt4
    have hy := any_but bv pen3 bt4
    have hz := cv
    refine ⟨_, _, _, rfl, ?_⟩
    refine lst_step (i := 5) (ela_cons (el_var (R := anyR Da) (i := 2) rfl hx) (ela_cons (el_var (R := anyR Db) (i := 3) rfl hy) (ela_cons (el_var (R := anyR Dc) (i := 4) rfl hz) (ela_cons (el_var (R := anyR Da) (i := 2) rfl hx) (ela_cons (el_var (R := anyR Da) (i := 2) rfl hx) (ela_cons (el_var (R := anyR Da) (i := 2) rfl hx) (ela_cons (el_var (R := anyR Da) (i := 2) rfl hx) (ela_cons (el_var (R := anyR Db) (i := 3) rfl hy) (ela_cons (el_var (R := anyR Da) (i := 2) rfl hx) (ela_cons (el_var (R := anyR Db) (i := 3) rfl hy) (ela_cons (el_var (R := anyR Da) (i := 2) rfl hx) (ela_cons (el_var (R := anyR Da) (i := 2) rfl hx) (ela_cons (el_var (R := anyR Db) (i := 3) rfl hy) (ela_cons (el_var (R := anyR Da) (i := 2) rfl hx) ela_nil)))))))))))))) (by show 14 ≤ 100; decide) fun p0 G0 u0 l0 => ?_
    refine more_step (i := 5) (j := 5) l0 rfl (ela_cons (el_var (R := anyR Da) (i := 2) rfl (hx.same u0)) (ela_cons (el_var (R := anyR Da) (i := 2) rfl (hx.same u0)) (ela_cons (el_var (R := anyR Da) (i := 2) rfl (hx.same u0)) (ela_cons (el_var (R := anyR Da) (i := 2) rfl (hx.same u0)) (ela_cons (el_var (R := anyR Da) (i := 2) rfl (hx.same u0)) (ela_cons (el_var (R := anyR Da) (i := 2) rfl (hx.same u0)) (ela_cons (el_var (R := anyR Da) (i := 2) rfl (hx.same u0)) (ela_cons (el_var (R := anyR Da) (i := 2) rfl (hx.same u0)) (ela_cons (el_var (R := anyR Da) (i := 2) rfl (hx.same u0)) (ela_cons (el_var (R := anyR Da) (i := 2) rfl (hx.same u0)) ela_nil)))))))))) (by show 14 + 10 ≤ 100; decide) fun p1 G1 u1 l1 => ?_
    have hx := hx.same (u0.trans u1)
    have hy := hy.same (u0.trans u1)
    have hz := hz.same (u0.trans u1)
    have l1 : LL G1 p1 ((dues Da Db Dc).map anyR) := l1
    refine ⟨_, rfl, _, rfl, _, rfl, va, vb, vc, Da, Db, Dc, rfl, hx, hy, hz, fun p2 G2 u2 l2 => ?_⟩
    obtain ⟨w2, e2, r2⟩ := ll_any l2
    obtain ⟨w1, e1, r1⟩ := ll_any (l1.same u2)
    have n2 := all_len r2
    have n1 := all_len r1
    refine ⟨p2, w2, dues Da Db Dc, rfl, e2, r2, by rw [n2]; show 2 ≤ 24; decide, by show 24 ≤ 100; decide, _, rfl, p1, w1, dues Da Db Dc, rfl, e1, r1, by rw [n1]; show 2 ≤ 24; decide, by show 24 ≤ 100; decide, rfl, _, rfl, iteNS rfl ?_⟩
    have hx := hx.same u2
    have hy := hy.same u2
    have hz := hz.same u2
    have l1 := l1.same u2
    refine ⟨_, rfl, _, rfl, _, rfl, va, vb, vc, Da, Db, Dc, rfl, hx, hy, hz, fun p3 G3 u3 l3 => ?_⟩
    obtain ⟨w3, e3, r3⟩ := ll_any l3
    obtain ⟨w1', e1', r1'⟩ := ll_any (l1.same u3)
    have n3 := all_len r3
    have n1' := all_len r1'
    refine ⟨p3, w3, dues Da Db Dc, rfl, e3, r3, by rw [n3]; show 2 ≤ 24; decide, by show 24 ≤ 100; decide, _, rfl, p1, w1', dues Da Db Dc, rfl, e1', r1', by rw [n1']; show 2 ≤ 24; decide, by show 24 ≤ 100; decide, rfl, _, rfl, iteNS rfl ?_⟩
    have hx := hx.same u3
    have hy := hy.same u3
    have hz := hz.same u3
    refine ⟨_, rfl, _, rfl, _, rfl, va, vb, vc, Da, Db, Dc, rfl, hx, hy, hz, fun p4 G4 u4 l4 => ?_⟩
    obtain ⟨w4, e4, r4⟩ := l4
    have n4 : w4.length = 24 := r4.length
    have err : ∀ {j : Nat} {x : V} {H' : Hp}, Same G4 H' → w4[j]? = some x → ∃ a C fs, x = .ref a ∧ A.cs[j]? = some C ∧ ErrAt H' a C fs := fun {j x H'} s e => by
      have jl : j < A.cs.length := by
        have := (List.getElem?_eq_some_iff.mp e).1
        rw [n4] at this; exact this
      obtain ⟨v, ev, a, fs, e', ea⟩ := r4.at (i := j) (R := errR A.cs[j]) (by rw [List.getElem?_map, List.getElem?_eq_getElem jl]; rfl)
      rw [e] at ev
      obtain rfl := Option.some.inj ev
      exact ⟨a, _, fs, e', List.getElem?_eq_getElem jl, ea.same s⟩
    refine ⟨_, rfl, p4, rfl, ⟨_, SqL.of e4⟩, fun D nD => ?_⟩
    refine lc_list (K := K) (a := p4) (xs := w4) (fun m H' => Same G4 H' ∧ H' D = some (.lst [])) ⟨same_new nD, upd_same⟩ (fun m H' _ q => SqL.of (q.1 _ _ e4)) ?_ ?_
    · rintro m x H' hx ⟨s, hD⟩
      obtain ⟨a, C, fs, rfl, hC, ea⟩ := err s hx
      obtain ⟨_, _, _, _, _, _, E⟩ := (cls_all T C (List.mem_of_getElem? hC)).ex
      refine ⟨rfl, _, rfl, a, C, fs, .ref A.cj, .ref A.cj, true, rfl, ea, E.R, .own A.cj, kit_ref E T.cj T.tj (by simp), true, rfl, iteF ?_⟩
      refine ⟨_, rfl, a, C, fs, .ty "ValueError", .type "ValueError", true, rfl, ea, E.R, .ty "ValueError", kit_ve E, true, rfl, iteF ?_⟩
      exact ⟨s, hD⟩
    rintro G5 ⟨s5, hD5⟩
    refine ⟨Nat.zero_le _, fun q nq => ?_⟩
    refine ⟨.list [], .list [], .lst (SqL.of (same_new nq _ _ hD5)) .nil, .lst (SqL.of upd_same) .nil, rfl, rfl, _, rfl, iteF ?_⟩
    have s6 := s5.trans (same_new (o := .lst []) nq)
    generalize upd G5 q (.lst []) = G6 at s6 ⊢
    have e6 := s6 _ _ e4
    -- the sorts of each
    refine ⟨_, rfl, p4, rfl, ⟨_, SqL.of e6⟩, fun D1 nD1 => ?_⟩
    refine lc_list (K := K) (a := p4) (xs := w4) (fun m H' => Same G6 H' ∧ ∃ ps : List Addr, H' D1 = some (.lst (ps.map V.ref)) ∧ ps.length = m ∧ ∀ j p, ps[j]? = some p → H' p = some (.lst [.int ((0 + j : Nat) : Int)])) ⟨same_new nD1, [], upd_same, rfl, fun j p e => nomatch e⟩ (fun m H' _ q => SqL.of (q.1 _ _ e6)) ?_ ?_
    · rintro m x H' hx ⟨s, ps, hD, hpl, hps⟩
      obtain ⟨a, C, fs, rfl, hC, ea⟩ := err (s6.trans s) hx
      refine ⟨rfl, yes_of ?_⟩
      refine ⟨_, rfl, a, C, fs, m, rfl, hC, ea, fun p H'' s'' hp => ?_⟩
      have hD'' := s'' _ _ hD
      have ml : m < 24 := by
        have := (List.getElem?_eq_some_iff.mp hx).1
        rw [n4] at this; exact this
      have keep : ∀ {b : Addr} {o : HO}, H'' b = some o → b ≠ D1 → upd H'' D1 (.lst (ps.map V.ref ++ [V.ref p])) b = some o := fun {b o} e ne => by rw [upd_ne ne]; exact e
      refine ⟨_, hD'', by rw [List.length_map, hpl, sizeLine_eq]; omega, fun b o e => ?_, ps ++ [p], by rw [List.map_append]; exact upd_same, by rw [List.length_append, hpl]; rfl, fun j p' e => ?_⟩
      · exact keep (s'' _ _ (s _ _ e)) (ne_of_none e nD1)
      · rw [List.getElem?_append] at e
        split at e
        · have h1 := hps j p' e
          have h2 := s'' _ _ h1
          refine keep h2 (ne_of h2 hD'' fun z => ?_)
          injection z with z
          cases ps with
          | nil => cases e
          | cons q l => cases z
        · rename_i c
          have j0 : j - ps.length = 0 := by
            have := (List.getElem?_eq_some_iff.mp e).1
            simp at this; omega
          rw [j0] at e
          obtain rfl := Option.some.inj e
          have jm : j = m := by omega
          subst jm
          rw [Nat.zero_add]
          refine keep hp (ne_of hp hD'' fun z => ?_)
          injection z with z
          cases ps with
          | nil => cases z
          | cons q l => cases z
    rintro G7 ⟨s7, ps, hD7, hpl, hps⟩
    rw [n4] at hpl
    refine ⟨24, rfl, by decide, by decide, fun D2 nD2 => ?_⟩
    refine lc_range (lo := 0) (n := 24) (fun m H' => Same G7 H' ∧ ∃ qs : List Addr, H' D2 = some (.lst (qs.map V.ref)) ∧ qs.length = m ∧ ∀ j p, qs[j]? = some p → H' p = some (.lst [.int ((0 + j : Nat) : Int)])) ⟨same_new nD2, [], upd_same, rfl, fun j p e => nomatch e⟩ ?_ ?_
    · rintro m H' hm ⟨s, qs, hD, hql, hqs⟩
      refine ⟨rfl, yes_of ?_⟩
      refine ⟨_, rfl, (by show 1 ≤ sizeLine; decide), fun p np => ?_⟩
      have sp := same_new (o := .lst [V.int (0 + (m : Int))]) np
      have hD'' := sp _ _ hD
      have hp : upd H' p (.lst [V.int (0 + (m : Int))]) p = some (.lst [V.int (0 + (m : Int))]) := upd_same
      have keep : ∀ {b : Addr} {o : HO}, upd H' p (.lst [V.int (0 + (m : Int))]) b = some o → b ≠ D2 → upd (upd H' p (.lst [V.int (0 + (m : Int))])) D2 (.lst (qs.map V.ref ++ [V.ref p])) b = some o := fun {b o} e ne => by rw [upd_ne ne]; exact e
      refine ⟨_, hD'', by rw [List.length_map, hql, sizeLine_eq]; omega, fun b o e => ?_, qs ++ [p], by rw [List.map_append]; exact upd_same, by rw [List.length_append, hql]; rfl, fun j p' e => ?_⟩
      · exact keep (sp _ _ (s _ _ e)) (ne_of_none e nD2)
      · rw [List.getElem?_append] at e
        split at e
        · have h1 := hqs j p' e
          have h2 := sp _ _ h1
          refine keep h2 (ne_of h2 hD'' fun z => ?_)
          injection z with z
          cases qs with
          | nil => cases e
          | cons q l => cases z
        · rename_i c
          have j0 : j - qs.length = 0 := by
            have := (List.getElem?_eq_some_iff.mp e).1
            simp at this; omega
          rw [j0] at e
          obtain rfl := Option.some.inj e
          have jm : j = m := by omega
          subst jm
          rw [Nat.zero_add]
          have z0 : (0 : Int) + (j : Int) = (j : Int) := Int.zero_add _
          rw [z0] at hp keep ⊢
          refine keep hp (ne_of hp (by rw [z0] at hD''; exact hD'') fun z => ?_)
          injection z with z
          cases qs with
          | nil => cases z
          | cons q l => cases z
    rintro G8 ⟨s8, qs, hD8, hql, hqs⟩
    refine ⟨dd24, dd24, .lst (SqL.of (s8 _ _ hD7)) ?_, .lst (SqL.of hD8) ?_, dd24_shaped, dd24_shaped, ?_⟩
    · have := dp_refs (K := K) (H := G8) ps 0 fun j p e => s8 _ _ (hps j p e)
      rw [hpl] at this; exact this
    · have := dp_refs (K := K) (H := G8) qs 0 hqs
      rw [hql] at this; exact this
    · rw [dd24_eq]; exact kq G8
end
end Z

set_option Elab.async false
set_option linter.all false
set_option maxRecDepth 100000
set_option maxHeartbeats 8000000
/-! what the top has written, gathered -/
namespace Z
open PySem L2 XV PyProof.Rows
/-- of a class of the errors: all that is asked of it but its object and its __init__'s -/
def errB (K : PySem.W.Frag) (C fI : Addr) (fs : List Str) : Bool :=
  PySem.W.findIn K (.ref C) "__setattr__" == some (some (.builtin "object.__setattr__")) && PySem.W.subIn K (.ref C) (.type "BaseException") == some true && PySem.W.typeIn K (.ref C) == some (.type "type") && PySem.W.keepIn K (.ref C) &&
  PySem.W.findIn K (.ref C) "__init__" == some (some (.ref fI)) && PySem.W.typeIn K (.ref fI) == some (.type "function") && PySem.W.findIn K (.ref C) "__getattribute__" == some (some (.builtin "BaseException.__getattribute__")) &&
  PySem.W.findIn K (.ref C) "__getattr__" == some none && PySem.W.hasDictIn K C && PySem.W.findIn K (.ref C) "__class__" == some (some (.builtin "object.__class__")) &&
  PySem.W.specialIn K (.builtin "object.__class__") "__get__" == some (some (.builtin "getset_descriptor.__get__")) && PySem.W.takesIn K (.builtin "object.__class__") == some true && PySem.W.mroIn K C (.type "object") == some true &&
  fs.all fun f => PySem.W.findIn K (.ref C) f == some none
theorem ec_mk {K : PySem.W.Frag} {mg : Str → Option Value} {h : Heap} (X : K.In h) (G : h.Ns mainGlobals mg) {cj C fI N : Addr} {x qual nm q : Str} {st : Stmt} {fs : List Str} {bs : List Value} {sn : List Str} {sub : List Value} {ab : Bool} {col : Option Bool} {dd : Option Addr} {m0 m1 m2 m3 m5 : Option Value}
    {oc kV doc pm cd ct : Value} {od an : Option Addr} {sl : Array (Option Value)}
    (aC : PySem.W.nsIn K mainGlobals x = some (some (.ref C)))
    (xL : K.lookup C = some (excClassObj nm q C N bs [.ref cj, .type "ValueError", .type "Exception", .type "BaseException", .type "object"] true sn sub ab col dd m0 m1 m2 m3 m5 "ValueError.__new__"))
    (eB : errB K C fI fs = true)
    (lI : K.lookup fI = some ⟨oc, od, .func (PySem.W.fnOf "__init__" qual (defArgs st) (defBody st) (defScope st) .none kV doc pm an cd ct), sl⟩) (cI : PySem.W.codeIn K cd qual = true) (kI : PySem.W.keepIn K (.ref fI) = true)
    (hb : KBn K (PySem.W.fnOf "__init__" qual (defArgs st) (defBody st) (defScope st) .none kV doc pm an cd ct) ("self" :: fs) (fs.length + 1) [] (fun us _ => us) (fun vs _ => vs))
    (hk : KBn K (PySem.W.fnOf "__init__" qual (defArgs st) (defBody st) (defScope st) .none kV doc pm an cd ct) ("self" :: fs) 1 fs (fun us ws => us ++ ws) (fun vs zs => vs ++ zs)) :
    Ec K mg cj C fI x qual st (PySem.W.fnOf "__init__" qual (defArgs st) (defBody st) (defScope st) .none kV doc pm an cd ct) fs := by
  unfold errB at eB
  simp only [Bool.and_eq_true, beq_iff_eq, List.all_eq_true] at eB
  obtain ⟨⟨⟨⟨⟨⟨⟨⟨⟨⟨⟨⟨⟨e1, e2⟩, e3⟩, e4⟩, e5⟩, e6⟩, e7⟩, e8⟩, e9⟩, e10⟩, e11⟩, e12⟩, e13⟩, e14⟩ := eB
  exact { E := ⟨⟨⟨nm, q, N, bs, _, sn, sub, ab, col, dd, m0, m1, m2, m3, m5, xL, by rfl⟩, e1, e2, e3, e4⟩, e5, e6⟩, R := ⟨e7, e8, e2, e9, e10, e11, e12, e13⟩, F := fun_mk lI cI kI, g := PySem.W.mg_of X G aC,
          m := ⟨_, by unfold PySem.W.clsIn; rw [xL] <;> rfl, rfl⟩, ty := e3, b := hb, k := hk, no := e14 }
section
variable {P : Program} {w : World} {K : PySem.W.Frag} {mg : Str → Option Value} {h : Heap} {fa cj : Addr}
theorem all_mk (X : K.In h) (G : h.Ns mainGlobals mg) (hfa : mg "law" = some (.ref fa))
    {f_kept : Addr} {oc_kept kV_kept doc_kept pm_kept cd_kept ct_kept : Value} {od_kept an_kept : Option Addr} {sl_kept : Array (Option Value)}
    {f_pen : Addr} {oc_pen kV_pen doc_pen pm_pen cd_pen ct_pen : Value} {od_pen an_pen : Option Addr} {sl_pen : Array (Option Value)}
    {f_draw : Addr} {oc_draw kV_draw doc_draw pm_draw cd_draw ct_draw : Value} {od_draw an_draw : Option Addr} {sl_draw : Array (Option Value)}
    {f_pick : Addr} {oc_pick kV_pick doc_pick pm_pick cd_pick ct_pick : Value} {od_pick an_pick : Option Addr} {sl_pick : Array (Option Value)}
    {f_anything : Addr} {oc_anything kV_anything doc_anything pm_anything cd_anything ct_anything : Value} {od_anything an_anything : Option Addr} {sl_anything : Array (Option Value)}
    {f_bypos : Addr} {oc_bypos kV_bypos doc_bypos pm_bypos cd_bypos ct_bypos : Value} {od_bypos an_bypos : Option Addr} {sl_bypos : Array (Option Value)}
    {f_byname : Addr} {oc_byname kV_byname doc_byname pm_byname cd_byname ct_byname : Value} {od_byname an_byname : Option Addr} {sl_byname : Array (Option Value)}
    {f_made : Addr} {oc_made kV_made doc_made pm_made cd_made ct_made : Value} {od_made an_made : Option Addr} {sl_made : Array (Option Value)}
    {f_sorts : Addr} {oc_sorts kV_sorts doc_sorts pm_sorts cd_sorts ct_sorts : Value} {od_sorts an_sorts : Option Addr} {sl_sorts : Array (Option Value)}
    {f_law : Addr} {oc_law kV_law doc_law pm_law cd_law ct_law : Value} {od_law an_law : Option Addr} {sl_law : Array (Option Value)}
    {C_TooMany I_TooMany N_TooMany : Addr} {nm_TooMany q_TooMany : Str} {bs_TooMany : List Value} {sn_TooMany : List Str} {sub_TooMany : List Value} {ab_TooMany : Bool} {col_TooMany : Option Bool} {dd_TooMany : Option Addr} {m0_TooMany m1_TooMany m2_TooMany m3_TooMany m5_TooMany : Option Value} {oc_TooMany kV_TooMany doc_TooMany pm_TooMany cd_TooMany ct_TooMany : Value} {od_TooMany an_TooMany : Option Addr} {sl_TooMany : Array (Option Value)}
    {C_BadCount I_BadCount N_BadCount : Addr} {nm_BadCount q_BadCount : Str} {bs_BadCount : List Value} {sn_BadCount : List Str} {sub_BadCount : List Value} {ab_BadCount : Bool} {col_BadCount : Option Bool} {dd_BadCount : Option Addr} {m0_BadCount m1_BadCount m2_BadCount m3_BadCount m5_BadCount : Option Value} {oc_BadCount kV_BadCount doc_BadCount pm_BadCount cd_BadCount ct_BadCount : Value} {od_BadCount an_BadCount : Option Addr} {sl_BadCount : Array (Option Value)}
    {C_BadLength I_BadLength N_BadLength : Addr} {nm_BadLength q_BadLength : Str} {bs_BadLength : List Value} {sn_BadLength : List Str} {sub_BadLength : List Value} {ab_BadLength : Bool} {col_BadLength : Option Bool} {dd_BadLength : Option Addr} {m0_BadLength m1_BadLength m2_BadLength m3_BadLength m5_BadLength : Option Value} {oc_BadLength kV_BadLength doc_BadLength pm_BadLength cd_BadLength ct_BadLength : Value} {od_BadLength an_BadLength : Option Addr} {sl_BadLength : Array (Option Value)}
    {C_NotFull I_NotFull N_NotFull : Addr} {nm_NotFull q_NotFull : Str} {bs_NotFull : List Value} {sn_NotFull : List Str} {sub_NotFull : List Value} {ab_NotFull : Bool} {col_NotFull : Option Bool} {dd_NotFull : Option Addr} {m0_NotFull m1_NotFull m2_NotFull m3_NotFull m5_NotFull : Option Value} {oc_NotFull kV_NotFull doc_NotFull pm_NotFull cd_NotFull ct_NotFull : Value} {od_NotFull an_NotFull : Option Addr} {sl_NotFull : Array (Option Value)}
    {C_BadWord I_BadWord N_BadWord : Addr} {nm_BadWord q_BadWord : Str} {bs_BadWord : List Value} {sn_BadWord : List Str} {sub_BadWord : List Value} {ab_BadWord : Bool} {col_BadWord : Option Bool} {dd_BadWord : Option Addr} {m0_BadWord m1_BadWord m2_BadWord m3_BadWord m5_BadWord : Option Value} {oc_BadWord kV_BadWord doc_BadWord pm_BadWord cd_BadWord ct_BadWord : Value} {od_BadWord an_BadWord : Option Addr} {sl_BadWord : Array (Option Value)}
    {C_Begins I_Begins N_Begins : Addr} {nm_Begins q_Begins : Str} {bs_Begins : List Value} {sn_Begins : List Str} {sub_Begins : List Value} {ab_Begins : Bool} {col_Begins : Option Bool} {dd_Begins : Option Addr} {m0_Begins m1_Begins m2_Begins m3_Begins m5_Begins : Option Value} {oc_Begins kV_Begins doc_Begins pm_Begins cd_Begins ct_Begins : Value} {od_Begins an_Begins : Option Addr} {sl_Begins : Array (Option Value)}
    {C_OtherSize I_OtherSize N_OtherSize : Addr} {nm_OtherSize q_OtherSize : Str} {bs_OtherSize : List Value} {sn_OtherSize : List Str} {sub_OtherSize : List Value} {ab_OtherSize : Bool} {col_OtherSize : Option Bool} {dd_OtherSize : Option Addr} {m0_OtherSize m1_OtherSize m2_OtherSize m3_OtherSize m5_OtherSize : Option Value} {oc_OtherSize kV_OtherSize doc_OtherSize pm_OtherSize cd_OtherSize ct_OtherSize : Value} {od_OtherSize an_OtherSize : Option Addr} {sl_OtherSize : Array (Option Value)}
    {C_BadSize I_BadSize N_BadSize : Addr} {nm_BadSize q_BadSize : Str} {bs_BadSize : List Value} {sn_BadSize : List Str} {sub_BadSize : List Value} {ab_BadSize : Bool} {col_BadSize : Option Bool} {dd_BadSize : Option Addr} {m0_BadSize m1_BadSize m2_BadSize m3_BadSize m5_BadSize : Option Value} {oc_BadSize kV_BadSize doc_BadSize pm_BadSize cd_BadSize ct_BadSize : Value} {od_BadSize an_BadSize : Option Addr} {sl_BadSize : Array (Option Value)}
    {C_NoBorder I_NoBorder N_NoBorder : Addr} {nm_NoBorder q_NoBorder : Str} {bs_NoBorder : List Value} {sn_NoBorder : List Str} {sub_NoBorder : List Value} {ab_NoBorder : Bool} {col_NoBorder : Option Bool} {dd_NoBorder : Option Addr} {m0_NoBorder m1_NoBorder m2_NoBorder m3_NoBorder m5_NoBorder : Option Value} {oc_NoBorder kV_NoBorder doc_NoBorder pm_NoBorder cd_NoBorder ct_NoBorder : Value} {od_NoBorder an_NoBorder : Option Addr} {sl_NoBorder : Array (Option Value)}
    {C_TooShort I_TooShort N_TooShort : Addr} {nm_TooShort q_TooShort : Str} {bs_TooShort : List Value} {sn_TooShort : List Str} {sub_TooShort : List Value} {ab_TooShort : Bool} {col_TooShort : Option Bool} {dd_TooShort : Option Addr} {m0_TooShort m1_TooShort m2_TooShort m3_TooShort m5_TooShort : Option Value} {oc_TooShort kV_TooShort doc_TooShort pm_TooShort cd_TooShort ct_TooShort : Value} {od_TooShort an_TooShort : Option Addr} {sl_TooShort : Array (Option Value)}
    {C_TooLong I_TooLong N_TooLong : Addr} {nm_TooLong q_TooLong : Str} {bs_TooLong : List Value} {sn_TooLong : List Str} {sub_TooLong : List Value} {ab_TooLong : Bool} {col_TooLong : Option Bool} {dd_TooLong : Option Addr} {m0_TooLong m1_TooLong m2_TooLong m3_TooLong m5_TooLong : Option Value} {oc_TooLong kV_TooLong doc_TooLong pm_TooLong cd_TooLong ct_TooLong : Value} {od_TooLong an_TooLong : Option Addr} {sl_TooLong : Array (Option Value)}
    {C_BadOver I_BadOver N_BadOver : Addr} {nm_BadOver q_BadOver : Str} {bs_BadOver : List Value} {sn_BadOver : List Str} {sub_BadOver : List Value} {ab_BadOver : Bool} {col_BadOver : Option Bool} {dd_BadOver : Option Addr} {m0_BadOver m1_BadOver m2_BadOver m3_BadOver m5_BadOver : Option Value} {oc_BadOver kV_BadOver doc_BadOver pm_BadOver cd_BadOver ct_BadOver : Value} {od_BadOver an_BadOver : Option Addr} {sl_BadOver : Array (Option Value)}
    {C_BadTie I_BadTie N_BadTie : Addr} {nm_BadTie q_BadTie : Str} {bs_BadTie : List Value} {sn_BadTie : List Str} {sub_BadTie : List Value} {ab_BadTie : Bool} {col_BadTie : Option Bool} {dd_BadTie : Option Addr} {m0_BadTie m1_BadTie m2_BadTie m3_BadTie m5_BadTie : Option Value} {oc_BadTie kV_BadTie doc_BadTie pm_BadTie cd_BadTie ct_BadTie : Value} {od_BadTie an_BadTie : Option Addr} {sl_BadTie : Array (Option Value)}
    {C_NotLeast I_NotLeast N_NotLeast : Addr} {nm_NotLeast q_NotLeast : Str} {bs_NotLeast : List Value} {sn_NotLeast : List Str} {sub_NotLeast : List Value} {ab_NotLeast : Bool} {col_NotLeast : Option Bool} {dd_NotLeast : Option Addr} {m0_NotLeast m1_NotLeast m2_NotLeast m3_NotLeast m5_NotLeast : Option Value} {oc_NotLeast kV_NotLeast doc_NotLeast pm_NotLeast cd_NotLeast ct_NotLeast : Value} {od_NotLeast an_NotLeast : Option Addr} {sl_NotLeast : Array (Option Value)}
    {C_BadSign I_BadSign N_BadSign : Addr} {nm_BadSign q_BadSign : Str} {bs_BadSign : List Value} {sn_BadSign : List Str} {sub_BadSign : List Value} {ab_BadSign : Bool} {col_BadSign : Option Bool} {dd_BadSign : Option Addr} {m0_BadSign m1_BadSign m2_BadSign m3_BadSign m5_BadSign : Option Value} {oc_BadSign kV_BadSign doc_BadSign pm_BadSign cd_BadSign ct_BadSign : Value} {od_BadSign an_BadSign : Option Addr} {sl_BadSign : Array (Option Value)}
    {C_BadRule I_BadRule N_BadRule : Addr} {nm_BadRule q_BadRule : Str} {bs_BadRule : List Value} {sn_BadRule : List Str} {sub_BadRule : List Value} {ab_BadRule : Bool} {col_BadRule : Option Bool} {dd_BadRule : Option Addr} {m0_BadRule m1_BadRule m2_BadRule m3_BadRule m5_BadRule : Option Value} {oc_BadRule kV_BadRule doc_BadRule pm_BadRule cd_BadRule ct_BadRule : Value} {od_BadRule an_BadRule : Option Addr} {sl_BadRule : Array (Option Value)}
    {C_Ring I_Ring N_Ring : Addr} {nm_Ring q_Ring : Str} {bs_Ring : List Value} {sn_Ring : List Str} {sub_Ring : List Value} {ab_Ring : Bool} {col_Ring : Option Bool} {dd_Ring : Option Addr} {m0_Ring m1_Ring m2_Ring m3_Ring m5_Ring : Option Value} {oc_Ring kV_Ring doc_Ring pm_Ring cd_Ring ct_Ring : Value} {od_Ring an_Ring : Option Addr} {sl_Ring : Array (Option Value)}
    {C_NoRule I_NoRule N_NoRule : Addr} {nm_NoRule q_NoRule : Str} {bs_NoRule : List Value} {sn_NoRule : List Str} {sub_NoRule : List Value} {ab_NoRule : Bool} {col_NoRule : Option Bool} {dd_NoRule : Option Addr} {m0_NoRule m1_NoRule m2_NoRule m3_NoRule m5_NoRule : Option Value} {oc_NoRule kV_NoRule doc_NoRule pm_NoRule cd_NoRule ct_NoRule : Value} {od_NoRule an_NoRule : Option Addr} {sl_NoRule : Array (Option Value)}
    {C_BadPlace I_BadPlace N_BadPlace : Addr} {nm_BadPlace q_BadPlace : Str} {bs_BadPlace : List Value} {sn_BadPlace : List Str} {sub_BadPlace : List Value} {ab_BadPlace : Bool} {col_BadPlace : Option Bool} {dd_BadPlace : Option Addr} {m0_BadPlace m1_BadPlace m2_BadPlace m3_BadPlace m5_BadPlace : Option Value} {oc_BadPlace kV_BadPlace doc_BadPlace pm_BadPlace cd_BadPlace ct_BadPlace : Value} {od_BadPlace an_BadPlace : Option Addr} {sl_BadPlace : Array (Option Value)}
    {C_BadBits I_BadBits N_BadBits : Addr} {nm_BadBits q_BadBits : Str} {bs_BadBits : List Value} {sn_BadBits : List Str} {sub_BadBits : List Value} {ab_BadBits : Bool} {col_BadBits : Option Bool} {dd_BadBits : Option Addr} {m0_BadBits m1_BadBits m2_BadBits m3_BadBits m5_BadBits : Option Value} {oc_BadBits kV_BadBits doc_BadBits pm_BadBits cd_BadBits ct_BadBits : Value} {od_BadBits an_BadBits : Option Addr} {sl_BadBits : Array (Option Value)}
    {C_BadNode I_BadNode N_BadNode : Addr} {nm_BadNode q_BadNode : Str} {bs_BadNode : List Value} {sn_BadNode : List Str} {sub_BadNode : List Value} {ab_BadNode : Bool} {col_BadNode : Option Bool} {dd_BadNode : Option Addr} {m0_BadNode m1_BadNode m2_BadNode m3_BadNode m5_BadNode : Option Value} {oc_BadNode kV_BadNode doc_BadNode pm_BadNode cd_BadNode ct_BadNode : Value} {od_BadNode an_BadNode : Option Addr} {sl_BadNode : Array (Option Value)}
    {C_BadTable I_BadTable N_BadTable : Addr} {nm_BadTable q_BadTable : Str} {bs_BadTable : List Value} {sn_BadTable : List Str} {sub_BadTable : List Value} {ab_BadTable : Bool} {col_BadTable : Option Bool} {dd_BadTable : Option Addr} {m0_BadTable m1_BadTable m2_BadTable m3_BadTable m5_BadTable : Option Value} {oc_BadTable kV_BadTable doc_BadTable pm_BadTable cd_BadTable ct_BadTable : Value} {od_BadTable an_BadTable : Option Addr} {sl_BadTable : Array (Option Value)}
    {C_BadLooks I_BadLooks N_BadLooks : Addr} {nm_BadLooks q_BadLooks : Str} {bs_BadLooks : List Value} {sn_BadLooks : List Str} {sub_BadLooks : List Value} {ab_BadLooks : Bool} {col_BadLooks : Option Bool} {dd_BadLooks : Option Addr} {m0_BadLooks m1_BadLooks m2_BadLooks m3_BadLooks m5_BadLooks : Option Value} {oc_BadLooks kV_BadLooks doc_BadLooks pm_BadLooks cd_BadLooks ct_BadLooks : Value} {od_BadLooks an_BadLooks : Option Addr} {sl_BadLooks : Array (Option Value)}
    {C_NoSigns I_NoSigns N_NoSigns : Addr} {nm_NoSigns q_NoSigns : Str} {bs_NoSigns : List Value} {sn_NoSigns : List Str} {sub_NoSigns : List Value} {ab_NoSigns : Bool} {col_NoSigns : Option Bool} {dd_NoSigns : Option Addr} {m0_NoSigns m1_NoSigns m2_NoSigns m3_NoSigns m5_NoSigns : Option Value} {oc_NoSigns kV_NoSigns doc_NoSigns pm_NoSigns cd_NoSigns ct_NoSigns : Value} {od_NoSigns an_NoSigns : Option Addr} {sl_NoSigns : Array (Option Value)}
    (a_kept : PySem.W.nsIn K mainGlobals "kept" = some (some (.ref f_kept)))
    (l_kept : K.lookup f_kept = some ⟨oc_kept, od_kept, .func (PySem.W.fnOf "kept" "kept" (defArgs s_kept) (defBody s_kept) (defScope s_kept) .none kV_kept doc_kept pm_kept an_kept cd_kept ct_kept), sl_kept⟩)
    (c_kept : PySem.W.codeIn K cd_kept "kept" = true)
    (k_kept : PySem.W.keepIn K (.ref f_kept) = true)
    (a_pen : PySem.W.nsIn K mainGlobals "_law_pen" = some (some (.ref f_pen)))
    (l_pen : K.lookup f_pen = some ⟨oc_pen, od_pen, .func (PySem.W.fnOf "_law_pen" "_law_pen" (defArgs s_pen) (defBody s_pen) (defScope s_pen) .none kV_pen doc_pen pm_pen an_pen cd_pen ct_pen), sl_pen⟩)
    (c_pen : PySem.W.codeIn K cd_pen "_law_pen" = true)
    (k_pen : PySem.W.keepIn K (.ref f_pen) = true)
    (a_draw : PySem.W.nsIn K mainGlobals "_law_draw" = some (some (.ref f_draw)))
    (l_draw : K.lookup f_draw = some ⟨oc_draw, od_draw, .func (PySem.W.fnOf "_law_draw" "_law_draw" (defArgs s_draw) (defBody s_draw) (defScope s_draw) .none kV_draw doc_draw pm_draw an_draw cd_draw ct_draw), sl_draw⟩)
    (c_draw : PySem.W.codeIn K cd_draw "_law_draw" = true)
    (k_draw : PySem.W.keepIn K (.ref f_draw) = true)
    (a_pick : PySem.W.nsIn K mainGlobals "_law_pick" = some (some (.ref f_pick)))
    (l_pick : K.lookup f_pick = some ⟨oc_pick, od_pick, .func (PySem.W.fnOf "_law_pick" "_law_pick" (defArgs s_pick) (defBody s_pick) (defScope s_pick) .none kV_pick doc_pick pm_pick an_pick cd_pick ct_pick), sl_pick⟩)
    (c_pick : PySem.W.codeIn K cd_pick "_law_pick" = true)
    (k_pick : PySem.W.keepIn K (.ref f_pick) = true)
    (a_anything : PySem.W.nsIn K mainGlobals "_law_anything" = some (some (.ref f_anything)))
    (l_anything : K.lookup f_anything = some ⟨oc_anything, od_anything, .func (PySem.W.fnOf "_law_anything" "_law_anything" (defArgs s_anything) (defBody s_anything) (defScope s_anything) .none kV_anything doc_anything pm_anything an_anything cd_anything ct_anything), sl_anything⟩)
    (c_anything : PySem.W.codeIn K cd_anything "_law_anything" = true)
    (k_anything : PySem.W.keepIn K (.ref f_anything) = true)
    (a_bypos : PySem.W.nsIn K mainGlobals "_law_by_position" = some (some (.ref f_bypos)))
    (l_bypos : K.lookup f_bypos = some ⟨oc_bypos, od_bypos, .func (PySem.W.fnOf "_law_by_position" "_law_by_position" (defArgs s_bypos) (defBody s_bypos) (defScope s_bypos) .none kV_bypos doc_bypos pm_bypos an_bypos cd_bypos ct_bypos), sl_bypos⟩)
    (c_bypos : PySem.W.codeIn K cd_bypos "_law_by_position" = true)
    (k_bypos : PySem.W.keepIn K (.ref f_bypos) = true)
    (a_byname : PySem.W.nsIn K mainGlobals "_law_by_name" = some (some (.ref f_byname)))
    (l_byname : K.lookup f_byname = some ⟨oc_byname, od_byname, .func (PySem.W.fnOf "_law_by_name" "_law_by_name" (defArgs s_byname) (defBody s_byname) (defScope s_byname) .none kV_byname doc_byname pm_byname an_byname cd_byname ct_byname), sl_byname⟩)
    (c_byname : PySem.W.codeIn K cd_byname "_law_by_name" = true)
    (k_byname : PySem.W.keepIn K (.ref f_byname) = true)
    (a_made : PySem.W.nsIn K mainGlobals "_law_all_made" = some (some (.ref f_made)))
    (l_made : K.lookup f_made = some ⟨oc_made, od_made, .func (PySem.W.fnOf "_law_all_made" "_law_all_made" (defArgs s_made) (defBody s_made) (defScope s_made) .none kV_made doc_made pm_made an_made cd_made ct_made), sl_made⟩)
    (c_made : PySem.W.codeIn K cd_made "_law_all_made" = true)
    (k_made : PySem.W.keepIn K (.ref f_made) = true)
    (a_sorts : PySem.W.nsIn K mainGlobals "_law_sorts" = some (some (.ref f_sorts)))
    (l_sorts : K.lookup f_sorts = some ⟨oc_sorts, od_sorts, .func (PySem.W.fnOf "_law_sorts" "_law_sorts" (defArgs s_sorts) (defBody s_sorts) (defScope s_sorts) .none kV_sorts doc_sorts pm_sorts an_sorts cd_sorts ct_sorts), sl_sorts⟩)
    (c_sorts : PySem.W.codeIn K cd_sorts "_law_sorts" = true)
    (k_sorts : PySem.W.keepIn K (.ref f_sorts) = true)
    (a_law : PySem.W.nsIn K mainGlobals "law" = some (some (.ref f_law)))
    (l_law : K.lookup f_law = some ⟨oc_law, od_law, .func (PySem.W.fnOf "law" "law" (defArgs s_law) (defBody s_law) (defScope s_law) .none kV_law doc_law pm_law an_law cd_law ct_law), sl_law⟩)
    (c_law : PySem.W.codeIn K cd_law "law" = true)
    (k_law : PySem.W.keepIn K (.ref f_law) = true)
    (aJ : PySem.W.nsIn K mainGlobals "JoinsError" = some (some (.ref cj)))
    (rJ : PySem.W.readsIn K cj (.type "type") = true)
    (sJ : PySem.W.specialIn K (.ref cj) "__getattribute__" = some (some (.builtin "type.__getattribute__")))
    (vJ : PySem.W.findCls K (.ref cj) (.type "type") "__init__" = some (.val (.builtin "ValueError.__init__")))
    (iJ : PySem.W.isClsIn K cj = true)
    (tJ : PySem.W.typeIn K (.ref cj) = some (.type "type"))
    (aC_TooMany : PySem.W.nsIn K mainGlobals "TooMany" = some (some (.ref C_TooMany)))
    (xL_TooMany : K.lookup C_TooMany = some (excClassObj nm_TooMany q_TooMany C_TooMany N_TooMany bs_TooMany [.ref cj, .type "ValueError", .type "Exception", .type "BaseException", .type "object"] true sn_TooMany sub_TooMany ab_TooMany col_TooMany dd_TooMany m0_TooMany m1_TooMany m2_TooMany m3_TooMany m5_TooMany "ValueError.__new__"))
    (iI_TooMany : PySem.W.findIn K (.ref C_TooMany) "__init__" = some (some (.ref I_TooMany)))
    (eB_TooMany : errB K C_TooMany I_TooMany ["what", "many", "most"] = true)
    (lI_TooMany : K.lookup I_TooMany = some ⟨oc_TooMany, od_TooMany, .func (PySem.W.fnOf "__init__" "TooMany.__init__" (defArgs s_TooMany) (defBody s_TooMany) (defScope s_TooMany) .none kV_TooMany doc_TooMany pm_TooMany an_TooMany cd_TooMany ct_TooMany), sl_TooMany⟩)
    (cI_TooMany : PySem.W.codeIn K cd_TooMany "TooMany.__init__" = true)
    (kI_TooMany : PySem.W.keepIn K (.ref I_TooMany) = true)
    (aC_BadCount : PySem.W.nsIn K mainGlobals "BadCount" = some (some (.ref C_BadCount)))
    (xL_BadCount : K.lookup C_BadCount = some (excClassObj nm_BadCount q_BadCount C_BadCount N_BadCount bs_BadCount [.ref cj, .type "ValueError", .type "Exception", .type "BaseException", .type "object"] true sn_BadCount sub_BadCount ab_BadCount col_BadCount dd_BadCount m0_BadCount m1_BadCount m2_BadCount m3_BadCount m5_BadCount "ValueError.__new__"))
    (iI_BadCount : PySem.W.findIn K (.ref C_BadCount) "__init__" = some (some (.ref I_BadCount)))
    (eB_BadCount : errB K C_BadCount I_BadCount ["index"] = true)
    (lI_BadCount : K.lookup I_BadCount = some ⟨oc_BadCount, od_BadCount, .func (PySem.W.fnOf "__init__" "BadCount.__init__" (defArgs s_BadCount) (defBody s_BadCount) (defScope s_BadCount) .none kV_BadCount doc_BadCount pm_BadCount an_BadCount cd_BadCount ct_BadCount), sl_BadCount⟩)
    (cI_BadCount : PySem.W.codeIn K cd_BadCount "BadCount.__init__" = true)
    (kI_BadCount : PySem.W.keepIn K (.ref I_BadCount) = true)
    (aC_BadLength : PySem.W.nsIn K mainGlobals "BadLength" = some (some (.ref C_BadLength)))
    (xL_BadLength : K.lookup C_BadLength = some (excClassObj nm_BadLength q_BadLength C_BadLength N_BadLength bs_BadLength [.ref cj, .type "ValueError", .type "Exception", .type "BaseException", .type "object"] true sn_BadLength sub_BadLength ab_BadLength col_BadLength dd_BadLength m0_BadLength m1_BadLength m2_BadLength m3_BadLength m5_BadLength "ValueError.__new__"))
    (iI_BadLength : PySem.W.findIn K (.ref C_BadLength) "__init__" = some (some (.ref I_BadLength)))
    (eB_BadLength : errB K C_BadLength I_BadLength ["index"] = true)
    (lI_BadLength : K.lookup I_BadLength = some ⟨oc_BadLength, od_BadLength, .func (PySem.W.fnOf "__init__" "BadLength.__init__" (defArgs s_BadLength) (defBody s_BadLength) (defScope s_BadLength) .none kV_BadLength doc_BadLength pm_BadLength an_BadLength cd_BadLength ct_BadLength), sl_BadLength⟩)
    (cI_BadLength : PySem.W.codeIn K cd_BadLength "BadLength.__init__" = true)
    (kI_BadLength : PySem.W.keepIn K (.ref I_BadLength) = true)
    (aC_NotFull : PySem.W.nsIn K mainGlobals "NotFull" = some (some (.ref C_NotFull)))
    (xL_NotFull : K.lookup C_NotFull = some (excClassObj nm_NotFull q_NotFull C_NotFull N_NotFull bs_NotFull [.ref cj, .type "ValueError", .type "Exception", .type "BaseException", .type "object"] true sn_NotFull sub_NotFull ab_NotFull col_NotFull dd_NotFull m0_NotFull m1_NotFull m2_NotFull m3_NotFull m5_NotFull "ValueError.__new__"))
    (iI_NotFull : PySem.W.findIn K (.ref C_NotFull) "__init__" = some (some (.ref I_NotFull)))
    (eB_NotFull : errB K C_NotFull I_NotFull [] = true)
    (lI_NotFull : K.lookup I_NotFull = some ⟨oc_NotFull, od_NotFull, .func (PySem.W.fnOf "__init__" "NotFull.__init__" (defArgs s_NotFull) (defBody s_NotFull) (defScope s_NotFull) .none kV_NotFull doc_NotFull pm_NotFull an_NotFull cd_NotFull ct_NotFull), sl_NotFull⟩)
    (cI_NotFull : PySem.W.codeIn K cd_NotFull "NotFull.__init__" = true)
    (kI_NotFull : PySem.W.keepIn K (.ref I_NotFull) = true)
    (aC_BadWord : PySem.W.nsIn K mainGlobals "BadWord" = some (some (.ref C_BadWord)))
    (xL_BadWord : K.lookup C_BadWord = some (excClassObj nm_BadWord q_BadWord C_BadWord N_BadWord bs_BadWord [.ref cj, .type "ValueError", .type "Exception", .type "BaseException", .type "object"] true sn_BadWord sub_BadWord ab_BadWord col_BadWord dd_BadWord m0_BadWord m1_BadWord m2_BadWord m3_BadWord m5_BadWord "ValueError.__new__"))
    (iI_BadWord : PySem.W.findIn K (.ref C_BadWord) "__init__" = some (some (.ref I_BadWord)))
    (eB_BadWord : errB K C_BadWord I_BadWord ["index"] = true)
    (lI_BadWord : K.lookup I_BadWord = some ⟨oc_BadWord, od_BadWord, .func (PySem.W.fnOf "__init__" "BadWord.__init__" (defArgs s_BadWord) (defBody s_BadWord) (defScope s_BadWord) .none kV_BadWord doc_BadWord pm_BadWord an_BadWord cd_BadWord ct_BadWord), sl_BadWord⟩)
    (cI_BadWord : PySem.W.codeIn K cd_BadWord "BadWord.__init__" = true)
    (kI_BadWord : PySem.W.keepIn K (.ref I_BadWord) = true)
    (aC_Begins : PySem.W.nsIn K mainGlobals "Begins" = some (some (.ref C_Begins)))
    (xL_Begins : K.lookup C_Begins = some (excClassObj nm_Begins q_Begins C_Begins N_Begins bs_Begins [.ref cj, .type "ValueError", .type "Exception", .type "BaseException", .type "object"] true sn_Begins sub_Begins ab_Begins col_Begins dd_Begins m0_Begins m1_Begins m2_Begins m3_Begins m5_Begins "ValueError.__new__"))
    (iI_Begins : PySem.W.findIn K (.ref C_Begins) "__init__" = some (some (.ref I_Begins)))
    (eB_Begins : errB K C_Begins I_Begins ["index", "other"] = true)
    (lI_Begins : K.lookup I_Begins = some ⟨oc_Begins, od_Begins, .func (PySem.W.fnOf "__init__" "Begins.__init__" (defArgs s_Begins) (defBody s_Begins) (defScope s_Begins) .none kV_Begins doc_Begins pm_Begins an_Begins cd_Begins ct_Begins), sl_Begins⟩)
    (cI_Begins : PySem.W.codeIn K cd_Begins "Begins.__init__" = true)
    (kI_Begins : PySem.W.keepIn K (.ref I_Begins) = true)
    (aC_OtherSize : PySem.W.nsIn K mainGlobals "OtherSize" = some (some (.ref C_OtherSize)))
    (xL_OtherSize : K.lookup C_OtherSize = some (excClassObj nm_OtherSize q_OtherSize C_OtherSize N_OtherSize bs_OtherSize [.ref cj, .type "ValueError", .type "Exception", .type "BaseException", .type "object"] true sn_OtherSize sub_OtherSize ab_OtherSize col_OtherSize dd_OtherSize m0_OtherSize m1_OtherSize m2_OtherSize m3_OtherSize m5_OtherSize "ValueError.__new__"))
    (iI_OtherSize : PySem.W.findIn K (.ref C_OtherSize) "__init__" = some (some (.ref I_OtherSize)))
    (eB_OtherSize : errB K C_OtherSize I_OtherSize ["many", "wanted"] = true)
    (lI_OtherSize : K.lookup I_OtherSize = some ⟨oc_OtherSize, od_OtherSize, .func (PySem.W.fnOf "__init__" "OtherSize.__init__" (defArgs s_OtherSize) (defBody s_OtherSize) (defScope s_OtherSize) .none kV_OtherSize doc_OtherSize pm_OtherSize an_OtherSize cd_OtherSize ct_OtherSize), sl_OtherSize⟩)
    (cI_OtherSize : PySem.W.codeIn K cd_OtherSize "OtherSize.__init__" = true)
    (kI_OtherSize : PySem.W.keepIn K (.ref I_OtherSize) = true)
    (aC_BadSize : PySem.W.nsIn K mainGlobals "BadSize" = some (some (.ref C_BadSize)))
    (xL_BadSize : K.lookup C_BadSize = some (excClassObj nm_BadSize q_BadSize C_BadSize N_BadSize bs_BadSize [.ref cj, .type "ValueError", .type "Exception", .type "BaseException", .type "object"] true sn_BadSize sub_BadSize ab_BadSize col_BadSize dd_BadSize m0_BadSize m1_BadSize m2_BadSize m3_BadSize m5_BadSize "ValueError.__new__"))
    (iI_BadSize : PySem.W.findIn K (.ref C_BadSize) "__init__" = some (some (.ref I_BadSize)))
    (eB_BadSize : errB K C_BadSize I_BadSize ["size"] = true)
    (lI_BadSize : K.lookup I_BadSize = some ⟨oc_BadSize, od_BadSize, .func (PySem.W.fnOf "__init__" "BadSize.__init__" (defArgs s_BadSize) (defBody s_BadSize) (defScope s_BadSize) .none kV_BadSize doc_BadSize pm_BadSize an_BadSize cd_BadSize ct_BadSize), sl_BadSize⟩)
    (cI_BadSize : PySem.W.codeIn K cd_BadSize "BadSize.__init__" = true)
    (kI_BadSize : PySem.W.keepIn K (.ref I_BadSize) = true)
    (aC_NoBorder : PySem.W.nsIn K mainGlobals "NoBorder" = some (some (.ref C_NoBorder)))
    (xL_NoBorder : K.lookup C_NoBorder = some (excClassObj nm_NoBorder q_NoBorder C_NoBorder N_NoBorder bs_NoBorder [.ref cj, .type "ValueError", .type "Exception", .type "BaseException", .type "object"] true sn_NoBorder sub_NoBorder ab_NoBorder col_NoBorder dd_NoBorder m0_NoBorder m1_NoBorder m2_NoBorder m3_NoBorder m5_NoBorder "ValueError.__new__"))
    (iI_NoBorder : PySem.W.findIn K (.ref C_NoBorder) "__init__" = some (some (.ref I_NoBorder)))
    (eB_NoBorder : errB K C_NoBorder I_NoBorder [] = true)
    (lI_NoBorder : K.lookup I_NoBorder = some ⟨oc_NoBorder, od_NoBorder, .func (PySem.W.fnOf "__init__" "NoBorder.__init__" (defArgs s_NoBorder) (defBody s_NoBorder) (defScope s_NoBorder) .none kV_NoBorder doc_NoBorder pm_NoBorder an_NoBorder cd_NoBorder ct_NoBorder), sl_NoBorder⟩)
    (cI_NoBorder : PySem.W.codeIn K cd_NoBorder "NoBorder.__init__" = true)
    (kI_NoBorder : PySem.W.keepIn K (.ref I_NoBorder) = true)
    (aC_TooShort : PySem.W.nsIn K mainGlobals "TooShort" = some (some (.ref C_TooShort)))
    (xL_TooShort : K.lookup C_TooShort = some (excClassObj nm_TooShort q_TooShort C_TooShort N_TooShort bs_TooShort [.ref cj, .type "ValueError", .type "Exception", .type "BaseException", .type "object"] true sn_TooShort sub_TooShort ab_TooShort col_TooShort dd_TooShort m0_TooShort m1_TooShort m2_TooShort m3_TooShort m5_TooShort "ValueError.__new__"))
    (iI_TooShort : PySem.W.findIn K (.ref C_TooShort) "__init__" = some (some (.ref I_TooShort)))
    (eB_TooShort : errB K C_TooShort I_TooShort ["most", "least"] = true)
    (lI_TooShort : K.lookup I_TooShort = some ⟨oc_TooShort, od_TooShort, .func (PySem.W.fnOf "__init__" "TooShort.__init__" (defArgs s_TooShort) (defBody s_TooShort) (defScope s_TooShort) .none kV_TooShort doc_TooShort pm_TooShort an_TooShort cd_TooShort ct_TooShort), sl_TooShort⟩)
    (cI_TooShort : PySem.W.codeIn K cd_TooShort "TooShort.__init__" = true)
    (kI_TooShort : PySem.W.keepIn K (.ref I_TooShort) = true)
    (aC_TooLong : PySem.W.nsIn K mainGlobals "TooLong" = some (some (.ref C_TooLong)))
    (xL_TooLong : K.lookup C_TooLong = some (excClassObj nm_TooLong q_TooLong C_TooLong N_TooLong bs_TooLong [.ref cj, .type "ValueError", .type "Exception", .type "BaseException", .type "object"] true sn_TooLong sub_TooLong ab_TooLong col_TooLong dd_TooLong m0_TooLong m1_TooLong m2_TooLong m3_TooLong m5_TooLong "ValueError.__new__"))
    (iI_TooLong : PySem.W.findIn K (.ref C_TooLong) "__init__" = some (some (.ref I_TooLong)))
    (eB_TooLong : errB K C_TooLong I_TooLong ["sign"] = true)
    (lI_TooLong : K.lookup I_TooLong = some ⟨oc_TooLong, od_TooLong, .func (PySem.W.fnOf "__init__" "TooLong.__init__" (defArgs s_TooLong) (defBody s_TooLong) (defScope s_TooLong) .none kV_TooLong doc_TooLong pm_TooLong an_TooLong cd_TooLong ct_TooLong), sl_TooLong⟩)
    (cI_TooLong : PySem.W.codeIn K cd_TooLong "TooLong.__init__" = true)
    (kI_TooLong : PySem.W.keepIn K (.ref I_TooLong) = true)
    (aC_BadOver : PySem.W.nsIn K mainGlobals "BadOver" = some (some (.ref C_BadOver)))
    (xL_BadOver : K.lookup C_BadOver = some (excClassObj nm_BadOver q_BadOver C_BadOver N_BadOver bs_BadOver [.ref cj, .type "ValueError", .type "Exception", .type "BaseException", .type "object"] true sn_BadOver sub_BadOver ab_BadOver col_BadOver dd_BadOver m0_BadOver m1_BadOver m2_BadOver m3_BadOver m5_BadOver "ValueError.__new__"))
    (iI_BadOver : PySem.W.findIn K (.ref C_BadOver) "__init__" = some (some (.ref I_BadOver)))
    (eB_BadOver : errB K C_BadOver I_BadOver [] = true)
    (lI_BadOver : K.lookup I_BadOver = some ⟨oc_BadOver, od_BadOver, .func (PySem.W.fnOf "__init__" "BadOver.__init__" (defArgs s_BadOver) (defBody s_BadOver) (defScope s_BadOver) .none kV_BadOver doc_BadOver pm_BadOver an_BadOver cd_BadOver ct_BadOver), sl_BadOver⟩)
    (cI_BadOver : PySem.W.codeIn K cd_BadOver "BadOver.__init__" = true)
    (kI_BadOver : PySem.W.keepIn K (.ref I_BadOver) = true)
    (aC_BadTie : PySem.W.nsIn K mainGlobals "BadTie" = some (some (.ref C_BadTie)))
    (xL_BadTie : K.lookup C_BadTie = some (excClassObj nm_BadTie q_BadTie C_BadTie N_BadTie bs_BadTie [.ref cj, .type "ValueError", .type "Exception", .type "BaseException", .type "object"] true sn_BadTie sub_BadTie ab_BadTie col_BadTie dd_BadTie m0_BadTie m1_BadTie m2_BadTie m3_BadTie m5_BadTie "ValueError.__new__"))
    (iI_BadTie : PySem.W.findIn K (.ref C_BadTie) "__init__" = some (some (.ref I_BadTie)))
    (eB_BadTie : errB K C_BadTie I_BadTie ["tie"] = true)
    (lI_BadTie : K.lookup I_BadTie = some ⟨oc_BadTie, od_BadTie, .func (PySem.W.fnOf "__init__" "BadTie.__init__" (defArgs s_BadTie) (defBody s_BadTie) (defScope s_BadTie) .none kV_BadTie doc_BadTie pm_BadTie an_BadTie cd_BadTie ct_BadTie), sl_BadTie⟩)
    (cI_BadTie : PySem.W.codeIn K cd_BadTie "BadTie.__init__" = true)
    (kI_BadTie : PySem.W.keepIn K (.ref I_BadTie) = true)
    (aC_NotLeast : PySem.W.nsIn K mainGlobals "NotLeast" = some (some (.ref C_NotLeast)))
    (xL_NotLeast : K.lookup C_NotLeast = some (excClassObj nm_NotLeast q_NotLeast C_NotLeast N_NotLeast bs_NotLeast [.ref cj, .type "ValueError", .type "Exception", .type "BaseException", .type "object"] true sn_NotLeast sub_NotLeast ab_NotLeast col_NotLeast dd_NotLeast m0_NotLeast m1_NotLeast m2_NotLeast m3_NotLeast m5_NotLeast "ValueError.__new__"))
    (iI_NotLeast : PySem.W.findIn K (.ref C_NotLeast) "__init__" = some (some (.ref I_NotLeast)))
    (eB_NotLeast : errB K C_NotLeast I_NotLeast [] = true)
    (lI_NotLeast : K.lookup I_NotLeast = some ⟨oc_NotLeast, od_NotLeast, .func (PySem.W.fnOf "__init__" "NotLeast.__init__" (defArgs s_NotLeast) (defBody s_NotLeast) (defScope s_NotLeast) .none kV_NotLeast doc_NotLeast pm_NotLeast an_NotLeast cd_NotLeast ct_NotLeast), sl_NotLeast⟩)
    (cI_NotLeast : PySem.W.codeIn K cd_NotLeast "NotLeast.__init__" = true)
    (kI_NotLeast : PySem.W.keepIn K (.ref I_NotLeast) = true)
    (aC_BadSign : PySem.W.nsIn K mainGlobals "BadSign" = some (some (.ref C_BadSign)))
    (xL_BadSign : K.lookup C_BadSign = some (excClassObj nm_BadSign q_BadSign C_BadSign N_BadSign bs_BadSign [.ref cj, .type "ValueError", .type "Exception", .type "BaseException", .type "object"] true sn_BadSign sub_BadSign ab_BadSign col_BadSign dd_BadSign m0_BadSign m1_BadSign m2_BadSign m3_BadSign m5_BadSign "ValueError.__new__"))
    (iI_BadSign : PySem.W.findIn K (.ref C_BadSign) "__init__" = some (some (.ref I_BadSign)))
    (eB_BadSign : errB K C_BadSign I_BadSign ["index"] = true)
    (lI_BadSign : K.lookup I_BadSign = some ⟨oc_BadSign, od_BadSign, .func (PySem.W.fnOf "__init__" "BadSign.__init__" (defArgs s_BadSign) (defBody s_BadSign) (defScope s_BadSign) .none kV_BadSign doc_BadSign pm_BadSign an_BadSign cd_BadSign ct_BadSign), sl_BadSign⟩)
    (cI_BadSign : PySem.W.codeIn K cd_BadSign "BadSign.__init__" = true)
    (kI_BadSign : PySem.W.keepIn K (.ref I_BadSign) = true)
    (aC_BadRule : PySem.W.nsIn K mainGlobals "BadRule" = some (some (.ref C_BadRule)))
    (xL_BadRule : K.lookup C_BadRule = some (excClassObj nm_BadRule q_BadRule C_BadRule N_BadRule bs_BadRule [.ref cj, .type "ValueError", .type "Exception", .type "BaseException", .type "object"] true sn_BadRule sub_BadRule ab_BadRule col_BadRule dd_BadRule m0_BadRule m1_BadRule m2_BadRule m3_BadRule m5_BadRule "ValueError.__new__"))
    (iI_BadRule : PySem.W.findIn K (.ref C_BadRule) "__init__" = some (some (.ref I_BadRule)))
    (eB_BadRule : errB K C_BadRule I_BadRule ["name"] = true)
    (lI_BadRule : K.lookup I_BadRule = some ⟨oc_BadRule, od_BadRule, .func (PySem.W.fnOf "__init__" "BadRule.__init__" (defArgs s_BadRule) (defBody s_BadRule) (defScope s_BadRule) .none kV_BadRule doc_BadRule pm_BadRule an_BadRule cd_BadRule ct_BadRule), sl_BadRule⟩)
    (cI_BadRule : PySem.W.codeIn K cd_BadRule "BadRule.__init__" = true)
    (kI_BadRule : PySem.W.keepIn K (.ref I_BadRule) = true)
    (aC_Ring : PySem.W.nsIn K mainGlobals "Ring" = some (some (.ref C_Ring)))
    (xL_Ring : K.lookup C_Ring = some (excClassObj nm_Ring q_Ring C_Ring N_Ring bs_Ring [.ref cj, .type "ValueError", .type "Exception", .type "BaseException", .type "object"] true sn_Ring sub_Ring ab_Ring col_Ring dd_Ring m0_Ring m1_Ring m2_Ring m3_Ring m5_Ring "ValueError.__new__"))
    (iI_Ring : PySem.W.findIn K (.ref C_Ring) "__init__" = some (some (.ref I_Ring)))
    (eB_Ring : errB K C_Ring I_Ring ["name"] = true)
    (lI_Ring : K.lookup I_Ring = some ⟨oc_Ring, od_Ring, .func (PySem.W.fnOf "__init__" "Ring.__init__" (defArgs s_Ring) (defBody s_Ring) (defScope s_Ring) .none kV_Ring doc_Ring pm_Ring an_Ring cd_Ring ct_Ring), sl_Ring⟩)
    (cI_Ring : PySem.W.codeIn K cd_Ring "Ring.__init__" = true)
    (kI_Ring : PySem.W.keepIn K (.ref I_Ring) = true)
    (aC_NoRule : PySem.W.nsIn K mainGlobals "NoRule" = some (some (.ref C_NoRule)))
    (xL_NoRule : K.lookup C_NoRule = some (excClassObj nm_NoRule q_NoRule C_NoRule N_NoRule bs_NoRule [.ref cj, .type "ValueError", .type "Exception", .type "BaseException", .type "object"] true sn_NoRule sub_NoRule ab_NoRule col_NoRule dd_NoRule m0_NoRule m1_NoRule m2_NoRule m3_NoRule m5_NoRule "ValueError.__new__"))
    (iI_NoRule : PySem.W.findIn K (.ref C_NoRule) "__init__" = some (some (.ref I_NoRule)))
    (eB_NoRule : errB K C_NoRule I_NoRule ["root"] = true)
    (lI_NoRule : K.lookup I_NoRule = some ⟨oc_NoRule, od_NoRule, .func (PySem.W.fnOf "__init__" "NoRule.__init__" (defArgs s_NoRule) (defBody s_NoRule) (defScope s_NoRule) .none kV_NoRule doc_NoRule pm_NoRule an_NoRule cd_NoRule ct_NoRule), sl_NoRule⟩)
    (cI_NoRule : PySem.W.codeIn K cd_NoRule "NoRule.__init__" = true)
    (kI_NoRule : PySem.W.keepIn K (.ref I_NoRule) = true)
    (aC_BadPlace : PySem.W.nsIn K mainGlobals "BadPlace" = some (some (.ref C_BadPlace)))
    (xL_BadPlace : K.lookup C_BadPlace = some (excClassObj nm_BadPlace q_BadPlace C_BadPlace N_BadPlace bs_BadPlace [.ref cj, .type "ValueError", .type "Exception", .type "BaseException", .type "object"] true sn_BadPlace sub_BadPlace ab_BadPlace col_BadPlace dd_BadPlace m0_BadPlace m1_BadPlace m2_BadPlace m3_BadPlace m5_BadPlace "ValueError.__new__"))
    (iI_BadPlace : PySem.W.findIn K (.ref C_BadPlace) "__init__" = some (some (.ref I_BadPlace)))
    (eB_BadPlace : errB K C_BadPlace I_BadPlace ["place"] = true)
    (lI_BadPlace : K.lookup I_BadPlace = some ⟨oc_BadPlace, od_BadPlace, .func (PySem.W.fnOf "__init__" "BadPlace.__init__" (defArgs s_BadPlace) (defBody s_BadPlace) (defScope s_BadPlace) .none kV_BadPlace doc_BadPlace pm_BadPlace an_BadPlace cd_BadPlace ct_BadPlace), sl_BadPlace⟩)
    (cI_BadPlace : PySem.W.codeIn K cd_BadPlace "BadPlace.__init__" = true)
    (kI_BadPlace : PySem.W.keepIn K (.ref I_BadPlace) = true)
    (aC_BadBits : PySem.W.nsIn K mainGlobals "BadBits" = some (some (.ref C_BadBits)))
    (xL_BadBits : K.lookup C_BadBits = some (excClassObj nm_BadBits q_BadBits C_BadBits N_BadBits bs_BadBits [.ref cj, .type "ValueError", .type "Exception", .type "BaseException", .type "object"] true sn_BadBits sub_BadBits ab_BadBits col_BadBits dd_BadBits m0_BadBits m1_BadBits m2_BadBits m3_BadBits m5_BadBits "ValueError.__new__"))
    (iI_BadBits : PySem.W.findIn K (.ref C_BadBits) "__init__" = some (some (.ref I_BadBits)))
    (eB_BadBits : errB K C_BadBits I_BadBits ["index"] = true)
    (lI_BadBits : K.lookup I_BadBits = some ⟨oc_BadBits, od_BadBits, .func (PySem.W.fnOf "__init__" "BadBits.__init__" (defArgs s_BadBits) (defBody s_BadBits) (defScope s_BadBits) .none kV_BadBits doc_BadBits pm_BadBits an_BadBits cd_BadBits ct_BadBits), sl_BadBits⟩)
    (cI_BadBits : PySem.W.codeIn K cd_BadBits "BadBits.__init__" = true)
    (kI_BadBits : PySem.W.keepIn K (.ref I_BadBits) = true)
    (aC_BadNode : PySem.W.nsIn K mainGlobals "BadNode" = some (some (.ref C_BadNode)))
    (xL_BadNode : K.lookup C_BadNode = some (excClassObj nm_BadNode q_BadNode C_BadNode N_BadNode bs_BadNode [.ref cj, .type "ValueError", .type "Exception", .type "BaseException", .type "object"] true sn_BadNode sub_BadNode ab_BadNode col_BadNode dd_BadNode m0_BadNode m1_BadNode m2_BadNode m3_BadNode m5_BadNode "ValueError.__new__"))
    (iI_BadNode : PySem.W.findIn K (.ref C_BadNode) "__init__" = some (some (.ref I_BadNode)))
    (eB_BadNode : errB K C_BadNode I_BadNode ["node"] = true)
    (lI_BadNode : K.lookup I_BadNode = some ⟨oc_BadNode, od_BadNode, .func (PySem.W.fnOf "__init__" "BadNode.__init__" (defArgs s_BadNode) (defBody s_BadNode) (defScope s_BadNode) .none kV_BadNode doc_BadNode pm_BadNode an_BadNode cd_BadNode ct_BadNode), sl_BadNode⟩)
    (cI_BadNode : PySem.W.codeIn K cd_BadNode "BadNode.__init__" = true)
    (kI_BadNode : PySem.W.keepIn K (.ref I_BadNode) = true)
    (aC_BadTable : PySem.W.nsIn K mainGlobals "BadTable" = some (some (.ref C_BadTable)))
    (xL_BadTable : K.lookup C_BadTable = some (excClassObj nm_BadTable q_BadTable C_BadTable N_BadTable bs_BadTable [.ref cj, .type "ValueError", .type "Exception", .type "BaseException", .type "object"] true sn_BadTable sub_BadTable ab_BadTable col_BadTable dd_BadTable m0_BadTable m1_BadTable m2_BadTable m3_BadTable m5_BadTable "ValueError.__new__"))
    (iI_BadTable : PySem.W.findIn K (.ref C_BadTable) "__init__" = some (some (.ref I_BadTable)))
    (eB_BadTable : errB K C_BadTable I_BadTable ["node"] = true)
    (lI_BadTable : K.lookup I_BadTable = some ⟨oc_BadTable, od_BadTable, .func (PySem.W.fnOf "__init__" "BadTable.__init__" (defArgs s_BadTable) (defBody s_BadTable) (defScope s_BadTable) .none kV_BadTable doc_BadTable pm_BadTable an_BadTable cd_BadTable ct_BadTable), sl_BadTable⟩)
    (cI_BadTable : PySem.W.codeIn K cd_BadTable "BadTable.__init__" = true)
    (kI_BadTable : PySem.W.keepIn K (.ref I_BadTable) = true)
    (aC_BadLooks : PySem.W.nsIn K mainGlobals "BadLooks" = some (some (.ref C_BadLooks)))
    (xL_BadLooks : K.lookup C_BadLooks = some (excClassObj nm_BadLooks q_BadLooks C_BadLooks N_BadLooks bs_BadLooks [.ref cj, .type "ValueError", .type "Exception", .type "BaseException", .type "object"] true sn_BadLooks sub_BadLooks ab_BadLooks col_BadLooks dd_BadLooks m0_BadLooks m1_BadLooks m2_BadLooks m3_BadLooks m5_BadLooks "ValueError.__new__"))
    (iI_BadLooks : PySem.W.findIn K (.ref C_BadLooks) "__init__" = some (some (.ref I_BadLooks)))
    (eB_BadLooks : errB K C_BadLooks I_BadLooks ["looks"] = true)
    (lI_BadLooks : K.lookup I_BadLooks = some ⟨oc_BadLooks, od_BadLooks, .func (PySem.W.fnOf "__init__" "BadLooks.__init__" (defArgs s_BadLooks) (defBody s_BadLooks) (defScope s_BadLooks) .none kV_BadLooks doc_BadLooks pm_BadLooks an_BadLooks cd_BadLooks ct_BadLooks), sl_BadLooks⟩)
    (cI_BadLooks : PySem.W.codeIn K cd_BadLooks "BadLooks.__init__" = true)
    (kI_BadLooks : PySem.W.keepIn K (.ref I_BadLooks) = true)
    (aC_NoSigns : PySem.W.nsIn K mainGlobals "NoSigns" = some (some (.ref C_NoSigns)))
    (xL_NoSigns : K.lookup C_NoSigns = some (excClassObj nm_NoSigns q_NoSigns C_NoSigns N_NoSigns bs_NoSigns [.ref cj, .type "ValueError", .type "Exception", .type "BaseException", .type "object"] true sn_NoSigns sub_NoSigns ab_NoSigns col_NoSigns dd_NoSigns m0_NoSigns m1_NoSigns m2_NoSigns m3_NoSigns m5_NoSigns "ValueError.__new__"))
    (iI_NoSigns : PySem.W.findIn K (.ref C_NoSigns) "__init__" = some (some (.ref I_NoSigns)))
    (eB_NoSigns : errB K C_NoSigns I_NoSigns [] = true)
    (lI_NoSigns : K.lookup I_NoSigns = some ⟨oc_NoSigns, od_NoSigns, .func (PySem.W.fnOf "__init__" "NoSigns.__init__" (defArgs s_NoSigns) (defBody s_NoSigns) (defScope s_NoSigns) .none kV_NoSigns doc_NoSigns pm_NoSigns an_NoSigns cd_NoSigns ct_NoSigns), sl_NoSigns⟩)
    (cI_NoSigns : PySem.W.codeIn K cd_NoSigns "NoSigns.__init__" = true)
    (kI_NoSigns : PySem.W.keepIn K (.ref I_NoSigns) = true)
    (nd : ([cj, C_TooMany, C_BadCount, C_BadLength, C_NotFull, C_BadWord, C_Begins, C_OtherSize, C_BadSize, C_NoBorder, C_TooShort, C_TooLong, C_BadOver, C_BadTie, C_NotLeast, C_BadSign, C_BadRule, C_Ring, C_NoRule, C_BadPlace, C_BadBits, C_BadNode, C_BadTable, C_BadLooks, C_NoSigns] : List Addr).Nodup)
    (z_int : PySem.W.nsIn K mainGlobals "int" = some none)
    (z_len : PySem.W.nsIn K mainGlobals "len" = some none)
    (z_abs : PySem.W.nsIn K mainGlobals "abs" = some none)
    (z_list : PySem.W.nsIn K mainGlobals "list" = some none)
    (z_tuple : PySem.W.nsIn K mainGlobals "tuple" = some none)
    (z_dict : PySem.W.nsIn K mainGlobals "dict" = some none)
    (z_isinstance : PySem.W.nsIn K mainGlobals "isinstance" = some none)
    (z_repr : PySem.W.nsIn K mainGlobals "repr" = some none)
    (z_range : PySem.W.nsIn K mainGlobals "range" = some none)
    (z_ValueError : PySem.W.nsIn K mainGlobals "ValueError" = some none) :
    ∃ fd : FuncData, (∀ (s : Shared) (v : Value), BindsTo s fd ⟨[v], []⟩ [("_law_script", v)]) ∧ ∀ base : Heap, K.In base → base.Ns mainGlobals mg → OkQuiet P w K mg base 7 fa fd ["_law_script"] (spLaw K) := by
  have e := hfa.symm.trans (PySem.W.mg_of X G a_law)
  cases e
  have T : Txt K mg { cj := cj, a_kept := f_kept, d_kept := PySem.W.fnOf "kept" "kept" (defArgs s_kept) (defBody s_kept) (defScope s_kept) .none kV_kept doc_kept pm_kept an_kept cd_kept ct_kept, a_pen := f_pen, d_pen := PySem.W.fnOf "_law_pen" "_law_pen" (defArgs s_pen) (defBody s_pen) (defScope s_pen) .none kV_pen doc_pen pm_pen an_pen cd_pen ct_pen, a_draw := f_draw, d_draw := PySem.W.fnOf "_law_draw" "_law_draw" (defArgs s_draw) (defBody s_draw) (defScope s_draw) .none kV_draw doc_draw pm_draw an_draw cd_draw ct_draw, a_pick := f_pick, d_pick := PySem.W.fnOf "_law_pick" "_law_pick" (defArgs s_pick) (defBody s_pick) (defScope s_pick) .none kV_pick doc_pick pm_pick an_pick cd_pick ct_pick, a_anything := f_anything, d_anything := PySem.W.fnOf "_law_anything" "_law_anything" (defArgs s_anything) (defBody s_anything) (defScope s_anything) .none kV_anything doc_anything pm_anything an_anything cd_anything ct_anything, a_bypos := f_bypos, d_bypos := PySem.W.fnOf "_law_by_position" "_law_by_position" (defArgs s_bypos) (defBody s_bypos) (defScope s_bypos) .none kV_bypos doc_bypos pm_bypos an_bypos cd_bypos ct_bypos, a_byname := f_byname, d_byname := PySem.W.fnOf "_law_by_name" "_law_by_name" (defArgs s_byname) (defBody s_byname) (defScope s_byname) .none kV_byname doc_byname pm_byname an_byname cd_byname ct_byname, a_made := f_made, d_made := PySem.W.fnOf "_law_all_made" "_law_all_made" (defArgs s_made) (defBody s_made) (defScope s_made) .none kV_made doc_made pm_made an_made cd_made ct_made, a_sorts := f_sorts, d_sorts := PySem.W.fnOf "_law_sorts" "_law_sorts" (defArgs s_sorts) (defBody s_sorts) (defScope s_sorts) .none kV_sorts doc_sorts pm_sorts an_sorts cd_sorts ct_sorts, a_law := fa, d_law := PySem.W.fnOf "law" "law" (defArgs s_law) (defBody s_law) (defScope s_law) .none kV_law doc_law pm_law an_law cd_law ct_law, c_TooMany := C_TooMany, i_TooMany := I_TooMany, d_TooMany := PySem.W.fnOf "__init__" "TooMany.__init__" (defArgs s_TooMany) (defBody s_TooMany) (defScope s_TooMany) .none kV_TooMany doc_TooMany pm_TooMany an_TooMany cd_TooMany ct_TooMany, c_BadCount := C_BadCount, i_BadCount := I_BadCount, d_BadCount := PySem.W.fnOf "__init__" "BadCount.__init__" (defArgs s_BadCount) (defBody s_BadCount) (defScope s_BadCount) .none kV_BadCount doc_BadCount pm_BadCount an_BadCount cd_BadCount ct_BadCount, c_BadLength := C_BadLength, i_BadLength := I_BadLength, d_BadLength := PySem.W.fnOf "__init__" "BadLength.__init__" (defArgs s_BadLength) (defBody s_BadLength) (defScope s_BadLength) .none kV_BadLength doc_BadLength pm_BadLength an_BadLength cd_BadLength ct_BadLength, c_NotFull := C_NotFull, i_NotFull := I_NotFull, d_NotFull := PySem.W.fnOf "__init__" "NotFull.__init__" (defArgs s_NotFull) (defBody s_NotFull) (defScope s_NotFull) .none kV_NotFull doc_NotFull pm_NotFull an_NotFull cd_NotFull ct_NotFull, c_BadWord := C_BadWord, i_BadWord := I_BadWord, d_BadWord := PySem.W.fnOf "__init__" "BadWord.__init__" (defArgs s_BadWord) (defBody s_BadWord) (defScope s_BadWord) .none kV_BadWord doc_BadWord pm_BadWord an_BadWord cd_BadWord ct_BadWord, c_Begins := C_Begins, i_Begins := I_Begins, d_Begins := PySem.W.fnOf "__init__" "Begins.__init__" (defArgs s_Begins) (defBody s_Begins) (defScope s_Begins) .none kV_Begins doc_Begins pm_Begins an_Begins cd_Begins ct_Begins, c_OtherSize := C_OtherSize, i_OtherSize := I_OtherSize, d_OtherSize := PySem.W.fnOf "__init__" "OtherSize.__init__" (defArgs s_OtherSize) (defBody s_OtherSize) (defScope s_OtherSize) .none kV_OtherSize doc_OtherSize pm_OtherSize an_OtherSize cd_OtherSize ct_OtherSize, c_BadSize := C_BadSize, i_BadSize := I_BadSize, d_BadSize := PySem.W.fnOf "__init__" "BadSize.__init__" (defArgs s_BadSize) (defBody s_BadSize) (defScope s_BadSize) .none kV_BadSize doc_BadSize pm_BadSize an_BadSize cd_BadSize ct_BadSize, c_NoBorder := C_NoBorder, i_NoBorder := I_NoBorder, d_NoBorder := PySem.W.fnOf "__init__" "NoBorder.__init__" (defArgs s_NoBorder) (defBody s_NoBorder) (defScope s_NoBorder) .none kV_NoBorder doc_NoBorder pm_NoBorder an_NoBorder cd_NoBorder ct_NoBorder, c_TooShort := C_TooShort, i_TooShort := I_TooShort, d_TooShort := PySem.W.fnOf "__init__" "TooShort.__init__" (defArgs s_TooShort) (defBody s_TooShort) (defScope s_TooShort) .none kV_TooShort doc_TooShort pm_TooShort an_TooShort cd_TooShort ct_TooShort, c_TooLong := C_TooLong, i_TooLong := I_TooLong, d_TooLong := PySem.W.fnOf "__init__" "TooLong.__init__" (defArgs s_TooLong) (defBody s_TooLong) (defScope s_TooLong) .none kV_TooLong doc_TooLong pm_TooLong an_TooLong cd_TooLong ct_TooLong, c_BadOver := C_BadOver, i_BadOver := I_BadOver, d_BadOver := PySem.W.fnOf "__init__" "BadOver.__init__" (defArgs s_BadOver) (defBody s_BadOver) (defScope s_BadOver) .none kV_BadOver doc_BadOver pm_BadOver an_BadOver cd_BadOver ct_BadOver, c_BadTie := C_BadTie, i_BadTie := I_BadTie, d_BadTie := PySem.W.fnOf "__init__" "BadTie.__init__" (defArgs s_BadTie) (defBody s_BadTie) (defScope s_BadTie) .none kV_BadTie doc_BadTie pm_BadTie an_BadTie cd_BadTie ct_BadTie, c_NotLeast := C_NotLeast, i_NotLeast := I_NotLeast, d_NotLeast := PySem.W.fnOf "__init__" "NotLeast.__init__" (defArgs s_NotLeast) (defBody s_NotLeast) (defScope s_NotLeast) .none kV_NotLeast doc_NotLeast pm_NotLeast an_NotLeast cd_NotLeast ct_NotLeast, c_BadSign := C_BadSign, i_BadSign := I_BadSign, d_BadSign := PySem.W.fnOf "__init__" "BadSign.__init__" (defArgs s_BadSign) (defBody s_BadSign) (defScope s_BadSign) .none kV_BadSign doc_BadSign pm_BadSign an_BadSign cd_BadSign ct_BadSign, c_BadRule := C_BadRule, i_BadRule := I_BadRule, d_BadRule := PySem.W.fnOf "__init__" "BadRule.__init__" (defArgs s_BadRule) (defBody s_BadRule) (defScope s_BadRule) .none kV_BadRule doc_BadRule pm_BadRule an_BadRule cd_BadRule ct_BadRule, c_Ring := C_Ring, i_Ring := I_Ring, d_Ring := PySem.W.fnOf "__init__" "Ring.__init__" (defArgs s_Ring) (defBody s_Ring) (defScope s_Ring) .none kV_Ring doc_Ring pm_Ring an_Ring cd_Ring ct_Ring, c_NoRule := C_NoRule, i_NoRule := I_NoRule, d_NoRule := PySem.W.fnOf "__init__" "NoRule.__init__" (defArgs s_NoRule) (defBody s_NoRule) (defScope s_NoRule) .none kV_NoRule doc_NoRule pm_NoRule an_NoRule cd_NoRule ct_NoRule, c_BadPlace := C_BadPlace, i_BadPlace := I_BadPlace, d_BadPlace := PySem.W.fnOf "__init__" "BadPlace.__init__" (defArgs s_BadPlace) (defBody s_BadPlace) (defScope s_BadPlace) .none kV_BadPlace doc_BadPlace pm_BadPlace an_BadPlace cd_BadPlace ct_BadPlace, c_BadBits := C_BadBits, i_BadBits := I_BadBits, d_BadBits := PySem.W.fnOf "__init__" "BadBits.__init__" (defArgs s_BadBits) (defBody s_BadBits) (defScope s_BadBits) .none kV_BadBits doc_BadBits pm_BadBits an_BadBits cd_BadBits ct_BadBits, c_BadNode := C_BadNode, i_BadNode := I_BadNode, d_BadNode := PySem.W.fnOf "__init__" "BadNode.__init__" (defArgs s_BadNode) (defBody s_BadNode) (defScope s_BadNode) .none kV_BadNode doc_BadNode pm_BadNode an_BadNode cd_BadNode ct_BadNode, c_BadTable := C_BadTable, i_BadTable := I_BadTable, d_BadTable := PySem.W.fnOf "__init__" "BadTable.__init__" (defArgs s_BadTable) (defBody s_BadTable) (defScope s_BadTable) .none kV_BadTable doc_BadTable pm_BadTable an_BadTable cd_BadTable ct_BadTable, c_BadLooks := C_BadLooks, i_BadLooks := I_BadLooks, d_BadLooks := PySem.W.fnOf "__init__" "BadLooks.__init__" (defArgs s_BadLooks) (defBody s_BadLooks) (defScope s_BadLooks) .none kV_BadLooks doc_BadLooks pm_BadLooks an_BadLooks cd_BadLooks ct_BadLooks, c_NoSigns := C_NoSigns, i_NoSigns := I_NoSigns, d_NoSigns := PySem.W.fnOf "__init__" "NoSigns.__init__" (defArgs s_NoSigns) (defBody s_NoSigns) (defScope s_NoSigns) .none kV_NoSigns doc_NoSigns pm_NoSigns an_NoSigns cd_NoSigns ct_NoSigns } := { F_kept := (fun_mk l_kept c_kept k_kept), g_kept := (PySem.W.mg_of X G a_kept), b_kept := ((fun_mk (st := s_kept) l_kept c_kept k_kept).binds fun _ _ _ _ _ _ us hl => match us, hl with | [_], _ => rfl), F_pen := (fun_mk l_pen c_pen k_pen), g_pen := (PySem.W.mg_of X G a_pen), b_pen := ((fun_mk (st := s_pen) l_pen c_pen k_pen).binds fun _ _ _ _ _ _ us hl => match us, hl with | [_], _ => rfl), F_draw := (fun_mk l_draw c_draw k_draw), g_draw := (PySem.W.mg_of X G a_draw), b_draw := ((fun_mk (st := s_draw) l_draw c_draw k_draw).binds fun _ _ _ _ _ _ us hl => match us, hl with | [_, _], _ => rfl), F_pick := (fun_mk l_pick c_pick k_pick), g_pick := (PySem.W.mg_of X G a_pick), b_pick := ((fun_mk (st := s_pick) l_pick c_pick k_pick).binds fun _ _ _ _ _ _ us hl => match us, hl with | [_, _], _ => rfl), F_anything := (fun_mk l_anything c_anything k_anything), g_anything := (PySem.W.mg_of X G a_anything), b_anything := ((fun_mk (st := s_anything) l_anything c_anything k_anything).binds fun _ _ _ _ _ _ us hl => match us, hl with | [_], _ => rfl), F_bypos := (fun_mk l_bypos c_bypos k_bypos), g_bypos := (PySem.W.mg_of X G a_bypos), b_bypos := ((fun_mk (st := s_bypos) l_bypos c_bypos k_bypos).binds fun _ _ _ _ _ _ us hl => match us, hl with | [_, _, _], _ => rfl), F_byname := (fun_mk l_byname c_byname k_byname), g_byname := (PySem.W.mg_of X G a_byname), b_byname := ((fun_mk (st := s_byname) l_byname c_byname k_byname).binds fun _ _ _ _ _ _ us hl => match us, hl with | [_, _, _], _ => rfl), F_made := (fun_mk l_made c_made k_made), g_made := (PySem.W.mg_of X G a_made), b_made := ((fun_mk (st := s_made) l_made c_made k_made).binds fun _ _ _ _ _ _ us hl => match us, hl with | [_, _, _], _ => rfl), F_sorts := (fun_mk l_sorts c_sorts k_sorts), g_sorts := (PySem.W.mg_of X G a_sorts), b_sorts := ((fun_mk (st := s_sorts) l_sorts c_sorts k_sorts).binds fun _ _ _ _ _ _ us hl => match us, hl with | [_], _ => rfl), F_law := (fun_mk l_law c_law k_law), g_law := (PySem.W.mg_of X G a_law), b_law := ((fun_mk (st := s_law) l_law c_law k_law).binds fun _ _ _ _ _ _ us hl => match us, hl with | [_], _ => rfl), E_TooMany := (ec_mk X G aC_TooMany xL_TooMany eB_TooMany lI_TooMany cI_TooMany kI_TooMany ⟨fun s us ws _ h1 h2 => match us, ws, h1, h2 with | [_, _, _, _], [], _, _ => .of_eq rfl, fun r _ => r⟩ ⟨fun s us ws _ h1 h2 => match us, ws, h1, h2 with | [_], [_, _, _], _, _ => .of_eq rfl, fun r rz => r.append rz⟩), E_BadCount := (ec_mk X G aC_BadCount xL_BadCount eB_BadCount lI_BadCount cI_BadCount kI_BadCount ⟨fun s us ws _ h1 h2 => match us, ws, h1, h2 with | [_, _], [], _, _ => .of_eq rfl, fun r _ => r⟩ ⟨fun s us ws _ h1 h2 => match us, ws, h1, h2 with | [_], [_], _, _ => .of_eq rfl, fun r rz => r.append rz⟩), E_BadLength := (ec_mk X G aC_BadLength xL_BadLength eB_BadLength lI_BadLength cI_BadLength kI_BadLength ⟨fun s us ws _ h1 h2 => match us, ws, h1, h2 with | [_, _], [], _, _ => .of_eq rfl, fun r _ => r⟩ ⟨fun s us ws _ h1 h2 => match us, ws, h1, h2 with | [_], [_], _, _ => .of_eq rfl, fun r rz => r.append rz⟩), E_NotFull := (ec_mk X G aC_NotFull xL_NotFull eB_NotFull lI_NotFull cI_NotFull kI_NotFull ⟨fun s us ws _ h1 h2 => match us, ws, h1, h2 with | [_], [], _, _ => .of_eq rfl, fun r _ => r⟩ ⟨fun s us ws _ h1 h2 => match us, ws, h1, h2 with | [_], [], _, _ => .of_eq rfl, fun r rz => r.append rz⟩), E_BadWord := (ec_mk X G aC_BadWord xL_BadWord eB_BadWord lI_BadWord cI_BadWord kI_BadWord ⟨fun s us ws _ h1 h2 => match us, ws, h1, h2 with | [_, _], [], _, _ => .of_eq rfl, fun r _ => r⟩ ⟨fun s us ws _ h1 h2 => match us, ws, h1, h2 with | [_], [_], _, _ => .of_eq rfl, fun r rz => r.append rz⟩), E_Begins := (ec_mk X G aC_Begins xL_Begins eB_Begins lI_Begins cI_Begins kI_Begins ⟨fun s us ws _ h1 h2 => match us, ws, h1, h2 with | [_, _, _], [], _, _ => .of_eq rfl, fun r _ => r⟩ ⟨fun s us ws _ h1 h2 => match us, ws, h1, h2 with | [_], [_, _], _, _ => .of_eq rfl, fun r rz => r.append rz⟩), E_OtherSize := (ec_mk X G aC_OtherSize xL_OtherSize eB_OtherSize lI_OtherSize cI_OtherSize kI_OtherSize ⟨fun s us ws _ h1 h2 => match us, ws, h1, h2 with | [_, _, _], [], _, _ => .of_eq rfl, fun r _ => r⟩ ⟨fun s us ws _ h1 h2 => match us, ws, h1, h2 with | [_], [_, _], _, _ => .of_eq rfl, fun r rz => r.append rz⟩), E_BadSize := (ec_mk X G aC_BadSize xL_BadSize eB_BadSize lI_BadSize cI_BadSize kI_BadSize ⟨fun s us ws _ h1 h2 => match us, ws, h1, h2 with | [_, _], [], _, _ => .of_eq rfl, fun r _ => r⟩ ⟨fun s us ws _ h1 h2 => match us, ws, h1, h2 with | [_], [_], _, _ => .of_eq rfl, fun r rz => r.append rz⟩), E_NoBorder := (ec_mk X G aC_NoBorder xL_NoBorder eB_NoBorder lI_NoBorder cI_NoBorder kI_NoBorder ⟨fun s us ws _ h1 h2 => match us, ws, h1, h2 with | [_], [], _, _ => .of_eq rfl, fun r _ => r⟩ ⟨fun s us ws _ h1 h2 => match us, ws, h1, h2 with | [_], [], _, _ => .of_eq rfl, fun r rz => r.append rz⟩), E_TooShort := (ec_mk X G aC_TooShort xL_TooShort eB_TooShort lI_TooShort cI_TooShort kI_TooShort ⟨fun s us ws _ h1 h2 => match us, ws, h1, h2 with | [_, _, _], [], _, _ => .of_eq rfl, fun r _ => r⟩ ⟨fun s us ws _ h1 h2 => match us, ws, h1, h2 with | [_], [_, _], _, _ => .of_eq rfl, fun r rz => r.append rz⟩), E_TooLong := (ec_mk X G aC_TooLong xL_TooLong eB_TooLong lI_TooLong cI_TooLong kI_TooLong ⟨fun s us ws _ h1 h2 => match us, ws, h1, h2 with | [_, _], [], _, _ => .of_eq rfl, fun r _ => r⟩ ⟨fun s us ws _ h1 h2 => match us, ws, h1, h2 with | [_], [_], _, _ => .of_eq rfl, fun r rz => r.append rz⟩), E_BadOver := (ec_mk X G aC_BadOver xL_BadOver eB_BadOver lI_BadOver cI_BadOver kI_BadOver ⟨fun s us ws _ h1 h2 => match us, ws, h1, h2 with | [_], [], _, _ => .of_eq rfl, fun r _ => r⟩ ⟨fun s us ws _ h1 h2 => match us, ws, h1, h2 with | [_], [], _, _ => .of_eq rfl, fun r rz => r.append rz⟩), E_BadTie := (ec_mk X G aC_BadTie xL_BadTie eB_BadTie lI_BadTie cI_BadTie kI_BadTie ⟨fun s us ws _ h1 h2 => match us, ws, h1, h2 with | [_, _], [], _, _ => .of_eq rfl, fun r _ => r⟩ ⟨fun s us ws _ h1 h2 => match us, ws, h1, h2 with | [_], [_], _, _ => .of_eq rfl, fun r rz => r.append rz⟩), E_NotLeast := (ec_mk X G aC_NotLeast xL_NotLeast eB_NotLeast lI_NotLeast cI_NotLeast kI_NotLeast ⟨fun s us ws _ h1 h2 => match us, ws, h1, h2 with | [_], [], _, _ => .of_eq rfl, fun r _ => r⟩ ⟨fun s us ws _ h1 h2 => match us, ws, h1, h2 with | [_], [], _, _ => .of_eq rfl, fun r rz => r.append rz⟩), E_BadSign := (ec_mk X G aC_BadSign xL_BadSign eB_BadSign lI_BadSign cI_BadSign kI_BadSign ⟨fun s us ws _ h1 h2 => match us, ws, h1, h2 with | [_, _], [], _, _ => .of_eq rfl, fun r _ => r⟩ ⟨fun s us ws _ h1 h2 => match us, ws, h1, h2 with | [_], [_], _, _ => .of_eq rfl, fun r rz => r.append rz⟩), E_BadRule := (ec_mk X G aC_BadRule xL_BadRule eB_BadRule lI_BadRule cI_BadRule kI_BadRule ⟨fun s us ws _ h1 h2 => match us, ws, h1, h2 with | [_, _], [], _, _ => .of_eq rfl, fun r _ => r⟩ ⟨fun s us ws _ h1 h2 => match us, ws, h1, h2 with | [_], [_], _, _ => .of_eq rfl, fun r rz => r.append rz⟩), E_Ring := (ec_mk X G aC_Ring xL_Ring eB_Ring lI_Ring cI_Ring kI_Ring ⟨fun s us ws _ h1 h2 => match us, ws, h1, h2 with | [_, _], [], _, _ => .of_eq rfl, fun r _ => r⟩ ⟨fun s us ws _ h1 h2 => match us, ws, h1, h2 with | [_], [_], _, _ => .of_eq rfl, fun r rz => r.append rz⟩), E_NoRule := (ec_mk X G aC_NoRule xL_NoRule eB_NoRule lI_NoRule cI_NoRule kI_NoRule ⟨fun s us ws _ h1 h2 => match us, ws, h1, h2 with | [_, _], [], _, _ => .of_eq rfl, fun r _ => r⟩ ⟨fun s us ws _ h1 h2 => match us, ws, h1, h2 with | [_], [_], _, _ => .of_eq rfl, fun r rz => r.append rz⟩), E_BadPlace := (ec_mk X G aC_BadPlace xL_BadPlace eB_BadPlace lI_BadPlace cI_BadPlace kI_BadPlace ⟨fun s us ws _ h1 h2 => match us, ws, h1, h2 with | [_, _], [], _, _ => .of_eq rfl, fun r _ => r⟩ ⟨fun s us ws _ h1 h2 => match us, ws, h1, h2 with | [_], [_], _, _ => .of_eq rfl, fun r rz => r.append rz⟩), E_BadBits := (ec_mk X G aC_BadBits xL_BadBits eB_BadBits lI_BadBits cI_BadBits kI_BadBits ⟨fun s us ws _ h1 h2 => match us, ws, h1, h2 with | [_, _], [], _, _ => .of_eq rfl, fun r _ => r⟩ ⟨fun s us ws _ h1 h2 => match us, ws, h1, h2 with | [_], [_], _, _ => .of_eq rfl, fun r rz => r.append rz⟩), E_BadNode := (ec_mk X G aC_BadNode xL_BadNode eB_BadNode lI_BadNode cI_BadNode kI_BadNode ⟨fun s us ws _ h1 h2 => match us, ws, h1, h2 with | [_, _], [], _, _ => .of_eq rfl, fun r _ => r⟩ ⟨fun s us ws _ h1 h2 => match us, ws, h1, h2 with | [_], [_], _, _ => .of_eq rfl, fun r rz => r.append rz⟩), E_BadTable := (ec_mk X G aC_BadTable xL_BadTable eB_BadTable lI_BadTable cI_BadTable kI_BadTable ⟨fun s us ws _ h1 h2 => match us, ws, h1, h2 with | [_, _], [], _, _ => .of_eq rfl, fun r _ => r⟩ ⟨fun s us ws _ h1 h2 => match us, ws, h1, h2 with | [_], [_], _, _ => .of_eq rfl, fun r rz => r.append rz⟩), E_BadLooks := (ec_mk X G aC_BadLooks xL_BadLooks eB_BadLooks lI_BadLooks cI_BadLooks kI_BadLooks ⟨fun s us ws _ h1 h2 => match us, ws, h1, h2 with | [_, _], [], _, _ => .of_eq rfl, fun r _ => r⟩ ⟨fun s us ws _ h1 h2 => match us, ws, h1, h2 with | [_], [_], _, _ => .of_eq rfl, fun r rz => r.append rz⟩), E_NoSigns := (ec_mk X G aC_NoSigns xL_NoSigns eB_NoSigns lI_NoSigns cI_NoSigns kI_NoSigns ⟨fun s us ws _ h1 h2 => match us, ws, h1, h2 with | [_], [], _, _ => .of_eq rfl, fun r _ => r⟩ ⟨fun s us ws _ h1 h2 => match us, ws, h1, h2 with | [_], [], _, _ => .of_eq rfl, fun r rz => r.append rz⟩), z_int := (PySem.W.mg_none_of X G z_int), z_len := (PySem.W.mg_none_of X G z_len), z_abs := (PySem.W.mg_none_of X G z_abs), z_list := (PySem.W.mg_none_of X G z_list), z_tuple := (PySem.W.mg_none_of X G z_tuple), z_dict := (PySem.W.mg_none_of X G z_dict), z_isinstance := (PySem.W.mg_none_of X G z_isinstance), z_repr := (PySem.W.mg_none_of X G z_repr), z_range := (PySem.W.mg_none_of X G z_range), z_ValueError := (PySem.W.mg_none_of X G z_ValueError), B := (⟨rJ, sJ, vJ⟩), gj := (PySem.W.mg_of X G aJ), cj := (iJ), tj := (tJ), nd := (nd) }
  exact ⟨_, fun s v => .of_eq rfl, fun base _ _ => ok_law T⟩
end
end Z

set_option Elab.async false
open PySem PySem.W PyProof.Rows
set_option maxRecDepth 100000
set_option maxHeartbeats 0
open_top k00head for PySem.Challenge.rw_leastjoined_k00_errors

open PySem PySem.W PyProof.Rows
set_option Elab.async false
set_option maxRecDepth 100000
set_option maxHeartbeats 0
theorem PySem.Challenge.cw_leastjoined_k00_errors_holds : PySem.Challenge.rw_leastjoined_k00_errors.Holds := by
  refine k00head ?_
  k_fill
  refine Z.walkQuiet (l := PySem.Challenge.rw_leastjoined_k00_errors) (n := 63) (k := 7) (x := "_law_script") (sp := Z.spLaw) rfl (by decide) rfl ⟨rfl, by decide, by decide⟩ (fun w h Y => PySem.W.kIn_of Y) ?F (fun K H a ns hl hS => ⟨a, ns, rfl, hS, hl, fun _ => rfl⟩)
  case F =>
    intro w mg fa h KX G hmg
    refine' Z.all_mk KX G hmg ?a_kept ?l_kept ?c_kept ?k_kept ?a_pen ?l_pen ?c_pen ?k_pen ?a_draw ?l_draw ?c_draw ?k_draw ?a_pick ?l_pick ?c_pick ?k_pick ?a_anything ?l_anything ?c_anything ?k_anything ?a_bypos ?l_bypos ?c_bypos ?k_bypos ?a_byname ?l_byname ?c_byname ?k_byname ?a_made ?l_made ?c_made ?k_made ?a_sorts ?l_sorts ?c_sorts ?k_sorts ?a_law ?l_law ?c_law ?k_law ?aJ ?rJ ?sJ ?vJ ?iJ ?tJ ?aC_TooMany ?xL_TooMany ?iI_TooMany ?eB_TooMany ?lI_TooMany ?cI_TooMany ?kI_TooMany ?aC_BadCount ?xL_BadCount ?iI_BadCount ?eB_BadCount ?lI_BadCount ?cI_BadCount ?kI_BadCount ?aC_BadLength ?xL_BadLength ?iI_BadLength ?eB_BadLength ?lI_BadLength ?cI_BadLength ?kI_BadLength ?aC_NotFull ?xL_NotFull ?iI_NotFull ?eB_NotFull ?lI_NotFull ?cI_NotFull ?kI_NotFull ?aC_BadWord ?xL_BadWord ?iI_BadWord ?eB_BadWord ?lI_BadWord ?cI_BadWord ?kI_BadWord ?aC_Begins ?xL_Begins ?iI_Begins ?eB_Begins ?lI_Begins ?cI_Begins ?kI_Begins ?aC_OtherSize ?xL_OtherSize ?iI_OtherSize ?eB_OtherSize ?lI_OtherSize ?cI_OtherSize ?kI_OtherSize ?aC_BadSize ?xL_BadSize ?iI_BadSize ?eB_BadSize ?lI_BadSize ?cI_BadSize ?kI_BadSize ?aC_NoBorder ?xL_NoBorder ?iI_NoBorder ?eB_NoBorder ?lI_NoBorder ?cI_NoBorder ?kI_NoBorder ?aC_TooShort ?xL_TooShort ?iI_TooShort ?eB_TooShort ?lI_TooShort ?cI_TooShort ?kI_TooShort ?aC_TooLong ?xL_TooLong ?iI_TooLong ?eB_TooLong ?lI_TooLong ?cI_TooLong ?kI_TooLong ?aC_BadOver ?xL_BadOver ?iI_BadOver ?eB_BadOver ?lI_BadOver ?cI_BadOver ?kI_BadOver ?aC_BadTie ?xL_BadTie ?iI_BadTie ?eB_BadTie ?lI_BadTie ?cI_BadTie ?kI_BadTie ?aC_NotLeast ?xL_NotLeast ?iI_NotLeast ?eB_NotLeast ?lI_NotLeast ?cI_NotLeast ?kI_NotLeast ?aC_BadSign ?xL_BadSign ?iI_BadSign ?eB_BadSign ?lI_BadSign ?cI_BadSign ?kI_BadSign ?aC_BadRule ?xL_BadRule ?iI_BadRule ?eB_BadRule ?lI_BadRule ?cI_BadRule ?kI_BadRule ?aC_Ring ?xL_Ring ?iI_Ring ?eB_Ring ?lI_Ring ?cI_Ring ?kI_Ring ?aC_NoRule ?xL_NoRule ?iI_NoRule ?eB_NoRule ?lI_NoRule ?cI_NoRule ?kI_NoRule ?aC_BadPlace ?xL_BadPlace ?iI_BadPlace ?eB_BadPlace ?lI_BadPlace ?cI_BadPlace ?kI_BadPlace ?aC_BadBits ?xL_BadBits ?iI_BadBits ?eB_BadBits ?lI_BadBits ?cI_BadBits ?kI_BadBits ?aC_BadNode ?xL_BadNode ?iI_BadNode ?eB_BadNode ?lI_BadNode ?cI_BadNode ?kI_BadNode ?aC_BadTable ?xL_BadTable ?iI_BadTable ?eB_BadTable ?lI_BadTable ?cI_BadTable ?kI_BadTable ?aC_BadLooks ?xL_BadLooks ?iI_BadLooks ?eB_BadLooks ?lI_BadLooks ?cI_BadLooks ?kI_BadLooks ?aC_NoSigns ?xL_NoSigns ?iI_NoSigns ?eB_NoSigns ?lI_NoSigns ?cI_NoSigns ?kI_NoSigns ?nd ?z_int ?z_len ?z_abs ?z_list ?z_tuple ?z_dict ?z_isinstance ?z_repr ?z_range ?z_ValueError
    (case a_kept => k_is)
    (case l_kept => k_is)
    (case c_kept => k_is)
    (case k_kept => k_is)
    (case a_pen => k_is)
    (case l_pen => k_is)
    (case c_pen => k_is)
    (case k_pen => k_is)
    (case a_draw => k_is)
    (case l_draw => k_is)
    (case c_draw => k_is)
    (case k_draw => k_is)
    (case a_pick => k_is)
    (case l_pick => k_is)
    (case c_pick => k_is)
    (case k_pick => k_is)
    (case a_anything => k_is)
    (case l_anything => k_is)
    (case c_anything => k_is)
    (case k_anything => k_is)
    (case a_bypos => k_is)
    (case l_bypos => k_is)
    (case c_bypos => k_is)
    (case k_bypos => k_is)
    (case a_byname => k_is)
    (case l_byname => k_is)
    (case c_byname => k_is)
    (case k_byname => k_is)
    (case a_made => k_is)
    (case l_made => k_is)
    (case c_made => k_is)
    (case k_made => k_is)
    (case a_sorts => k_is)
    (case l_sorts => k_is)
    (case c_sorts => k_is)
    (case k_sorts => k_is)
    (case a_law => k_is)
    (case l_law => k_is)
    (case c_law => k_is)
    (case k_law => k_is)
    (case aJ => k_is)
    (case rJ => first | k_is | kernel_rfl)
    (case sJ => first | k_is | kernel_rfl)
    (case vJ => first | k_is | kernel_rfl)
    (case iJ => first | k_is | kernel_rfl)
    (case tJ => first | k_is | kernel_rfl)
    (case aC_TooMany => k_is)
    (case xL_TooMany => k_is)
    (case iI_TooMany => k_is)
    (case eB_TooMany => kernel_rfl)
    (case lI_TooMany => k_is)
    (case cI_TooMany => k_is)
    (case kI_TooMany => k_is)
    (case aC_BadCount => k_is)
    (case xL_BadCount => k_is)
    (case iI_BadCount => k_is)
    (case eB_BadCount => kernel_rfl)
    (case lI_BadCount => k_is)
    (case cI_BadCount => k_is)
    (case kI_BadCount => k_is)
    (case aC_BadLength => k_is)
    (case xL_BadLength => k_is)
    (case iI_BadLength => k_is)
    (case eB_BadLength => kernel_rfl)
    (case lI_BadLength => k_is)
    (case cI_BadLength => k_is)
    (case kI_BadLength => k_is)
    (case aC_NotFull => k_is)
    (case xL_NotFull => k_is)
    (case iI_NotFull => k_is)
    (case eB_NotFull => kernel_rfl)
    (case lI_NotFull => k_is)
    (case cI_NotFull => k_is)
    (case kI_NotFull => k_is)
    (case aC_BadWord => k_is)
    (case xL_BadWord => k_is)
    (case iI_BadWord => k_is)
    (case eB_BadWord => kernel_rfl)
    (case lI_BadWord => k_is)
    (case cI_BadWord => k_is)
    (case kI_BadWord => k_is)
    (case aC_Begins => k_is)
    (case xL_Begins => k_is)
    (case iI_Begins => k_is)
    (case eB_Begins => kernel_rfl)
    (case lI_Begins => k_is)
    (case cI_Begins => k_is)
    (case kI_Begins => k_is)
    (case aC_OtherSize => k_is)
    (case xL_OtherSize => k_is)
    (case iI_OtherSize => k_is)
    (case eB_OtherSize => kernel_rfl)
    (case lI_OtherSize => k_is)
    (case cI_OtherSize => k_is)
    (case kI_OtherSize => k_is)
    (case aC_BadSize => k_is)
    (case xL_BadSize => k_is)
    (case iI_BadSize => k_is)
    (case eB_BadSize => kernel_rfl)
    (case lI_BadSize => k_is)
    (case cI_BadSize => k_is)
    (case kI_BadSize => k_is)
    (case aC_NoBorder => k_is)
    (case xL_NoBorder => k_is)
    (case iI_NoBorder => k_is)
    (case eB_NoBorder => kernel_rfl)
    (case lI_NoBorder => k_is)
    (case cI_NoBorder => k_is)
    (case kI_NoBorder => k_is)
    (case aC_TooShort => k_is)
    (case xL_TooShort => k_is)
    (case iI_TooShort => k_is)
    (case eB_TooShort => kernel_rfl)
    (case lI_TooShort => k_is)
    (case cI_TooShort => k_is)
    (case kI_TooShort => k_is)
    (case aC_TooLong => k_is)
    (case xL_TooLong => k_is)
    (case iI_TooLong => k_is)
    (case eB_TooLong => kernel_rfl)
    (case lI_TooLong => k_is)
    (case cI_TooLong => k_is)
    (case kI_TooLong => k_is)
    (case aC_BadOver => k_is)
    (case xL_BadOver => k_is)
    (case iI_BadOver => k_is)
    (case eB_BadOver => kernel_rfl)
    (case lI_BadOver => k_is)
    (case cI_BadOver => k_is)
    (case kI_BadOver => k_is)
    (case aC_BadTie => k_is)
    (case xL_BadTie => k_is)
    (case iI_BadTie => k_is)
    (case eB_BadTie => kernel_rfl)
    (case lI_BadTie => k_is)
    (case cI_BadTie => k_is)
    (case kI_BadTie => k_is)
    (case aC_NotLeast => k_is)
    (case xL_NotLeast => k_is)
    (case iI_NotLeast => k_is)
    (case eB_NotLeast => kernel_rfl)
    (case lI_NotLeast => k_is)
    (case cI_NotLeast => k_is)
    (case kI_NotLeast => k_is)
    (case aC_BadSign => k_is)
    (case xL_BadSign => k_is)
    (case iI_BadSign => k_is)
    (case eB_BadSign => kernel_rfl)
    (case lI_BadSign => k_is)
    (case cI_BadSign => k_is)
    (case kI_BadSign => k_is)
    (case aC_BadRule => k_is)
    (case xL_BadRule => k_is)
    (case iI_BadRule => k_is)
    (case eB_BadRule => kernel_rfl)
    (case lI_BadRule => k_is)
    (case cI_BadRule => k_is)
    (case kI_BadRule => k_is)
    (case aC_Ring => k_is)
    (case xL_Ring => k_is)
    (case iI_Ring => k_is)
    (case eB_Ring => kernel_rfl)
    (case lI_Ring => k_is)
    (case cI_Ring => k_is)
    (case kI_Ring => k_is)
    (case aC_NoRule => k_is)
    (case xL_NoRule => k_is)
    (case iI_NoRule => k_is)
    (case eB_NoRule => kernel_rfl)
    (case lI_NoRule => k_is)
    (case cI_NoRule => k_is)
    (case kI_NoRule => k_is)
    (case aC_BadPlace => k_is)
    (case xL_BadPlace => k_is)
    (case iI_BadPlace => k_is)
    (case eB_BadPlace => kernel_rfl)
    (case lI_BadPlace => k_is)
    (case cI_BadPlace => k_is)
    (case kI_BadPlace => k_is)
    (case aC_BadBits => k_is)
    (case xL_BadBits => k_is)
    (case iI_BadBits => k_is)
    (case eB_BadBits => kernel_rfl)
    (case lI_BadBits => k_is)
    (case cI_BadBits => k_is)
    (case kI_BadBits => k_is)
    (case aC_BadNode => k_is)
    (case xL_BadNode => k_is)
    (case iI_BadNode => k_is)
    (case eB_BadNode => kernel_rfl)
    (case lI_BadNode => k_is)
    (case cI_BadNode => k_is)
    (case kI_BadNode => k_is)
    (case aC_BadTable => k_is)
    (case xL_BadTable => k_is)
    (case iI_BadTable => k_is)
    (case eB_BadTable => kernel_rfl)
    (case lI_BadTable => k_is)
    (case cI_BadTable => k_is)
    (case kI_BadTable => k_is)
    (case aC_BadLooks => k_is)
    (case xL_BadLooks => k_is)
    (case iI_BadLooks => k_is)
    (case eB_BadLooks => kernel_rfl)
    (case lI_BadLooks => k_is)
    (case cI_BadLooks => k_is)
    (case kI_BadLooks => k_is)
    (case aC_NoSigns => k_is)
    (case xL_NoSigns => k_is)
    (case iI_NoSigns => k_is)
    (case eB_NoSigns => kernel_rfl)
    (case lI_NoSigns => k_is)
    (case cI_NoSigns => k_is)
    (case kI_NoSigns => k_is)
    (case nd => decide +kernel)
    (case z_int => k_is)
    (case z_len => k_is)
    (case z_abs => k_is)
    (case z_list => k_is)
    (case z_tuple => k_is)
    (case z_dict => k_is)
    (case z_isinstance => k_is)
    (case z_repr => k_is)
    (case z_range => k_is)
    (case z_ValueError => k_is)

