import PyProof.Rows.All
import Wide.All
import OpenK.AllK
import Wide.FinOn
import HandS.ForMost
import HandS.Exc
import HandS.ExcInit
import HandS.ExcIs
import HandS.IsInst
import HandS.DictComp
import HandS.MakeKw
import KE.KExcIs
import PyProof.ReprReads
import PyProof.ReprRoads
import HandS.ExcValue
import HandS.Lambda
import HandS.TryMany
import HandS.ExcField
import HandS.ExcOwn
import HandS.WordsExc
import HandS.Style
import HandS.EndTab
import KE.KNest
import HandS.Walk
import KE.GoesEnum
import KE.GoesNew
import KE.GoesMore
import KE.DataMinMax
import HandS.Iter
import HandS.List
import HandS.OwnEq
import HandS.SlotsOwn
import PyProof.InstNe
import OpenK.KMake
import HandS.Replace
import HandS.ReplaceLit
import HandS.Comp
import PyProof.ToksMono
import HandS.FStr
import PyProof.Rows.StrIntSpec
import HandS.Text
import HandS.ReplaceList
import PyProof.Rows.RegReprOcc
import PyProof.StrBlock2
import PyProof.Rows.StrStep
import PyProof.Rows.StrMul
import PyProof.NeKinds
import HandS.DictTup
import HandS.TupAny
import HandS.SortRule
import HandS.Zip
import KE.SortData
import HandS.Conv
import KE.KStar
import KE.KMathGC
import HandS.More
import PyProof.Rows.TupDisplay
import HandS.RaiseMore
import HandS.Defaults
import HandS.Wide
import HandS.StrMore
import HandS.Gcd
import HandS.RevTup
import HandS.Rev
import PyProof.ListNew
import PyProof.ListRange
import PySem.Challenge.RW_leastjoined_k39_levels
set_option Elab.async false
set_option linter.all false
set_option maxRecDepth 100000
set_option maxHeartbeats 4000000
/-! Exceptions of the program as values: made, their fields read, asked by isinstance. -/
namespace XV
open PySem PySem.Spec PyProof.Rows L2
section
variable {X : Cx} {e : Expr} {es : List Expr} {te : TE} {ta : TA} {x : Str} {p1 p2 pos : Pos}
/-- what the written part says of the base class of the errors, at CJ: its __init__ is ValueError's -/
structure BaseC (K : PySem.W.Frag) (CJ : Addr) : Prop where
  rd : PySem.W.readsIn K CJ (.type "type") = true
  ga : PySem.W.specialIn K (.ref CJ) "__getattribute__" = some (some (.builtin "type.__getattribute__"))
  ini : PySem.W.findCls K (.ref CJ) (.type "type") "__init__" = some (.val (.builtin "ValueError.__init__"))
/-- B.__init__(self, ..), B an own class over ValueError without an __init__ of its own -/
theorem pe_binit {CJ : Addr} {pl : Sem Bool} (B : BaseC X.K CJ) (hg : Gl X x) (hm : X.mg x = some (.ref CJ)) (ha : PA X (e :: es) ta)
    (hdb : (x == ("__debug__" : Str)) = false := by decide)
    (hc : eval (.Call (.Attribute (.Name x p1) "__init__" p2) (e :: es) [] pos) X.env = (do
      let ov ← eval (.Name x p1) X.env
      standAt p2.atName
      let (f, first) ← holding [ov] (getMethod ov "__init__" pl)
      callWith pos f first (backTo pos (starEach (e :: es) X.env)) (backToKw pos (keywordEach [] X.env))) := by rfl)
    (he : starEach (e :: es) X.env = (false, eval e X.env) :: starEach es X.env := by rfl) (hpl : (backTo pos (starEach es X.env)).any (·.1) = false := by rfl) :
    PE X (.Call (.Attribute (.Name x p1) "__init__" p2) (e :: es) [] pos) (tVeI X.K ta) := by
  refine ⟨fun pins s σ H Q I h => PySem.W.methodCall_KW (ld_glob I hg hm (PySem.W.method_cls I.kIn B.ga (PySem.W.cls_value I.kIn B.rd B.ini (by decide +kernel) ?_)) hdb) hc⟩
  refine PyProof.Rows.callWith_method1 (thn (ha.run pos pins _ σ H _ (I.tok _) h) fun us s1 ⟨vs, H1, I1, r1, a, C, ws, ev, hl, T, ea, q⟩ => ?_) he hpl
  subst ev
  cases r1 with
  | @cons _ u0 _ ur ra rw' =>
    obtain rfl : u0 = Value.ref a := ra
    have hlen : ur.length ≤ sizeLine := by
      rw [← Paired.length rw', sizeLine_eq]; omega
    exact oinit_ok T I1 ea hlen fun s' J => ⟨.non, H1, J, rfl, q⟩
end
end XV

set_option Elab.async false
set_option linter.all false
set_option maxRecDepth 100000
set_option maxHeartbeats 4000000
/-! an own error class called with keywords: type.__call__, BaseException.__new__, then its own __init__ -/
namespace XV
open PySem PySem.Spec PySem.HandSPX PySem.Calls
open Builtin Builtin.ObjectAttr
section
variable {M : Model} {prog : Program} {w : World} {A : Around} {E : Value → Shared → Prop} {R : Result → Shared → Prop} {hp : Heap} {gs : Array GenState} {dr : Drawn} {tk : Nat} {os : OsState}
variable {nm q : Str} {C N : Addr} {bs bm bmB : List Value} {hdct : Bool} {sn : List Str} {sub : List Value} {ab : Bool} {col : Option Bool} {dd : Option Addr} {k0 k1 k2 k3 k5 : Option Value} {B newId initId : String}
variable {vs : List Value} {kw : List (Str × Value)}
theorem newCheckK (F : ExcBaseFacts B newId initId bmB) (tl : ∀ X : String, bm.contains (.type X) = bmB.contains (.type X)) {Q : Unit → Shared → Prop}
    (oC : hp.get? C = some (excClassObj nm q C N bs bm hdct sn sub ab col dd k0 k1 k2 k3 k5 newId)) (hq : Q () ⟨hp, gs, dr, tk, os⟩) :
    wpAny M A (checkBuiltinCall newId ⟨.ref C :: vs, kw⟩) Q E ⟨hp, gs, dr, tk, os⟩ := by
  have c1 : (Value.ref C :: bm).contains (.type B) = true := by rw [List.contains_cons, tl, F.hasB, Bool.or_true]
  have c2 := F.noStar
  simp only [checkBuiltinCall, F.newKind, F.newSplit, F.newRow]
  repeat (first
    | refine wpAny_loadPart_at oC ?_
    | (refine wpAny_isSubtype_exc oC ?_; rw [c1])
    | refine wpAny_staticBase_exc oC ?_
    | refine wpAny_madeBy_exc oC ?_
    | simp only [bne_self_eq_false, Bool.false_eq_true, if_false]
    | wp_step)
  exact hq
theorem newK (F : ExcBaseFacts B newId initId bmB) (tl : ∀ X : String, bm.contains (.type X) = bmB.contains (.type X))
    (oC : hp.get? C = some (excClassObj nm q C N bs bm hdct sn sub ab col dd k0 k1 k2 k3 k5 newId))
    (hq : R (.ok (.ret (.ref (hp.objs.size + 1)))) ⟨(hp.push (W.kdv_tup vs)).push (excO C hp.objs.size), gs, dr, tk, os⟩) (hl : vs.length ≤ sizeLine) :
    codeAny (model prog w) A (.builtin newId ⟨.ref C :: vs, kw⟩) R ⟨hp, gs, dr, tk, os⟩ := by
  have en := F.ends
  have cB : (Value.ref C :: bm).contains (.type B) = true := by rw [List.contains_cons, tl, F.hasB, Bool.or_true]
  have cA : (Value.ref C :: bm).contains (.type "AttributeError") = false := by
    rw [List.contains_cons, tl, F.noAttr]; rfl
  have cN : (Value.ref C :: bm).contains (.type "NameError") = false := by
    rw [List.contains_cons, tl, F.noName]; rfl
  refine codeAny_builtinAt F.entry ?_
  unfold Builtin.«BaseException.__new__»
  refine wpAt_bind ?_
  show wpAt _ _ _ (stack >>= _) _ _ _
  refine wpAt_bind (wpAt_stack fun p below => wpAt_of_wpAny ?_)
  wp_walk
  refine wpAt_of_wpAny ?_
  rw [F.owner]
  repeat (first
    | with_reducible refine wpAny_madeHere_exc F.canon oC ?_
    | with_reducible refine wpAny_loadPart_at oC ?_
    | (with_reducible refine wpAny_isSubtype_exc oC ?_; first | rw [cB] | rw [cA] | rw [cN])
    | wp_step)
  show R _ _
  rw [Heap.size_push]
  exact hq
theorem typeCallK (F : ExcBaseFacts B newId initId bmB) (tl : ∀ X : String, bm.contains (.type X) = bmB.contains (.type X)) {fI : Addr} {Q : Fin → Shared → Prop}
    (oC : hp.get? C = some (excClassObj nm q C N bs bm hdct sn sub ab col dd k0 k1 k2 k3 k5 newId))
    (li : W.Looks (model prog w) hp (typeLookup (.ref C) "__init__") (some (.ref fI))) (lb : ∀ self, W.Looks (model prog w) hp (bindSpecial (.ref fI) self) (.ref fI, [self])) (hl : vs.length ≤ sizeLine)
    (hq : codeAny (model prog w) A (.call (.ref fI) ⟨.ref (hp.objs.size + 1) :: vs, kw⟩)
      (fun r s' => match r with | .ok (.ret v) => v = .none ∧ Q (.done (.ret (.ref (hp.objs.size + 1)))) s' | .ok _ => False | .error e => E e s')
      ⟨(hp.push (W.kdv_tup vs)).push (excO C hp.objs.size), gs, dr, tk, os⟩) :
    wpAny (model prog w) A (Builtin.«type.__call__» ⟨.ref C :: vs, kw⟩) Q E ⟨hp, gs, dr, tk, os⟩ := by
  repeat (first | with_reducible refine wpAny_loadPart_at oC ?_ | with_reducible refine wpAny_madeBy_exc oC ?_ | wp_step)
  refine codeAny_call_builtin_code (Code.quiet_builtin _ F.quiet) (newCheckK F tl oC ?_)
  refine newK F tl oC ?_ hl
  show wpAny _ _ _ _ _ _
  have kp : ∀ b o, hp.get? b = some o → ((hp.push (W.kdv_tup vs)).push (excO C hp.objs.size)).get? b = some o := fun b o e =>
    Heap.get?_push_of_some _ (Heap.get?_push_of_some _ e)
  have oC1 := kp _ _ oC
  have oX : ((hp.push (W.kdv_tup vs)).push (excO C hp.objs.size)).get? (hp.objs.size + 1) = some (excO C hp.objs.size) := by heap_get
  have cC : (Value.ref C :: bm).contains (.ref C) = true := by simp
  have l1 := li.keeps kp
  have l2 := (lb (.ref (hp.objs.size + 1))).keeps kp
  unfold isInstance
  repeat (first | with_reducible refine wpAny_loadPart_at oX ?_ | (with_reducible refine wpAny_isSubtype_exc oC1 ?_; rw [cC]) | wp_step)
  show wpAny _ _ (typeLookup (.ref C) _) _ _ _
  refine l1.at ?_
  refine wpAny_holding (wpAny_bind (l2.at ?_))
  refine wpAny_bind (wpAny_call (codeAny_mono hq fun r s' z => ?_))
  rcases r with e | (v | _ | _ | _) <;> first | exact z | exact z.elim | skip
  obtain ⟨rfl, z⟩ := z
  first
    | exact wpAny_pure (wpAny_pure z)
    | (wp_walk; exact z)
theorem callK (F : ExcBaseFacts B newId initId bmB) (tl : ∀ X : String, bm.contains (.type X) = bmB.contains (.type X)) {fI : Addr}
    (oC : hp.get? C = some (excClassObj nm q C N bs bm hdct sn sub ab col dd k0 k1 k2 k3 k5 newId))
    (li : W.Looks (model prog w) hp (typeLookup (.ref C) "__init__") (some (.ref fI))) (lb : ∀ self, W.Looks (model prog w) hp (bindSpecial (.ref fI) self) (.ref fI, [self])) (hl : vs.length ≤ sizeLine)
    (hq : codeAny (model prog w) (A.under (.builtin "type.__call__" ⟨.ref C :: vs, kw⟩)) (.call (.ref fI) ⟨.ref (hp.objs.size + 1) :: vs, kw⟩) (W.InitBack (hp.objs.size + 1) R)
      ⟨(hp.push (W.kdv_tup vs)).push (excO C hp.objs.size), gs, dr, tk, os⟩) :
    codeAny (model prog w) A (.call (.ref C) ⟨vs, kw⟩) R ⟨hp, gs, dr, tk, os⟩ := by
  have f1 := tc_lookup
  have f2 := tc_bind (.ref C)
  have ty : (⟨hp, gs, dr, tk, os⟩ : Shared).TypeIs (.ref C) "type" := ⟨_, oC, rfl⟩
  refine codeAny_of_tree ?_
  show wpAny _ _ (callAny (.ref C) _) _ _ _
  repeat (any_goals (first | assumption | with_reducible refine wpAny_loadPart_at oC ?_ | wp_step))
  refine ⟨rfl, ?_⟩
  refine codeAny_call_builtin_at (Code.quiet_builtin _ (by decide +kernel)) entry_typeCall (wpAny_check_type_call_sub oC (typeCallK F tl oC li lb hl ?_))
  refine codeAny_mono hq fun r s' z => ?_
  rcases r with e | (v | _ | _ | _) <;> exact z
end
end XV

set_option Elab.async false
set_option linter.all false
set_option maxRecDepth 100000
set_option maxHeartbeats 4000000
/-! own errors with an __init__ of their own, made as values -/
namespace XV
open PySem PySem.Spec PyProof.Rows L2
/-- what the written part says of an error class at C: its own __init__ at fI -/
structure ErrC (K : PySem.W.Frag) (C fI : Addr) : Prop where
  T : OexC K C
  iC : PySem.W.findIn K (.ref C) "__init__" = some (some (.ref fI))
  tI : PySem.W.typeIn K (.ref fI) = some (.type "function")
section
variable {X : Cx} {CX : CXT} {k n : Nat} {C fI : Addr} {fd : FuncData} {ps ks : List Str} {sp : Sp} {E : XK} {x : Str} {p pos : Pos} {e : Expr} {es : List Expr} {kws : List Keyword} {ta tk : TA} {g : List Value → List Value → List Value} {gV : List V → List V → List V}
theorem run_err {pins : List (Addr × Obj)} {σ : L2.St} {H : Hp} {s : Shared} {Q : VK} {us ws : List Value} {vs zs : List V} (D : ErrC X.K C fI) (F : FnOk X.prog X.w X.K X.mg X.base CX k fI fd ps sp) (hr : Room (k + 1) X.A)
    (hb : KBn X.K fd ps (n + 1) ks g gV) (hx : Passes CX X E) (I : Inv X pins σ H s) (r : Vals vs us) (rz : Vals zs ws) (l1 : vs.length = n) (l2 : zs.length = ks.length) (ln : n ≤ 1000)
    (h : ∀ a, H a = none → sp (gV (.ref a :: vs) zs) (upd H a (exo a C none)) (fun v H2 => v = .non ∧ Q (.ref a) H2) E) :
    wpAny (model X.prog X.w) X.A (call (.ref C) us (ks.zip ws)) (EP X pins σ Q) X.xe s := by
  obtain ⟨nm, q, N, bs, bm, sn, sub, ab, col, dd, k0, k1, k2, k3, k5, oC, mC⟩ := D.T.cls
  obtain ⟨hp, gs, dr, t0, os⟩ := s
  have old : ∀ b o, hp.get? b = some o → ((hp.push (PySem.W.kdv_tup us)).push (PySem.HandSPX.excO C hp.objs.size)).get? b = some o := fun b o z =>
    Heap.get?_push_of_some _ (Heap.get?_push_of_some _ z)
  have new : ((hp.push (PySem.W.kdv_tup us)).push (PySem.HandSPX.excO C hp.objs.size)).get? (hp.objs.size + 1) = some (PySem.HandSPX.excO C hp.objs.size) := by heap_get
  have sz : hp.objs.size ≤ hp.objs.size + 1 := Nat.le_succ _
  have hq := h (hp.objs.size + 1) (I.hok.fresh sz)
  have I2 := I.laid (t' := t0) (a := hp.objs.size + 1) (o := exo (hp.objs.size + 1) C none) (h' := (hp.push (PySem.W.kdv_tup us)).push (PySem.HandSPX.excO C hp.objs.size)) old sz (exo_ok new)
  have r1 : Vals (V.ref (hp.objs.size + 1) :: vs) (Value.ref (hp.objs.size + 1) :: us) := .cons rfl r
  have e1 : (Value.ref (hp.objs.size + 1) :: us).length = n + 1 := r1.length.symm.trans (congrArg Nat.succ l1)
  have e2 : ws.length = ks.length := rz.length.symm.trans l2
  have hus : us.length ≤ sizeLine := by
    rw [← Paired.length r, l1, sizeLine_eq]; omega
  refine wpAny_call (callK PySem.F.excBase_ValueError (fun Y => PySem.HandSPX.refsVE_contains Y bm mC) (I.kIn _ _ oC) (PySem.W.looks_findIn I.kIn D.iC) (fun self => PySem.W.bind_fn I.kIn self D.tI) hus ?_)
  refine codeAny_mono (F.run _ X.stack _ _ ⟨Value.ref (hp.objs.size + 1) :: us, ks.zip ws⟩ (g (Value.ref (hp.objs.size + 1) :: us) ws) _ _ E (hr.make C us (ks.zip ws)) (I2.env0.make C us (ks.zip ws))
    (hb.to _ _ ws I2.kIn e1 e2) (hb.rel r1 rz) hq) fun res s' z => ?_
  cases res with
  | error er => exact hx pins σ _ _ er s' I2 z
  | ok fl =>
    cases fl with
    | ret u =>
      obtain ⟨v, H2, I3, rv, ev, q3⟩ := I2.after z
      subst ev
      exact ⟨rv, ⟨V.ref (hp.objs.size + 1), H2, I3, rfl, q3⟩⟩
    | next => exact False.elim z
    | brk => exact False.elim z
    | cont => exact False.elim z
/-- C(e, ..) -/
def tErr (C : Addr) (n : Nat) (sp : Sp) (gV : List V → List V → List V) (E : XK) (ta : TA) : TE := fun σ H Q => ta σ H fun vs H1 => vs.length = n ∧
  ∀ a, H1 a = none → sp (gV (.ref a :: vs) []) (upd H1 a (exo a C none)) (fun v H2 => v = .non ∧ Q (.ref a) H2) E
/-- C(k = e, ..) -/
def tErrK (C : Addr) (m : Nat) (sp : Sp) (gV : List V → List V → List V) (E : XK) (tk : TA) : TE := fun σ H Q => tk σ H fun zs H1 => zs.length = m ∧
  ∀ a, H1 a = none → sp (gV [.ref a] zs) (upd H1 a (exo a C none)) (fun v H2 => v = .non ∧ Q (.ref a) H2) E
theorem pe_err (D : ErrC X.K C fI) (F : FnOk X.prog X.w X.K X.mg X.base CX k fI fd ps sp) (hr : Room (k + 1) X.A) (hg : Gl X x) (hm : X.mg x = some (.ref C)) (hb : KBn X.K fd ps (n + 1) [] g gV) (hx : Passes CX X E) (ha : PA X (e :: es) ta) (ln : n ≤ 1000)
    (hdb : (x == ("__debug__" : Str)) = false := by decide) (he : starEach (e :: es) X.env = (false, eval e X.env) :: starEach es X.env := by rfl) (hpl : (backTo pos (starEach es X.env)).any (·.1) = false := by rfl) :
    PE X (.Call (.Name x p) (e :: es) [] pos) (tErr C n sp gV E ta) :=
  ⟨fun pins s σ H Q I h => wpAny_Call_Name_kw (ld_glob I hg hm (PySem.W.callWith_K (h₀ := X.base) I.ok.mod.kin D.T.kC
    (thn (ha.run pos pins s σ H _ I h) fun us s1 ⟨vs, H1, I1, r, l1, q⟩ => ⟨I1.kIn, run_err (ws := []) (zs := []) D F hr hb hx I1 r .nil l1 rfl ln q⟩) he hpl) hdb)⟩
theorem pe_err0 (D : ErrC X.K C fI) (F : FnOk X.prog X.w X.K X.mg X.base CX k fI fd ps sp) (hr : Room (k + 1) X.A) (hg : Gl X x) (hm : X.mg x = some (.ref C)) (hb : KBn X.K fd ps 1 [] g gV) (hx : Passes CX X E) (hdb : (x == ("__debug__" : Str)) = false := by decide) :
    PE X (.Call (.Name x p) [] [] pos) (tErr C 0 sp gV E tNil) :=
  ⟨fun pins s σ H Q I h => wpAny_Call_Name_kw (ld_glob I hg hm (PySem.W.callWith_K0 I.kIn D.T.kC (run_err (us := []) (vs := []) (ws := []) (zs := []) D F hr hb hx I .nil .nil rfl rfl (Nat.zero_le _) h.2)) hdb)⟩
theorem pe_errK (D : ErrC X.K C fI) (F : FnOk X.prog X.w X.K X.mg X.base CX k fI fd ps sp) (hr : Room (k + 1) X.A) (hg : Gl X x) (hm : X.mg x = some (.ref C)) (hb : KBn X.K fd ps 1 ks g gV) (hx : Passes CX X E) (hkw : PK X kws tk)
    (hall : (backToKw pos (keywordEach kws X.env)).all (·.1.isSome) = true := by rfl) (hks : (backToKw pos (keywordEach kws X.env)).filterMap (·.1) = ks := by rfl) (hdb : (x == ("__debug__" : Str)) = false := by decide)
    (hpl : ((backTo pos (starEach [] X.env)).any (·.1) || (backToKw pos (keywordEach kws X.env)).any (·.1.isNone)) = false := by rfl) :
    PE X (.Call (.Name x p) [] kws pos) (tErrK C ks.length sp gV E tk) := by
  refine ⟨fun pins s σ H Q I h => wpAny_Call_Name_kw (ld_glob I hg hm (PySem.W.callWith_KW0 (h₀ := X.base) I.ok.mod.kin D.T.kC hall (thn (hkw.run pos pins s σ H _ I h) fun ws s1 ⟨zs, H1, I1, rz, l2, q⟩ => ⟨I1.kIn, ?_⟩) hpl) hdb)⟩
  rw [hks]
  exact run_err (us := []) (vs := []) D F hr hb hx I1 .nil rz rfl l2 (Nat.zero_le _) q
end
end XV

set_option Elab.async false
set_option linter.all false
set_option maxRecDepth 100000
set_option maxHeartbeats 4000000
/-! errors as values: a field read, isinstance; repr of a list of small data -/
namespace XV
open PySem PySem.Spec PyProof.Rows L2
/-- what the class at D must say, so that its instances' fields are read and isinstance asks them -/
structure ErrR (K : PySem.W.Frag) (D : Addr) : Prop where
  ga : PySem.W.findIn K (.ref D) "__getattribute__" = some (some (.builtin "BaseException.__getattribute__"))
  gt : PySem.W.findIn K (.ref D) "__getattr__" = some none
  sb : PySem.W.subIn K (.ref D) (.type "BaseException") = some true
  hd : PySem.W.hasDictIn K D = true
  ca : PySem.W.findIn K (.ref D) "__class__" = some (some (.builtin "object.__class__"))
  cg : PySem.W.specialIn K (.builtin "object.__class__") "__get__" = some (some (.builtin "getset_descriptor.__get__"))
  ct : PySem.W.takesIn K (.builtin "object.__class__") = some true
  mo : PySem.W.mroIn K D (.type "object") = some true
theorem ErrR.cl {K : PySem.W.Frag} {D : Addr} (R : ErrR K D) : (PySem.W.clsIn K D).isSome = true := by
  obtain ⟨cd, h, _⟩ := PySem.W.any_some R.hd
  rw [h]; rfl
/-- an error of the class at D stands at a, with the fields fs -/
def ErrAt (H : Hp) (a D : Addr) (fs : List (Str × V)) : Prop :=
  (fs = [] ∧ H a = some (exo a D none)) ∨ ∃ dx, H a = some (exo a D (some dx)) ∧ H dx = some (exd dx fs)
theorem ErrAt.same {H H' : Hp} {a D : Addr} {fs : List (Str × V)} (h : ErrAt H a D fs) (s : Same H H') : ErrAt H' a D fs := by
  rcases h with ⟨e, h⟩ | ⟨dx, h1, h2⟩
  · exact .inl ⟨e, s _ _ h⟩
  · exact .inr ⟨dx, s _ _ h1, s _ _ h2⟩
section
variable {X : Cx} {pins : List (Addr × Obj)} {σ : L2.St} {H : Hp} {s : Shared} {e : Expr} {te : TE} {pos : Pos} {n : Str}
theorem ErrAt.inst {a D : Addr} {fs : List (Str × V)} (I : Inv X pins σ H s) (h : ErrAt H a D fs) :
    ∃ ox od, PySem.W.InstAt s.heap a ox D od ∧ ∀ f v, fs.lookup f = some v → ∃ u o, RelV v u ∧ od = some o ∧ PySem.W.lookIn f o = some (some u) := by
  rcases h with ⟨rfl, h⟩ | ⟨dx, h1, h2⟩
  · obtain ⟨t1, ho⟩ := exo_at I.hok h
    exact ⟨_, none, ⟨ho, rfl, rfl, trivial⟩, fun f v z => by cases z⟩
  · obtain ⟨t1, ho⟩ := exo_at I.hok h1
    obtain ⟨mA, hns, rel⟩ := exd_at I.hok h2
    obtain ⟨od, hod, hl⟩ := lookIn_ns hns
    refine ⟨_, some od, ⟨ho, rfl, rfl, hod⟩, fun f v z => ?_⟩
    obtain ⟨u, hu, ru⟩ := RelO.some_of (v := v) (o := mA f) (by rw [← z]; exact rel f)
    exact ⟨u, od, ru, rfl, by rw [hl, hu]⟩
/-- e.f, e an error -/
def tEfld (K : PySem.W.Frag) (f : Str) (te : TE) : TE := fun σ H Q => te σ H fun x H1 => ∃ (a D : Addr) (fs : List (Str × V)) (v : V), x = .ref a ∧ ErrAt H1 a D fs ∧ ErrR K D ∧ PySem.W.findIn K (.ref D) f = some none ∧ fs.lookup f = some v ∧ Q v H1
theorem pe_efld (he : PE X e te) (hb : attributeBase e n X.env (eval e X.env) = eval e X.env := by rfl) : PE X (.Attribute e n pos) (tEfld X.K n te) := by
  refine ⟨fun pins s σ H Q I h => attr_of hb (thn (he.run pins s σ H _ I h) fun u s1 ⟨x, H1, I1, rx, a, D, fs, v, ex, ea, R, no, lk, q⟩ => ?_)⟩
  subst ex
  obtain rfl : u = Value.ref a := rx
  obtain ⟨ox, od, J, rd⟩ := ea.inst I1
  obtain ⟨w', o, rw', rfl, hl⟩ := rd n v lk
  exact PySem.HandSPX.exc_get I1.kIn J R.ga R.gt R.sb (PySem.W.findObj_own R.hd no rfl hl) (handed_of rw') ⟨v, H1, I1.tok _, rw', q⟩
/-- isinstance(e, c), e an error -/
def rIsV (K : PySem.W.Frag) : List V → Hp → VK → Prop := fun xs H Q => ∃ (a D : Addr) (fs : List (Str × V)) (c : V) (cv : Value) (b : Bool), xs = [.ref a, c] ∧ ErrAt H a D fs ∧ ErrR K D ∧ ClsV c cv ∧ PySem.W.kitOne K (.ref D) cv = some b ∧ Q (.bl b) H
theorem call_isV : CallR X (.builtin "isinstance") (rIsV X.K) := by
  intro pins s σ H xs us Q I r h
  obtain ⟨a, D, fs, c, cv, b, rfl, ea, R, hc, e, q⟩ := h
  obtain ⟨u1, u2, rfl, r1, r2⟩ := vals2 r
  obtain rfl : u1 = Value.ref a := r1
  have e2 := hc.eq r2
  subst e2
  obtain ⟨ox, od, J, _⟩ := ea.inst I
  exact PySem.W.kia_one (PySem.W.kitx_exc R.cl R.ga R.gt R.sb R.ca R.cg R.ct R.mo) I.kIn J e (fun z => nomatch z) fun tk => ⟨.bl b, H, I.tok tk, rfl, q⟩
end
/-! ### small data: what the law draws -/
inductive AnyV (H : Hp) : V → PyData → Prop where
  | non : AnyV H .non .none
  | bl (b : Bool) : AnyV H (.bl b) (.bool b)
  | int (i : Int) (h : i.natAbs < 10 ^ 40) : AnyV H (.int i) (.int i)
  | str (x : Str) (h : (reprText x).length ≤ 60) : AnyV H (.str x) (.str x)
  | tup {a : Addr} (ns : List Int) (hn : ns = [] ∨ ns = [1, 2]) (h : H a = some (.tup (ns.map V.int))) : AnyV H (.ref a) (.tuple (ns.map PyData.int))
  | lst {a : Addr} (h : H a = some (.lst [.int 3])) : AnyV H (.ref a) (.list [.int 3])
  | dct {a : Addr} (h : H a = some (.dK [])) : AnyV H (.ref a) (.dict [])
theorem AnyV.same {H H' : Hp} {v : V} {d : PyData} (h : AnyV H v d) (s : Same H H') : AnyV H' v d := by
  cases h with
  | non => exact .non
  | bl b => exact .bl b
  | int i h => exact .int i h
  | str x h => exact .str x h
  | tup ns hn h => exact .tup ns hn (s _ _ h)
  | lst h => exact .lst (s _ _ h)
  | dct h => exact .dct (s _ _ h)
theorem shown_small {H : Hp} {v : V} {d : PyData} (h : AnyV H v d) : d.shown.length ≤ 60 := by
  cases h with
  | non => show ("None" : Str).length ≤ 60; decide +kernel
  | bl b => cases b <;> (show (_ : Str).length ≤ 60) <;> decide +kernel
  | int i h =>
    simp only [PyData.shown]
    have := int_text_length_le10 (a := i) (k := 40) (by decide) h
    show (Str.ofString (toString i)).length ≤ 60
    rw [PySem.ofString_length]
    exact Nat.le_trans this (by decide)
  | str x h => exact h
  | tup ns hn h => rcases hn with rfl | rfl <;> decide +kernel
  | lst h => decide +kernel
  | dct h => decide +kernel
theorem log2_of {i : Int} (h : i.natAbs < 10 ^ 40) : i.natAbs.log2 < 1920 := by
  by_cases z : i.natAbs = 0
  · rw [z]; decide
  · refine (Nat.log2_lt z).mpr (Nat.lt_of_lt_of_le h ?_)
    exact Nat.le_trans (Nat.le_of_ble_eq_true (by decide +kernel) : 10 ^ 40 ≤ 2 ^ 140) (Nat.pow_le_pow_right (by decide) (by decide))

inductive AnyAll (H : Hp) : List V → List PyData → Prop where
  | nil : AnyAll H [] []
  | cons {v : V} {d : PyData} {vs : List V} {ds : List PyData} : AnyV H v d → AnyAll H vs ds → AnyAll H (v :: vs) (d :: ds)
theorem AnyAll.same {H H' : Hp} (s : Same H H') : ∀ {vs : List V} {ds : List PyData}, AnyAll H vs ds → AnyAll H' vs ds
  | _, _, .nil => .nil
  | _, _, .cons h t => .cons (h.same s) (t.same s)
theorem AnyAll.append {H : Hp} : ∀ {vs ws : List V} {ds es : List PyData}, AnyAll H vs ds → AnyAll H ws es → AnyAll H (vs ++ ws) (ds ++ es)
  | _, _, _, _, .nil, k => k
  | _, _, _, _, .cons h t, k => .cons h (t.append k)
theorem textFrom_most : ∀ (ts : List Str) (k : Nat) (acc : Str), (textFrom k acc ts).length ≤ acc.length + piled ts
  | [], k, acc => by show acc.length ≤ _; omega
  | t :: r, k, acc => by
    have h := textFrom_most r (k + 1) (acc ++ (if k > 0 then ", " else "" : String) ++ t)
    have e : (acc ++ (if k > 0 then ", " else "" : String) ++ t).length = acc.length + (if k > 0 then 2 else 0) + t.length := by
      rw [strLen_append, strLen_append]; split <;> rfl
    rw [piled_cons]
    show (textFrom (k + 1) _ r).length ≤ _
    rw [e] at h
    have : (if k > 0 then 2 else 0) ≤ 2 := by split <;> omega
    omega
theorem shownAll_piled {H : Hp} : ∀ {vs : List V} {ds : List PyData}, AnyAll H vs ds → piled (PyData.shownAll ds) ≤ 62 * ds.length
  | _, _, .nil => by simp only [PyData.shownAll]; exact Nat.zero_le _
  | _, _, .cons (ds := ds) h t => by
    have h1 := shown_small h
    have h2 := shownAll_piled t
    simp only [PyData.shownAll]
    rw [piled_cons, List.length_cons]
    omega
theorem shownAll_len : ∀ ds : List PyData, (PyData.shownAll ds).length = ds.length
  | [] => by simp only [PyData.shownAll, List.length_nil]
  | d :: ds => by simp only [PyData.shownAll, List.length_cons, shownAll_len ds]
theorem listText_most {ds : List PyData} {H : Hp} {vs : List V} (h : AnyAll H vs ds) (hl : ds.length ≤ 100) : (listText (PyData.shownAll ds)).length ≤ sizeLine := by
  have h1 := textFrom_most (PyData.shownAll ds) 0 "["
  have h2 := shownAll_piled h
  unfold listText
  rw [strLen_append, sizeLine_eq]
  have e1 : ("[" : Str).length = 1 := by decide +kernel
  have e2 : ("]" : Str).length = 1 := by decide +kernel
  rw [e1] at h1
  rw [e2]
  omega
section
variable {X : Cx} {pins : List (Addr × Obj)} {σ : L2.St} {H : Hp} {s : Shared}
theorem ints_reprAll {h₀ : Heap} {P : Program} {w : World} : ∀ (ns : List Int) (us : List Value), (∀ i ∈ ns, i.natAbs < 10 ^ 40) → Vals (ns.map V.int) us → ReprAllK P w [] h₀ 0 us (PyData.shownAll (ns.map PyData.int))
  | [], _, _, r => by
    cases r
    simp only [List.map_nil, PyData.shownAll]
    exact .nil
  | n :: ns, _, hn, r => by
    cases r with
    | cons r1 r2 =>
      obtain ⟨t, rfl⟩ := r1
      simp only [List.map_cons, PyData.shownAll]
      refine .cons ?_ (ints_reprAll ns _ (fun i hi => hn i (List.mem_cons_of_mem _ hi)) r2)
      simp only [PyData.shown]
      exact .of_is (ReprIs.int t (log2_of (hn n List.mem_cons_self))) _ _ _
/-- one of them, shown; the addresses that its text runs through are tracked, and hold no long list -/
theorem AnyV.reprK {v : V} {d : PyData} {u : Value} (I : Inv X pins σ H s) (h : AnyV H v d) (r : RelV v u) :
    ∃ bs, (∀ b ∈ bs, ∃ o, H b = some o ∧ ∀ xs : List V, 2 ≤ xs.length → o ≠ .lst xs) ∧ ReprK X.prog X.w bs s.heap 1 u d.shown := by
  have nob : ∀ b ∈ ([] : List Addr), ∃ o, H b = some o ∧ ∀ xs : List V, 2 ≤ xs.length → o ≠ .lst xs := fun _ z => nomatch z
  cases h with
  | non => obtain rfl := r; exact ⟨[], nob, .of_is ReprIs.none _ _ _⟩
  | bl b => obtain rfl := r; exact ⟨[], nob, .of_is (ReprIs.bool b) _ _ _⟩
  | int i h => obtain ⟨t, rfl⟩ := r; exact ⟨[], nob, .of_is (ReprIs.int t (log2_of h)) _ _ _⟩
  | str x h =>
    obtain ⟨t, rfl⟩ := r
    exact ⟨[], nob, .of_is (ReprIs.str x t (by rw [sizeLine_eq]; omega)) _ _ _⟩
  | @tup a ns hn h =>
    obtain rfl := r
    obtain ⟨_, its, rv, o, h1, h2, n, h3⟩ := (show ObjOk X.prog X.w H s.heap a (.tup (ns.map V.int)) from I.hok a _ h)
    refine ⟨[a], fun b hb => ?_, ?_⟩
    · rw [List.mem_singleton.mp hb]
      exact ⟨_, h, fun xs _ z => nomatch z⟩
    · simp only [PyData.shown]
      exact ReprK.tuple h1 h2 h3 (fun z => nomatch z) (ints_reprAll ns _ (by rcases hn with rfl | rfl <;> decide) rv)
  | @lst a h =>
    obtain rfl := r
    obtain ⟨_, its, n, rv, h1⟩ := (show ObjOk X.prog X.w H s.heap a (.lst [.int 3]) from I.hok a _ h)
    refine ⟨[a], fun b hb => ?_, ?_⟩
    · rw [List.mem_singleton.mp hb]
      exact ⟨_, h, fun xs hx z => by injection z with z; subst z; exact absurd hx (by decide)⟩
    · have ra := ints_reprAll (h₀ := s.heap) (P := X.prog) (w := X.w) [3] its (by decide) rv
      cases rv with
      | cons r1 r2 =>
        simp only [PyData.shown]
        exact ReprK.list h1 rfl rfl (fun z => nomatch z) (by simpa using ra.length_eq) (fun i y e => ra.item i y (by simpa using e))
  | @dct a h =>
    obtain rfl := r
    obtain ⟨_, hs, vs, kv, o, es, ep, h1, h2, h3, h4⟩ := (show ObjOk X.prog X.w H s.heap a (.dK []) from I.hok a _ h)
    refine ⟨[a], fun b hb => ?_, ?_⟩
    · rw [List.mem_singleton.mp hb]
      exact ⟨_, h, fun xs _ z => nomatch z⟩
    · simp only [PyData.shown]
      have e0 : es.toList = [] := by
        cases kv
        obtain ⟨_, hp, _⟩ := h4
        cases hes : es.toList with
        | nil => rfl
        | cons x l =>
          rw [hes] at hp
          cases hp
      exact ReprK.dict h1 h2.1 h3 hs (fun z => nomatch z) (by rw [e0]; simp only [PyData.shownKv]; exact .nil)
theorem AnyAll.reprK (I : Inv X pins σ H s) : ∀ {vs : List V} {ds : List PyData} {us : List Value}, AnyAll H vs ds → Vals vs us →
    ∃ bs, (∀ b ∈ bs, ∃ o, H b = some o ∧ ∀ xs : List V, 2 ≤ xs.length → o ≠ .lst xs) ∧ ReprAllK X.prog X.w bs s.heap 1 us (PyData.shownAll ds)
  | _, _, _, .nil, .nil => ⟨[], (fun _ z => nomatch z), by simp only [PyData.shownAll]; exact .nil⟩
  | _, _, _, .cons h t, .cons r rs => by
    obtain ⟨b1, n1, k1⟩ := h.reprK I r
    obtain ⟨b2, n2, k2⟩ := AnyAll.reprK I t rs
    refine ⟨b1 ++ b2, fun b hb => ?_, ?_⟩
    · rcases List.mem_append.mp hb with z | z
      · exact n1 b z
      · exact n2 b z
    · simp only [PyData.shownAll]
      exact .cons (k1.more fun b z => List.mem_append_left _ z) (k2.more_le (fun b z => List.mem_append_right _ z) (Nat.le_refl _))
/-- repr(xs), xs a list of two or more of them -/
theorem call_reprL (hg : X.A.guards = some []) (hu : X.A.units + 64 < cLine) : CallR X (.builtin "repr") (fun xs H Q => ∃ (p : Addr) (vs : List V) (ds : List PyData), xs = [.ref p] ∧ H p = some (.lst vs) ∧ AnyAll H vs ds ∧ 2 ≤ vs.length ∧ ds.length ≤ 100 ∧
    Q (.str (PyData.list ds).shown) H) := by
  intro pins s σ H xs us Q I r h
  obtain ⟨p, vs, ds, rfl, hp, ha, h2, h1, q⟩ := h
  obtain ⟨u, rfl, r1⟩ := vals1 r
  obtain rfl := r1
  obtain ⟨_, its, n, rv, ho⟩ := (show ObjOk X.prog X.w H s.heap p (.lst vs) from I.hok p _ hp)
  obtain ⟨bs, nb, hk⟩ := ha.reprK I rv
  have hz := listText_most ha h1
  have np : p ∉ bs := fun z => by
    obtain ⟨o, e, no⟩ := nb p z
    rw [hp] at e
    exact no vs h2 (Option.some.inj e).symm
  have hlen := rv.length
  cases its with
  | nil => rw [hlen] at h2; exact absurd h2 (by decide)
  | cons x l =>
    refine call_repr_slot (T := "list") (idr := "list.__repr__") (by omega) ⟨_, ho, rfl⟩ PySem.F.slot_list_repr.toG ?_
    refine call_list_reprK (A := X.A.in1) (g := []) (as := bs) (d := 1) (ts := PyData.shownAll ds) ho rfl rfl np (by simpa using hk.length_eq) (fun i y e => hk.item i y (by simpa using e)) hg (fun b _ => Clear.nil b) (by show X.A.units + 1 + 2 < _; omega) (fun _ _ e => e) (fun h' u tk kp => ?_) hz
    exact ⟨_, _, rfl, .str (PyData.list ds).shown, H, I.kept (t' := tk) kp, ⟨u, by simp only [PyData.shown]⟩, q⟩
end
end XV

set_option Elab.async false
set_option linter.all false
set_option maxRecDepth 100000
set_option maxHeartbeats 4000000
/-! an own error without fields, made to be raised -/
namespace XV
open PySem PySem.Spec PyProof.Rows L2
/-- C(), H0: the heap at the def's entry -/
def tMk0 (H0 : Hp) (C : Addr) (sp : Sp) : L2.St → Hp → XK → Prop := fun σ H Q => ∀ a, H a = none → H0 a = none ∧ sp [.ref a] (upd H a (exo a C none)) (fun v H2 => v = .non ∧ ∃ b, V.ref a = .ref b ∧ H2 b = some (exo b C none) ∧ H0 b = none ∧ Q (.ref C) none (delH H2 b)) (fun _ _ _ => False)
section
variable {X : Cx} {CX : CXT} {k : Nat} {C fI : Addr} {fd : FuncData} {ps : List Str} {sp : Sp} {x : Str} {p pos : Pos}
theorem pmk_oex0 (D : ErrC X.K C fI) (F : FnOk X.prog X.w X.K X.mg X.base CX k fI fd ps sp) (hr : Room (k + 1) X.A) (hb : KBn X.K fd ps 1 [] (fun us _ => us) (fun vs _ => vs)) (hx : Passes CX X (fun _ _ _ => False)) (hex : X.ex = [])
    (hg : Gl X x) (hm : X.mg x = some (.ref C)) (hdb : (x == ("__debug__" : Str)) = false := by decide) : PMk X (.Call (.Name x p) [] [] pos) (tMk0 X.H_0 C sp) := by
  intro pins s σ H Q I h
  refine wpAny_Call_Name_kw (ld_glob I hg hm (PySem.W.callWith_K0 I.kIn D.T.kC ?_) hdb)
  refine wpAny_mono (run_err (us := []) (vs := []) (ws := []) (zs := []) (n := 0) (Q := fun v H2 => ∃ b, v = .ref b ∧ H2 b = some (exo b C none) ∧ X.H_0 b = none ∧ Q (.ref C) none (delH H2 b)) D F hr hb hx I .nil .nil rfl rfl (Nat.zero_le _) (fun a na => (h a na).2)) (fun u s1 q => ?_) fun _ _ e => e
  obtain ⟨v, H2, I2, rv, a, rfl, ha, na, q⟩ := q
  cases (show u = Value.ref a from rv)
  obtain ⟨t1, ho⟩ := exo_at I2.hok ha
  obtain ⟨G, gs, ga, J⟩ := I2.untrack ha (fr0_none na) hex
  exact ⟨a, _, _, { s1 with heap := G }, delH H2 a, .ref C, none, rfl, J, gs, ga, ho, ⟨rfl, rfl⟩, rfl, rfl, delH_same, rfl, I2.bare, raises_own D.T.exC D.T.tyC, q⟩
end
end XV

set_option Elab.async false
set_option linter.all false
set_option maxRecDepth 100000
set_option maxHeartbeats 4000000
/-! a lambda handed to a def that calls it in a try with several clauses 'except C as e' -/
namespace XV
open PySem PySem.Spec PyProof.Rows L2 LamX
section
variable {X : Cx} {pins : List (Addr × Obj)} {σ : L2.St} {H : Hp} {s : Shared}
/-- x(), in the def that got the lambda; what that def wishes of an error may look at its own slots -/
theorem pe_actS {CXg : CXT} {Eg : XK} {Ng : List Str} {qg : Str} {sg : Scope} {g f c' : Addr} {cdg pm ctv : Value} {pa : Arguments} {bd : Expr} {sc : Scope} {k i : Nat} {a : Str} {pn : List (Addr × Obj)} {xe : Value → Shared → Prop} {W : WX} {tb : XK → TE} {p1 p2 : Pos}
    (I : Inv X pins σ H s) (L : LamS X.env.scope sc) (hf : s.heap.get? f = some (PySem.W.kla_obj "<lambda>" (X.env.qual ++ "<lambda>") pa bd sc (cloFrom X.env.cells sc.names []) pm c' ctv)) (hfn : H f = none) (hfr : f ∉ frs X.stack)
    (hbi : bindArgs (PySem.W.kla_fn "<lambda>" (X.env.qual ++ "<lambda>") pa bd sc (cloFrom X.env.cells sc.names []) pm (.ref c') ctv) ⟨[], []⟩ = pure [])
    (tk : Takes ((cxOf CXg X.prog X.w X.K X.mg X.base Ng qg sg g cdg X.A X.stack s H Eg).tr pn xe) W) (hr : Room (k + 1) (X.A.deeper (envOfC qg sg s.heap.objs.size g cdg)))
    (hbo : ∀ (A : Around) (outer : List Env) (s : Shared) (H : Hp) (E : XK), Room k (A.deeper (lamEnv X sc s.heap.objs.size f c')) → PE (lamCx X A outer s H E sc f c') bd (tb E))
    (hN : Ng[i]? = some a) (hv : Vis sg a) (hd : (a == ("__debug__" : Str)) = false := by decide) (hcd : (a == ("__classdict__" : Str)) = false := by decide) :
    PE ((cxOf CXg X.prog X.w X.K X.mg X.base Ng qg sg g cdg X.A X.stack s H Eg).tr pn xe) (.Call (.Name a p1) [] [] p2)
      (fun σZ HZ Q => σZ[i]? = some (some (.ref f)) ∧ HZ c' = some (CodeO c' (X.env.qual ++ "<lambda>")) ∧ tb (WE W σZ) σ HZ Q) := by
  refine ⟨fun pinsZ sZ σZ HZ Q IZ ⟨hs, hc, ht⟩ => wpAny_Call_Name_kw (thn ((pe_var (pos := p1) (i := i) hN hv hd hcd).run pinsZ sZ σZ HZ (fun v H1 => v = .ref f ∧ H1 = HZ) IZ ⟨.ref f, hs, rfl, rfl⟩) fun u s1 ⟨v, H1, I1, r1, ev, eH⟩ => ?_)⟩
  subst ev; rw [eH] at I1; obtain rfl : u = Value.ref f := r1
  have fo : s1.heap.get? f = some (PySem.W.kla_obj "<lambda>" (X.env.qual ++ "<lambda>") pa bd sc (cloFrom X.env.cells sc.names []) pm c' ctv) := I1.base.keep f _ hf hfn hfr (fun z => nomatch (show f ∈ ([] : List Addr) from z))
  have un : Un (frs X.stack) [] H HZ s.heap s1.heap := I1.base
  obtain ⟨⟨oc, vs, t, hoc, hdc, hvc⟩, _, _⟩ := I1.hok c' _ hc
  refine PySem.W.callWith_F0 ⟨_, _, _, _, fo⟩ (wpAny_call (codeAny_mono (PySem.W.kla_callFunE (R := CR (L2.CX X.prog X.w) (envOfC qg sg s.heap.objs.size g cdg :: X.stack) X.prog X.w HZ s1 Q (WE W σZ)) hr.depth fo rfl L.co L.gen rfl ⟨c', oc, vs, t, rfl, hoc, hdc, hvc⟩ ?_) fun r s' hq => ?_))
  · refine (show ∀ m : Sem (List (Str × Value)), m = pure [] → ∀ {M : Model} {B : Around} {P : List (Str × Value) → Shared → Prop} {E : Value → Shared → Prop} {z : Shared}, P [] z → wpAny M B m P E z from fun m e _ _ _ _ _ h => by rw [e]; exact wpAny_pure h) _ hbi ?_
    refine (wpAny_newFunctionEnv (fun y hy => (L.own y hy).2) (fun y hy => absurd hy (by simp)) (fun h₁ hns hsb => ⟨I1.nolimit.fresh _ hsb, PySem.W.kla_codeExpr ?_⟩) L.kind)
    have kp : ∀ b o, s1.heap.get? b = some o → h₁.get? b = some o := fun b o e => hsb.extBut b o (Nat.ne_of_lt (Heap.lt_size e)) (Heap.get?_push_of_some _ e)
    have J : Inv (lamCx X (X.A.deeper (envOfC qg sg s.heap.objs.size g cdg)) (envOfC qg sg s.heap.objs.size g cdg :: X.stack) s1 HZ (WE W σZ) sc f c') [] σ HZ { s1 with heap := h₁, toks := s1.toks + ([] : List (Str × Value)).length } := lam_start2 I L I1.env0 hr.hd un hns kp
    refine wpAny_mono ((hbo _ _ s1 HZ _ (hr.deeper _)).run [] _ _ HZ Q J ht) (fun v s' ⟨w', H', J', rv, q⟩ => ?_) fun e s' hq => hq
    exact ⟨w', H', J'.os, J'.bare, J'.base, J'.hok, rv, q⟩
  · cases r with
    | error e => exact passAt tk σZ pinsZ HZ s1 e s' I1 hq
    | ok fl => cases fl with
      | ret u => exact I1.after hq
      | next => exact hq.elim
      | brk => exact hq.elim
      | cont => exact hq.elim
end
/-- as GivesTo: the wish of an error may look at the def's own slots -/
def GivesS (X : Cx) (Ng : List Str) (x : Str) (sg : Scope) (g : Addr) (cdg : Value) (bg : List Stmt) (a : Str) (q : Str) (TT : (XK → Hp → VK → Prop) → Hp → VK → Prop) : Prop :=
  ∀ (f c' : Addr) (s : Shared) (H : Hp) (Q : VK) (tl : XK → Hp → VK → Prop),
    (∀ (W : WX) (pn : List (Addr × Obj)) (xe : Value → Shared → Prop) (p1 p2 : Pos), Takes ((cxOf C8.CX0 X.prog X.w X.K X.mg X.base Ng x sg g cdg X.A X.stack s H C8.E0).tr pn xe) W →
      PE ((cxOf C8.CX0 X.prog X.w X.K X.mg X.base Ng x sg g cdg X.A X.stack s H C8.E0).tr pn xe) (.Call (.Name a p1) [] [] p2) (fun σZ HZ Q => σZ[0]? = some (some (.ref f)) ∧ HZ c' = some (CodeO c' q) ∧ tl (WE W σZ) HZ Q)) →
    H c' = some (CodeO c' q) → TT tl H Q →
    ∃ t, PSs (cxOf C8.CX0 X.prog X.w X.K X.mg X.base Ng x sg g cdg X.A X.stack s H C8.E0).nox bg t ∧ t { nx := fun _ H' => Q .non H', rt := Q } (L2.start Ng [.ref f]) H
section
variable {X : Cx}
/-- x(lambda: body) -/
theorem pe_lamcallS {T : List (Addr × Str)} {TT : (XK → Hp → VK → Prop) → Hp → VK → Prop} {x a : Str} {g c P : Addr} {k : Nat} {st : Stmt} {fd : FuncData} {Ng : List Str}
    {pa : Arguments} {bd : Expr} {sc : Scope} {t : XK → TE} {p lpos pos : Pos} (F : L2.Fun X.K x x st g fd) (hg : Gl X x) (hm : X.mg x = some (.ref g)) (hb : L2.Binds X.K fd [a] []) (Sg : FnScope Ng [a] (defScope st)) (hNg : Ng[0]? = some a) (hva : Vis (defScope st) a)
    (hG : ∀ cdv, GivesS X Ng x (defScope st) g cdv (defBody st) a (X.env.qual ++ "<lambda>") TT)
    (TB : TabB X.base X.mg c P) (hcode : X.env.code = .ref c) (hmT : (P, X.env.qual ++ "<lambda>") ∈ T) (hu : ∀ p ∈ T, p.1 = P → p.2 = X.env.qual ++ "<lambda>") (hr : Room (k + 2) X.A) (L : LamS X.env.scope sc) (hdef : defaultsOf pa X.env = ([], []))
    (hbi : ∀ (q : Str) (cl : List (Str × Addr)) (pm cv ctv : Value), bindArgs (PySem.W.kla_fn "<lambda>" q pa bd sc cl pm cv ctv) ⟨[], []⟩ = pure [])
    (hbo : ∀ (A : Around) (outer : List Env) (s : Shared) (H : Hp) (E : XK) (f c' : Addr), Room k (A.deeper (lamEnv X sc s.heap.objs.size f c')) → PE (lamCx X A outer s H E sc f c') bd (t E))
    (hdb : (x == ("__debug__" : Str)) = false := by decide) (hd : (a == ("__debug__" : Str)) = false := by decide) (hcd : (a == ("__classdict__" : Str)) = false := by decide) :
    PE X (.Call (.Name x p) [.Lambda pa bd sc lpos] [] pos) (tLam T TT t) := by
  obtain ⟨oc, od, kV, doc, pm, an, cdv, ct, osl, rfl, lk, hcg⟩ := F.ex
  refine ⟨fun pins s σ H Q I ⟨hT, h⟩ => wpAny_Call_Name_kw (ld_glob I hg hm (PySem.W.callWith_K (h₀ := X.base) I.ok.mod.kin F.kp ?_ (by rfl) (by rfl)) hdb)⟩
  show wpAny _ _ (spliced ((false, eval (.Lambda pa bd sc lpos) X.env) :: backTo pos (starEach [] X.env))) _ _ s
  refine Calls.spliced_cons (lam_make2 I TB hcode hmT hu hT hdef (L.has I.ok) fun f c' pm' ctv H1 s' I1 eN T1 hf hfn hfr hco => Calls.spliced_nil ⟨I1.kIn, ?_⟩)
  have rc : codeAny (model X.prog X.w) X.A (.call (.ref g) ⟨[.ref f], []⟩) (CR C8.CX0 X.stack X.prog X.w H1 s' Q C8.E0) s' :=
    run_ofS (N := Ng) (ps := [a]) (us := [.ref f]) (vs := [.ref f]) lk hcg Sg hr I1.env0 (hb s' [.ref f] I1.kIn rfl) (.cons rfl .nil) rfl fun hr' => by
      obtain ⟨t', ht', hq'⟩ := hG cdv f c' s' H1 Q (fun E H' Q' => t E σ H' Q') (fun W pn xe p1 p2 tk => pe_actS (i := 0) I1 L hf hfn hfr (hbi _ _ _ _ _) tk hr' (fun A outer s H E hr2 => hbo A outer s H E f c' hr2) hNg hva hd hcd) hco (h H1 eN T1)
      exact ⟨t', ht'.nox, hq'⟩
  refine wpAny_call (codeAny_mono rc fun r s2 hq => ?_)
  cases r with
  | error e => exact hq.elim
  | ok fl => cases fl with
    | ret u => exact I1.after hq
    | next => exact hq.elim
    | brk => exact hq.elim
    | cont => exact hq.elim
end
/-! ### several clauses, each 'as n' -/
/-- what the clauses wish, one after the other: slot i is n's -/
def wManyAs (K : PySem.W.Frag) (i : Nat) (Wout : WX) (D : Ends) : List (Value × (Addr → Value → Option Addr → TS)) → WX
  | [] => Wout
  | (c, ts) :: r => wAs K c i ts (wManyAs K i Wout D r) D
inductive HdsAs (X : Cx) (n : Str) : List ExceptHandler → List (Value × (Addr → Value → Option Addr → TS)) → Prop
  | nil : HdsAs X n [] []
  | cons {x : Str} {c : Value} {ts : Addr → Value → Option Addr → TS} {b₀ : Stmt} {su : List Stmt} {np p' : Pos} {hds : List ExceptHandler} {l : List (Value × (Addr → Value → Option Addr → TS))} (hc : Names X x c)
      (hsu : ∀ (a : Addr) (oe : Obj) (cls : Value) (d : Option Addr) (pn : List (Addr × Obj)), Zc cls d oe → (∃ vs, oe.data = .fields vs) → PSs (X.suite a ((a, oe) :: pn)) (b₀ :: su) (ts a cls d)) (r : HdsAs X n hds l) :
      HdsAs X n (.ExceptHandler (some (.Name x np)) (some n) (b₀ :: su) p' :: hds) ((c, ts) :: l)
section
variable {X : Cx} {body : List Stmt} {h₀ : ExceptHandler} {hds : List ExceptHandler} {l : List (Value × (Addr → Value → Option Addr → TS))} {pos : Pos} {tb : WX → TS} {Wout : WX} {n : Str} {i : Nat}
theorem ps_try_manyAs (hs : X.stack = X.env :: X.outer) (hf : X.env.frame = some X.env.locals) (hN : X.N.Nodup) (hi : X.N[i]? = some n) (hln : X.env.kindOf n = some .local) (tk : Takes X Wout)
    (hb : ∀ (W : WX) (pn : List (Addr × Obj)) (xe : Value → Shared → Prop), Takes (X.tr pn xe) W → PassesOwn (model X.prog X.w) X.A X.env xe → PSs (X.tr pn xe) body (tb W))
    (hh : HdsAs X n (h₀ :: hds) l) : PS X (.Try body (h₀ :: hds) [] [] pos) (fun D σ H => tb (wManyAs X.K i Wout D l) D σ H) := by
  refine ⟨fun pins s σ H D I h => wpAny_Try_except ?_⟩
  have ok := I.ok
  have hfr : X.A.frames = some (X.env :: X.outer) := ok.frames.trans (by rw [hs])
  refine wpAny_mono ((hb (wManyAs X.K i Wout D l) (X.pn ++ pins) (fun e z₁ => wpAny (model X.prog X.w) X.A (noteFrame e X.env) (fun _ z₂ => wpAny (model X.prog X.w) X.A (setFlight e none) (fun _ z₃ =>
    wpAny (model X.prog X.w) X.A (handleBy e X.env (h₀ :: hds)) (SP X pins D) X.xe z₃) X.xe z₂) X.xe z₁) (fun u s' xx => ?_) PassesOwn.looking).run [] s σ H D (I.toTry _) h) (fun f z1 hsp => ?_) (fun _ _ he => he)
  · obtain ⟨a, B, sI, pins', σ', H', cls, d, rfl, J', nb, up, sky, na, os, ag, w⟩ := xx
    have J : Inv X pins σ' H' sI := J'.ofTry ok
    refine Sky.land Zc.steady hfr hf (show Sky B (X.env :: X.outer) a (Zc cls d) X.env.locals s'.heap by rw [← hs]; exact sky) fun h3 fl3 up3 => ?_
    have J3 : Inv X pins σ' H' { s' with heap := h3 } := J.landed nb fl3.1 (up.trans up3) os ag
    obtain ⟨oe3, vs3, he3, hz3, hd3⟩ := fl3.there
    have nfr : a ∉ frs (X.env :: X.outer) := fun hm => by
      obtain ⟨_, o', e', hnf⟩ := fl3.2.2.1.mem hm
      rw [he3] at e'; cases e'
      exact hnf _ hd3
    have nL : a ≠ X.env.locals := fun z => nfr (List.mem_filterMap.mpr ⟨X.env, List.mem_cons_self, by rw [hf, z]⟩)
    have nF : a ∉ X.fs := fun hm => by
      obtain ⟨e, he, q⟩ := List.mem_filterMap.mp hm
      exact nfr (List.mem_filterMap.mpr ⟨e, List.mem_cons_of_mem _ he, q⟩)
    have S3 := J3.suite he3 hd3 na nL nF
    have go : ∀ {hs' : List ExceptHandler} {l' : List (Value × (Addr → Value → Option Addr → TS))}, HdsAs X n hs' l' → wManyAs X.K i Wout D l' cls d σ' H' →
        wpAny (model X.prog X.w) X.A (handleBy (.ref a) X.env hs') (SP X pins D) X.xe { s' with heap := h3 } := by
      intro hs' l' hk
      induction hk with
      | nil =>
        intro w
        obtain ⟨k1, k2, k3, oe, vs, T, oT, ts', he, hz, hd, h1, hr⟩ := id fl3
        refine wpAny_handleBy_nil ?_
        unfold PySem.passOn
        refine wpAny_bind (wpAny_field he hd h1 ?_)
        have nt : ¬ ((Value.ref T == Value.none) = true) := by simp
        rw [if_neg nt]
        have fin : wpAny (model X.prog X.w) X.A (setFlight (.ref a) X.env.frame) (fun _ z4 => wpAny (model X.prog X.w) X.A (throw (.ref a) : Sem Flow) (SP X pins D) X.xe z4) X.xe { s' with heap := h3 } := by
          rw [hf]
          exact HandSPX.setFlight_upZ fl3 fun h4 hh4 up4 => wpAny_throw (tk _ _ ⟨a, B, sI, pins, σ', H', cls, d, rfl, J, nb, (up.trans up3).trans up4, .inr (.inr (by rw [hs]; exact hh4)), na, os, ag, w⟩)
        first | exact wpAny_bind (wpAny_pure (wpAny_bind fin)) | exact wpAny_bind fin
      | @cons x c ts b₀ su np p' hds2 l2 hc hsu r ih =>
        intro ⟨b, hb1, hyes, hno⟩
        refine wpAny_handleBy_cons (codeAny_handlers_test ?_) (by intro q; cases q)
        have LT : PySem.W.Looks (model X.prog X.w) h3 (typeOf (.ref a)) cls := fun A Q E z k q => wpAny_typeOf_ref (k _ _ he3) (by rw [hz3.1]; exact q)
        have LM := PySem.W.exm_one (M := model X.prog X.w) (J3.kIn) LT hb1
        have test : ∀ {Q : Value → Shared → Prop} {E : Value → Shared → Prop}, Q c { s' with heap := h3 } → wpAny (model X.prog X.w) (X.A.mark (some (.ref a))) (eval (.Name x np) X.env) Q E { s' with heap := h3 } := fun {Q E} q =>
          match hc with
          | ⟨hg, hdbg, .inl hm⟩ => ld_glob (X := X.suite a ((a, oe3) :: (X.pn ++ pins))) S3 hg hm q hdbg
          | ⟨hg, hdbg, .inr ⟨hm, hv, hnn⟩⟩ => ld_blt (X := X.suite a ((a, oe3) :: (X.pn ++ pins))) S3 hg hm hv q hnn hdbg
        refine test (LM.here ?_)
        cases b with
        | true =>
          refine codeAny_handlers_suite_as (HandSPX.lands_againZ fl3 fun h4 fl4 up4 => ?_)
          have J4 : Inv X pins σ' H' { s' with heap := h4 } := J.landed nb fl4.1 ((up.trans up3).trans up4) os ag
          obtain ⟨oe4, vs4, he4, hz4, hd4⟩ := fl4.there
          have S4 := J4.suite he4 hd4 na nL nF
          refine store_ok (X := X.suite a ((a, oe4) :: (X.pn ++ pins))) (v := .ref a) S4 hN hi (.inl hln) rfl (fun s5 S5 => ?_) (.inr hln)
          refine wpAny_mono ((hsu a oe4 cls d (X.pn ++ pins) hz4 ⟨_, hd4⟩).run [] s5 _ H' _ S5 (hyes rfl a na)) (fun f s6 hsp => ?_) (fun _ _ z => False.elim z)
          have gone : ∀ {σ6 : L2.St} {H6 : Hp} {Q : Shared → Prop}, Inv (X.suite a ((a, oe4) :: (X.pn ++ pins))) [] σ6 H6 s6 → (∀ s7, Inv X pins (σ6.set i none) H6 s7 → Q s7) →
              wpAny (model X.prog X.w) X.A (do bindName X.env n .none; unbindBehindTheSuite X.env n p') (fun _ s7 => Q s7) X.xe s6 := fun {σ6 H6 Q} S6 hq => gone_ok (S6.unsuite ok) hN hi hln hq
          cases f with
          | next => obtain ⟨σ6, H6, S6, q6⟩ := hsp; exact gone S6 fun _ J7 => ⟨_, _, J7, q6⟩
          | brk => obtain ⟨σ6, H6, S6, q6⟩ := hsp; exact gone S6 fun _ J7 => ⟨_, _, J7, q6⟩
          | cont => obtain ⟨σ6, H6, S6, q6⟩ := hsp; exact gone S6 fun _ J7 => ⟨_, _, J7, q6⟩
          | ret u => obtain ⟨v6, σ6, H6, S6, r6, q6⟩ := hsp; exact gone S6 fun _ J7 => ⟨_, _, _, J7, r6, q6⟩
        | false => exact ih (hno rfl)
    exact go hh w
  · cases f with
    | next => obtain ⟨σ', H', J', q⟩ := hsp; exact wpAny_execs_nil ⟨σ', H', J'.ofTry ok, q⟩
    | brk => obtain ⟨σ', H', J', q⟩ := hsp; exact ⟨σ', H', J'.ofTry ok, q⟩
    | cont => obtain ⟨σ', H', J', q⟩ := hsp; exact ⟨σ', H', J'.ofTry ok, q⟩
    | ret u => obtain ⟨v, σ', H', J', r, q⟩ := hsp; exact ⟨v, σ', H', J'.ofTry ok, r, q⟩
end
/-! ### isinstance of the caught error -/
/-- isinstance(e, c), e the exception that the suite holds, with or without a dict of its own -/
def rIsZ (K : PySem.W.Frag) (a : Addr) (cls : Value) (d : Option Addr) : List V → Hp → VK → Prop := fun xs H Q => ∃ (D : Addr) (c : V) (cv : Value) (b : Bool), xs = [.ref a, c] ∧ cls = .ref D ∧ ErrR K D ∧ (d = none ∨ ∃ dd fs, d = some dd ∧ H dd = some (.xd fs)) ∧ ClsV c cv ∧ PySem.W.kitOne K (.ref D) cv = some b ∧ Q (.bl b) H
theorem call_isZ {X : Cx} {a : Addr} {oe : Obj} {cls : Value} {d : Option Addr} {pn : List (Addr × Obj)} (hz : Zc cls d oe) (hf : ∃ vs, oe.data = .fields vs) : CallR (X.suite a ((a, oe) :: pn)) (.builtin "isinstance") (rIsZ X.K a cls d) := by
  intro pins s σ H xs us Q I r h
  obtain ⟨D, c, cv, b, rfl, rfl, R, hdd, hc, e, q⟩ := h
  obtain ⟨u1, u2, rfl, r1, r2⟩ := vals2 r
  obtain rfl : u1 = Value.ref a := r1
  have e2 := hc.eq r2
  subst e2
  obtain ⟨hget, _⟩ := I.pin (a, oe) (List.mem_append.mpr (.inl List.mem_cons_self))
  obtain ⟨vs, hv⟩ := hf
  have J : ∃ od, PySem.W.InstAt s.heap a oe D od := by
    rcases hdd with rfl | ⟨dd, fs, rfl, hd⟩
    · exact ⟨none, hget, hz.1, by unfold PySem.W.notCls; rw [hv] <;> rfl, by rw [hz.2]; trivial⟩
    · obtain ⟨mA, hns, _⟩ := (show ObjOk X.prog X.w H s.heap dd (.xd fs) from I.hok dd _ hd)
      obtain ⟨od, ho, _⟩ := lookIn_ns hns
      exact ⟨some od, hget, hz.1, by unfold PySem.W.notCls; rw [hv] <;> rfl, by rw [hz.2]; exact ho⟩
  obtain ⟨od, J⟩ := J
  exact PySem.W.kia_one (PySem.W.kitx_exc R.cl R.ga R.gt R.sb R.ca R.cg R.ct R.mo) I.kIn J e (fun z => nomatch z) fun tk => ⟨.bl b, H, I.kept (t' := tk) fun _ _ z => z, rfl, q⟩
end XV

set_option Elab.async false
set_option linter.all false
set_option maxRecDepth 100000
set_option maxHeartbeats 4000000
/-! the end of a law whose defs make lambdas; such a def -/
namespace XV
open PySem PySem.Spec PyProof.Rows L2 LamX
/-- what the head leaves of the defs' tables -/
def TabFact (q : Program) (K : PySem.W.Frag) (h : Heap) : Prop := ∀ (c P : Addr) (y : Str), ((recsOf q).find? fun r => r.name == y).isSome = true → PySem.W.tabIn K y = some (c, P) →
  PySem.W.CodeHd h c P ∧ h.get? P = some { cls := .none, data := .fields #[] }
theorem walk_ofTab {l : PySem.W.OpenLaw} {n k : Nat} {q : Program} {loose : List Str} {XP : (Str → Option Value) → Heap → Prop} {YP : World → Heap → Prop} {d : DefRec} {K : Params → PySem.W.Frag} {CX : World → CXT} {x : Str}
    (hn : l.most = some n) (hz : n ≤ sizeLine) (hdf : d.params.defaults = []) (hr : Room k callerA) (hY : ∀ (w : World) (h : Heap), YP w h → (K w.params).In h)
    (F : ∀ (w : World) (mg : Str → Option Value) (fa : Addr) (h : Heap), TabFact q (K w.params) h → YP w h → (K w.params).In h → h.Ns mainGlobals mg → mg d.name = some (.ref fa) → LawAtS l w (K w.params) (CX w) k n x mg fa h)
    (hCX : ∀ (w : World) (H : Hp) (s : Shared) (e : Value) (s' : Shared), CX w [] H s (fun _ _ _ => False) e s' → False) :
    PySem.W.WalkO q loose XP YP l.row.toRowW d [] (fun f vs => PySem.call f vs) :=
  Att.attach_callB hn hdf fun w z₀ z₁ mg mb fa o pm cd doc a vs ns G Y ho hd hcd hmg hobj hints hlen hbits hg => by
    have KX := hY w _ Y
    have TF : TabFact q (K w.params) z₁.heap := fun c P y hy ht => by
      obtain ⟨e, he⟩ := Option.isSome_iff_exists.mp hy
      exact PySem.W.tab_of G.T KX he ht
    obtain ⟨fd, cs, sp, hT, nT, C, hb, hsp, hF⟩ := F w mg fa _ TF Y KX G.T.g hmg
    exact law_callTs KX G.T.g G.T.b G.T.builtins G.T.nolimit hg hT nT C G.T.bmain hobj hints (Nat.le_trans hlen hz) hr hF hb (fun H hH hS => hsp H a ns hlen hbits hH hS) fun H e s' => hCX w H z₁ e s'
theorem tab_mk {K : PySem.W.Frag} {x : Str} {f c P : Addr} {oc oc2 : Value} {od od2 : Option Addr} {fd : FuncData} {sl sl2 : Array (Option Value)} {vs : Array Value} (a : PySem.W.nsIn K mainGlobals x = some (some (.ref f))) (l : K.lookup f = some ⟨oc, od, .func fd, sl⟩)
    (hc : fd.code = .ref c) (e : K.lookup c = some ⟨oc2, od2, .fields vs, sl2⟩) (v : vs[11]? = some (.ref P)) : PySem.W.tabIn K x = some (c, P) := by
  unfold PySem.W.tabIn
  rw [a]
  simp only [l, hc, e, v]
/-- as Fun, its code object told -/
structure FunC (K : PySem.W.Frag) (x qual : Str) (st : Stmt) (f : Addr) (fd : FuncData) (c : Addr) : Prop where
  ex : ∃ (oc : Value) (od : Option Addr) (kV doc pm : Value) (an : Option Addr) (ct : Value) (osl : Array (Option Value)),
    fd = PySem.W.fnOf x qual (defArgs st) (defBody st) (defScope st) .none kV doc pm an (.ref c) ct ∧ K.lookup f = some ⟨oc, od, .func fd, osl⟩ ∧ PySem.W.codeIn K (.ref c) qual = true
  kp : PySem.W.keepIn K (.ref f) = true
theorem FunC.ok {P : Program} {w : World} {K : PySem.W.Frag} {mg : Str → Option Value} {base : Heap} {x qual : Str} {st : Stmt} {f c : Addr} {fd : FuncData} {N ps : List Str} {k : Nat} {sp : Sp} (F : FunC K x qual st f fd c) (S : FnScope N ps (defScope st)) (len : ∀ vs H Q E, sp vs H Q E → vs.length = ps.length)
    (hbo : ∀ (A : Around) (outer : List Env) (s : Shared) (H : Hp) (vs : List V) (Q : VK) (E : XK), Room k (A.deeper (envOfC qual (defScope st) s.heap.objs.size f (.ref c))) → sp vs H Q E →
      ∃ t, PSs (cxOf CX0 P w K mg base N qual (defScope st) f (.ref c) A outer s H E).nox (defBody st) t ∧ t { nx := fun _ H' => Q .non H', rt := Q } (start N vs) H) : FnOk P w K mg base CX0 (k + 1) f fd ps sp := by
  obtain ⟨oc, od, kV, doc, pm, an, ct, osl, rfl, lk, hcd⟩ := F.ex
  refine fn_of lk hcd S len fun A outer s H vs Q E hr hsp => ?_
  obtain ⟨t, h, q⟩ := hbo A outer s H vs Q E hr hsp
  exact ⟨t, h.nox, q⟩
theorem func_mk {K : PySem.W.Frag} {x qual : Str} {st : Stmt} {f c : Addr} {oc : Value} {od an : Option Addr} {osl : Array (Option Value)} {kV doc pm ct : Value} (l : K.lookup f = some ⟨oc, od, .func (PySem.W.fnOf x qual (defArgs st) (defBody st) (defScope st) .none kV doc pm an (.ref c) ct), osl⟩)
    (h : PySem.W.codeIn K (.ref c) qual = true) (k : PySem.W.keepIn K (.ref f) = true) : FunC K x qual st f (PySem.W.fnOf x qual (defArgs st) (defBody st) (defScope st) .none kV doc pm an (.ref c) ct) c := ⟨⟨oc, od, kV, doc, pm, an, ct, osl, rfl, l, h⟩, k⟩
theorem FunC.fn {K : PySem.W.Frag} {x qual : Str} {st : Stmt} {f c : Addr} {fd : FuncData} (F : FunC K x qual st f fd c) : L2.Fun K x qual st f fd := let ⟨oc, od, kV, doc, pm, an, ct, osl, h⟩ := F.ex; ⟨⟨oc, od, kV, doc, pm, an, _, ct, osl, h⟩, F.kp⟩
end XV

set_option Elab.async false
set_option linter.all false
set_option maxRecDepth 100000
set_option maxHeartbeats 4000000
/-! a law that makes lambdas and asks for repr: walked where no repr is under way -/
namespace XV
open PySem PySem.Spec PyProof.Rows L2 LamX
/-- a def's promise, kept where no repr is under way -/
def OkQuiet (P : Program) (w : World) (K : PySem.W.Frag) (mg : Str → Option Value) (base : Heap) (k : Nat) (f : Addr) (fd : FuncData) (ps : List Str) (sp : Sp) : Prop :=
  ∀ (A : Around) (outer : List Env) (s : Shared) (H : Hp) (args : Args) (us : List Value) (vs : List V) (Q : VK) (E : XK), A.guards = some [] → Room k A → Env0 P w K mg base A outer s H → BindsTo s fd args (ps.zip us) → Vals vs us → sp vs H Q E →
    codeAny (model P w) A (.call (.ref f) args) (CR CX0 outer P w H s Q E) s
theorem okQuietC_of {P : Program} {w : World} {K : PySem.W.Frag} {mg : Str → Option Value} {base : Heap} {x qual : Str} {st : Stmt} {f c : Addr} {fd : FuncData} {N ps : List Str} {k : Nat} {sp : Sp} (F : FunC K x qual st f fd c) (S : FnScope N ps (defScope st))
    (len : ∀ vs H Q E, sp vs H Q E → vs.length = ps.length)
    (hb : ∀ (A : Around) (outer : List Env) (s : Shared) (H : Hp) (vs : List V) (Q : VK) (E : XK), A.guards = some [] → Room k (A.deeper (envOfC qual (defScope st) s.heap.objs.size f (.ref c))) → sp vs H Q E →
      ∃ t, PSs (cxOf CX0 P w K mg base N qual (defScope st) f (.ref c) A outer s H E).nox (defBody st) t ∧ t { nx := fun _ H' => Q .non H', rt := Q } (start N vs) H) : OkQuiet P w K mg base (k + 1) f fd ps sp := by
  obtain ⟨oc, od, kV, doc, pm, an, ct, osl, rfl, lk, hcd⟩ := F.ex
  intro A outer s H args us vs Q E hg hr e0 hbind r hsp
  exact run_ofS (N := N) lk hcd S hr e0 hbind r (len _ _ _ _ hsp) fun hr' => let ⟨t, ht, hq⟩ := hb A outer s H vs Q E hg hr' hsp; ⟨t, ht.nox, hq⟩
/-- where the law is called: the script and the tables alone are tracked -/
structure Door (P : Program) (w : World) (K : PySem.W.Frag) (mg : Str → Option Value) (cs : List (Addr × Addr)) (a : Addr) (vs : List Value) (ns : List Int) (s : Shared) (H : Hp) : Prop where
  only : ∀ b u, H b = some u → (b = a ∧ K.lookup a = none ∧ u = .frz { cls := .type "list", data := .seq vs.toArray } (.lst (ns.map V.int))) ∨ ((∃ p ∈ cs, p.2 = b) ∧ u = .tbl #[])
  tbl : ∀ p ∈ cs, H p.2 = some (.tbl #[])
  seq : SqL K H a (ns.map V.int)
/-- the law's call -/
theorem law_quiet {P : Program} {w : World} {K : PySem.W.Frag} {mg mb : Str → Option Value} {fa a : Addr} {cs : List (Addr × Addr)} {s₁ : Shared} {vs : List Value} {ns : List Int}
    (kin : K.In s₁.heap) (hns : s₁.heap.Ns mainGlobals mg) (hb : s₁.heap.Ns builtinsNs mb) (hbb : ∀ x : Str, x ≠ "__name__" → mb x = bootBuiltins x) (hlim : s₁.heap.NoLimit) (hg : s₁.gens = #[])
    (hT : ∀ p ∈ cs, s₁.heap.get? p.2 = some { cls := .none, data := .fields #[] }) (nT : ∀ p ∈ cs, K.lookup p.2 = none) (C : ∀ p ∈ cs, PySem.W.CodeHd s₁.heap p.1 p.2)
    (hbm : ∃ (bm : Addr) (ob : Obj), mg "__builtins__" = some (.ref bm) ∧ bm ≠ builtinsNs ∧ s₁.heap.get? bm = some ob ∧ ob.cls = .type "module" ∧ ob.dict = some builtinsNs ∧ ob.data = .plain)
    (ha : s₁.heap.get? a = some { cls := .type "list", data := .seq vs.toArray }) (hi : IntsAre vs ns) (hl : ns.length ≤ sizeLine)
    (F : ∀ (base : Heap) (H : Hp), K.In base → base.Ns mainGlobals mg → (∀ p ∈ cs, TabB base mg p.1 p.2) → Env0 P w K mg base callerA [] s₁ H → (∀ p ∈ cs, H p.2 = some (.tbl #[])) → SqL K H a (ns.map V.int) →
      codeAny (model P w) callerA (.call (.ref fa) ⟨[.ref a], []⟩) (CR CX0 [] P w H s₁ (fun v _ => v = .bl true) E0) s₁) :
    codeAny (model P w) callerA (.call (.ref fa) ⟨[.ref a], []⟩) (fun r s' => r = .ok (.ret (.bool true)) ∧ OldK s₁.heap s'.heap ∧ s'.os = s₁.os ∧ AllBare s'.gens) s₁ := by
  have rv := vals_ints hi
  have go : ∀ H : Hp, Door P w K mg cs a vs ns s₁ H →
      codeAny (model P w) callerA (.call (.ref fa) ⟨[.ref a], []⟩) (fun r s' => r = .ok (.ret (.bool true)) ∧ OldK s₁.heap s'.heap ∧ s'.os = s₁.os ∧ AllBare s'.gens) s₁ := by
    intro H D
    have hok : HOk P w H s₁.heap := fun b u e => by
      rcases D.only b u e with ⟨rfl, _, rfl⟩ | ⟨⟨p, hp, rfl⟩, rfl⟩
      · exact ⟨ha, by rw [List.length_map]; exact hl, vs, _, rv, ha⟩
      · exact hT p hp
    -- what is no list and no empty record is not tracked
    have free : ∀ {b : Addr} {o : Obj}, s₁.heap.get? b = some o → o.data ≠ .seq vs.toArray → o.data ≠ .fields #[] → H b = none := fun {b o} e n1 n2 => by
      cases q : H b with
      | none => rfl
      | some u =>
        rcases D.only b u q with ⟨rfl, _, _⟩ | ⟨⟨p, hp, rfl⟩, _⟩
        · rw [ha] at e; cases e; exact (n1 rfl).elim
        · rw [hT p hp] at e; cases e; exact (n2 rfl).elim
    have nsb : ∀ {b : Addr} {m : Str → Option Value}, s₁.heap.Ns b m → (hidT s₁.heap H).Ns b m := fun {b m} ⟨o, es, ep, e, d, r⟩ =>
      ⟨o, es, ep, hidT_get e (free e (by rw [d]; exact fun z => nomatch z) (by rw [d]; exact fun z => nomatch z)), d, r⟩
    have kinb : K.In (hidT s₁.heap H) := fun b o e => hidT_get (kin b o e) (by
      cases q : H b with
      | none => rfl
      | some u =>
        rcases D.only b u q with ⟨rfl, z, _⟩ | ⟨⟨p, hp, rfl⟩, _⟩
        · rw [z] at e; cases e
        · rw [nT p hp] at e; cases e)
    have tabs : ∀ p ∈ cs, TabB (hidT s₁.heap H) mg p.1 p.2 := fun p hp => by
      have atP := hT p hp
      have notG : ∀ {b : Addr} {m : Str → Option Value}, s₁.heap.Ns b m → b ≠ p.2 := fun {b m} ⟨o, es, ep, e, d, _⟩ z => by
        subst z; rw [atP] at e; cases e; cases d
      refine ⟨?_, ?_, notG hns⟩
      · obtain ⟨o, us, file, tf, flags, tg, inF, text, tt, e1, r1, r2, r3, rest⟩ := C p hp
        refine ⟨o, us, file, tf, flags, tg, inF, text, tt, hidT_get e1 (free e1 (by rw [r2]; exact fun z => nomatch z) (fun z => ?_)), r1, r2, r3, rest⟩
        rw [r2] at z
        cases z
        simp at r3
      · obtain ⟨bm, ob, b1, b2, b3, b4, b5, b6⟩ := hbm
        refine ⟨bm, ob, b1, b2, fun q => ?_, fun q => ?_, hidT_get b3 (free b3 (by rw [b6]; exact fun z => nomatch z) (by rw [b6]; exact fun z => nomatch z)), b4, b5, b6⟩
        · obtain ⟨o, es, ep, e, d, _⟩ := hns
          subst q; rw [b3] at e; cases e; rw [b6] at d; cases d
        · subst q; rw [atP] at b3; cases b3; cases b6
    have e0 : Env0 P w K mg (hidT s₁.heap H) callerA [] s₁ H :=
      ⟨rfl, ⟨kinb, nsb hns, ⟨mb, nsb hb, hbb⟩, let ⟨mc, h1, h2⟩ := hlim; ⟨mc, nsb h1, h2⟩⟩, fun b o e => of_hidT e, Nat.le_of_eq (hidT_size _ _), trivial, fun b z => (nomatch (show b ∈ ([] : List Addr) from z)), hok, .of_eq hg⟩
    refine codeAny_mono (F _ H kinb (nsb hns) tabs e0 D.tbl D.seq) fun r s' h => ?_
    match r, h with
    | .ok (.ret u), h =>
      obtain ⟨v, H', os, bare, un, hok', r', q⟩ := h
      obtain rfl : v = .bl true := q
      obtain rfl : u = Value.bool true := r'
      have grown : ∀ p ∈ cs, ∃ more : Array Value, s'.heap.get? p.2 = some { cls := .none, data := .fields more } := fun p hp => let ⟨more, z⟩ := un.tbls p.2 #[] (D.tbl p hp); ⟨_, hok' p.2 _ z⟩
      have same : ∀ b o, ¬ (∃ p ∈ cs, p.2 = b) → s₁.heap.get? b = some o → s'.heap.get? b = some o := fun b o nb e => by
        cases q : H b with
        | none => exact un.keep b o e q (fun z => (nomatch (show b ∈ ([] : List Addr) from z))) (fun z => nomatch z)
        | some u =>
          rcases D.only b u q with ⟨rfl, _, rfl⟩ | ⟨z, _⟩
          · obtain ⟨e2, _⟩ := hok' b _ (un.frzs b _ _ q)
            rw [ha] at e
            rw [e2]; exact e
          · exact (nb z).elim
      refine ⟨rfl, ⟨fun b o e => ?_, fun b o e => ?_⟩, os, bare⟩
      · by_cases z : ∃ p ∈ cs, p.2 = b
        · obtain ⟨p, hp, rfl⟩ := z
          obtain ⟨more, hm⟩ := grown p hp
          rw [hT p hp] at e
          cases e
          exact .inr (.inl ⟨((C p hp).tab (hT p hp)).isCodeTable, rfl, #[], more, rfl, by rw [Array.empty_append]; exact hm⟩)
        · exact .inl (same b o z e)
      · by_cases z : ∃ p ∈ cs, p.2 = b
        · obtain ⟨p, hp, rfl⟩ := z
          obtain ⟨more, hm⟩ := grown p hp
          exact ⟨_, hm⟩
        · exact ⟨o, same b o z e⟩
    | .error _, h => exact h.elim
    | .ok .next, h => exact h.elim
    | .ok .brk, h => exact h.elim
    | .ok .cont, h => exact h.elim
  have notA : ∀ p ∈ cs, p.2 ≠ a := fun p hp z => by
    have q := hT p hp
    rw [z, ha] at q
    cases congrArg Obj.data (Option.some.inj q)
  classical
  cases hk : K.lookup a with
  | some o =>
    have e := kin a o hk
    rw [ha] at e
    cases e
    refine go (fun b => if ∃ p ∈ cs, p.2 = b then some (.tbl #[]) else none) ⟨fun b u z => ?_, fun p hp => if_pos ⟨p, hp, rfl⟩, .inr ⟨_, vs.toArray, _, hk, rfl, rfl, rfl, by rw [List.size_toArray, hi.length]; exact hl, by simpa using rv⟩⟩
    by_cases c : ∃ p ∈ cs, p.2 = b
    · exact .inr ⟨c, Option.some.inj (((if_pos c).symm.trans z).symm)⟩
    · exact nomatch ((if_neg c).symm.trans z)
  | none =>
    refine go (fun b => if b = a then some (.frz { cls := .type "list", data := .seq vs.toArray } (.lst (ns.map V.int))) else if ∃ p ∈ cs, p.2 = b then some (.tbl #[]) else none) ⟨fun b u z => ?_, fun p hp => (if_neg (notA p hp)).trans (if_pos ⟨p, hp, rfl⟩), .inl (.inr ⟨_, if_pos rfl⟩)⟩
    by_cases c : b = a
    · exact .inl ⟨c, hk, Option.some.inj (((if_pos c).symm.trans z).symm)⟩
    · have z' := (if_neg c).symm.trans z
      by_cases d : ∃ p ∈ cs, p.2 = b
      · exact .inr ⟨d, Option.some.inj (((if_pos d).symm.trans z').symm)⟩
      · exact nomatch ((if_neg d).symm.trans z')
/-- what is asked of a law's def -/
def LawQ (l : PySem.W.OpenLaw) (w : World) (K : PySem.W.Frag) (k n : Nat) (x : Str) (mg : Str → Option Value) (fa : Addr) (h : Heap) : Prop :=
  ∃ (fd : FuncData) (cs : List (Addr × Addr)) (sp : Sp), (∀ p ∈ cs, h.get? p.2 = some { cls := .none, data := .fields #[] }) ∧ (∀ p ∈ cs, K.lookup p.2 = none) ∧ (∀ p ∈ cs, PySem.W.CodeHd h p.1 p.2) ∧ (∀ (s : Shared) (u : Value), BindsTo s fd ⟨[u], []⟩ [(x, u)]) ∧
    (∀ (H : Hp) (a : Addr) (ns : List Int), ns.length ≤ n → (∀ p ∈ cs, H p.2 = some (.tbl #[])) → SqL K H a (ns.map V.int) → sp [.ref a] H (fun v _ => v = .bl true) E0) ∧
    ∀ base : Heap, K.In base → base.Ns mainGlobals mg → (∀ p ∈ cs, TabB base mg p.1 p.2) → OkQuiet l.prog w K mg base k fa fd [x] sp
theorem walk_quiet {l : PySem.W.OpenLaw} {n k : Nat} {q : Program} {loose : List Str} {XP : (Str → Option Value) → Heap → Prop} {YP : World → Heap → Prop} {d : DefRec} {K : Params → PySem.W.Frag} {x : Str}
    (hn : l.most = some n) (hz : n ≤ sizeLine) (hdf : d.params.defaults = []) (hr : Room k callerA) (hY : ∀ (w : World) (h : Heap), YP w h → (K w.params).In h)
    (F : ∀ (w : World) (mg : Str → Option Value) (fa : Addr) (h : Heap), TabFact q (K w.params) h → YP w h → (K w.params).In h → h.Ns mainGlobals mg → mg d.name = some (.ref fa) → LawQ l w (K w.params) k n x mg fa h) :
    PySem.W.WalkO q loose XP YP l.row.toRowW d [] (fun f vs => PySem.call f vs) :=
  Att.attach_callB hn hdf fun w z₀ z₁ mg mb fa o pm cd doc a vs ns G Y ho hd hcd hmg hobj hints hlen hbits hg => by
    have KX := hY w _ Y
    have TF : TabFact q (K w.params) z₁.heap := fun c P y hy ht => by
      obtain ⟨e, he⟩ := Option.isSome_iff_exists.mp hy
      exact PySem.W.tab_of G.T KX he ht
    obtain ⟨fd, cs, sp, hT, nT, C, hb, hsp, hF⟩ := F w mg fa _ TF Y KX G.T.g hmg
    exact law_quiet KX G.T.g G.T.b G.T.builtins G.T.nolimit hg hT nT C G.T.bmain hobj hints (Nat.le_trans hlen hz) fun base H kb nb tb e0 hH hS =>
      hF base kb nb tb callerA [] z₁ H ⟨[.ref a], []⟩ [.ref a] [.ref a] _ E0 rfl hr e0 (hb z₁ (.ref a)) (.cons rfl .nil) (hsp H a ns hlen hH hS)
end XV

set_option Elab.async false
set_option linter.all false
set_option maxRecDepth 100000
set_option maxHeartbeats 4000000
/-! enumerate of a list or a tuple; max of a tuple -/
namespace PySem
open Sem (wp)
theorem enum_new1 {v : Value} {o : Obj} {J : Heap → Prop} (B : Begins v o J) :
    Meets (Builtin.«enumerate.__new__» ⟨[.type "enumerate", v], []⟩) (fun _ R s => J s.heap ∧
      R (.ok (.ret (.ref (s.heap.push o).objs.size))) { s with heap := (s.heap.push o).push { cls := .type "enumerate", data := .fields #[.none, .bool false, .ref s.heap.objs.size, rawInt 0, .none, .none] } }) :=
  .of_wp fun prog w A R st hst => by
    obtain ⟨hp, gs, dr, tk, os⟩ := st
    obtain ⟨j0, hst⟩ := hst
    have sub0 := sub_enumerate
    have begin0 : ∀ {A' : Around} {E : Value → Shared → Prop} {Q : Value → Shared → Prop}, Q (.ref hp.objs.size) ⟨hp.push o, gs, dr, tk, os⟩ → wpAny (model prog w) A' (pyIter v) Q E ⟨hp, gs, dr, tk, os⟩ :=
      fun q => B.iter prog w _ _ ⟨hp, gs, dr, tk, os⟩ _ j0 q
    wp_walk
    refine wpAny_stack_any fun below => wpAny_pure ?_
    split
    · rename_i cls _ _ _ _ _
      cases (cls == Value.type "enumerate")
      · wp_walk using begin0
        exact ⟨_, rfl, hst⟩
      · wp_walk using begin0
        exact ⟨_, rfl, hst⟩
    · wp_walk using begin0
      exact ⟨_, rfl, hst⟩
section
variable {prog : Program} {w : World} {A : Around} {E : Value → Shared → Prop} {s : Shared}
theorem enum_call1 {v : Value} {o : Obj} {J : Heap → Prop} {Q : Value → Shared → Prop} (B : Begins v o J) (j0 : J s.heap)
    (h : ∀ h', IsEnum h' (s.heap.objs.size + 1) s.heap.objs.size 0 .none → h'.get? s.heap.objs.size = some o → h'.objs.size = s.heap.objs.size + 2 →
      (∀ b u, s.heap.get? b = some u → h'.get? b = some u) → Q (.ref (s.heap.objs.size + 1)) { s with heap := h' }) :
    wpAny (model prog w) A (call (.type "enumerate") [v]) Q E s := by
  refine callType_new F.called_enumerate (by decide) (F.typeCall_enumerate_1 _) (F.newCall_enumerate_1 _) (fun obj => F.args_object_init_2 obj _) F.entry_enumerate_new (enum_new1 B) ⟨j0, ?_⟩
  have z1 : (s.heap.push o).objs.size = s.heap.objs.size + 1 := Heap.size_push ..
  show _ ∧ _
  rw [z1]
  have he : IsEnum ((s.heap.push o).push { cls := .type "enumerate", data := .fields #[.none, .bool false, .ref s.heap.objs.size, rawInt 0, .none, .none] }) (s.heap.objs.size + 1) s.heap.objs.size 0 .none := by
    have q := Heap.get?_push_size (s.heap.push o) (o := { cls := .type "enumerate", data := .fields #[.none, .bool false, .ref s.heap.objs.size, rawInt 0, .none, .none] }) rfl
    rw [z1] at q
    exact q
  exact ⟨⟨_, he, rfl⟩, h _ he (Heap.get?_push_of_some _ (Heap.get?_push_size _ B.free)) (by rw [Heap.size_push, z1]) fun b u x => Heap.get?_push_of_some _ (Heap.get?_push_of_some _ x)⟩
end
end PySem

set_option Elab.async false
set_option linter.all false
set_option maxRecDepth 100000
set_option maxHeartbeats 4000000
/-! enumerate of a tuple; a rule that reads either way -/
namespace L2
open PySem PySem.Spec PyProof.Rows
/-- a list or a tuple -/
def SqE (K : PySem.W.Frag) (H : Hp) (a : Addr) (xs : List V) : Prop := SqL K H a xs ∨ SqT K H a xs
/-- the tuple at a, its items in new pairs behind their places -/
def Itf (K : PySem.W.Frag) (a : Addr) : It :=
  ⟨fun i H => ∃ (zs : List V) (z : V), SqT K H a zs ∧ zs[i]? = some z, fun i H v H' => ∃ P z, v = .ref P ∧ H P = none ∧ H' = upd H P (.tup [.int (i : Nat), z]) ∧ ∀ zs, SqT K H a zs → zs[i]? = some z,
    fun i H => ∃ zs : List V, SqT K H a zs ∧ zs.length = i⟩
theorem turn_enumF {P : Program} {w : World} {K : PySem.W.Frag} {es : List Expr} {m : Nat} {tp : Pos} (a g it : Addr) :
    Turn P w K (.Tuple es m tp) (Itf K a) [g, it] g (fun i h => (∃ old, IsEnum h g it ((i : Nat) : Int) old) ∧ h.IsTupleIter it a i ∧ g ≠ it) where
  mem := by simp
  obj := fun i h st b hb => by
    obtain ⟨⟨old, he⟩, ⟨o, ho, hc, hd⟩, _⟩ := st
    rcases (show b = g ∨ b = it by simpa using hb) with z | z
    · subst z; exact ⟨_, he, fun v q => nomatch q⟩
    · subst z; exact ⟨o, ho, fun v q => by rw [hd] at q; cases q⟩
  keep := fun i h h' st k => by
    obtain ⟨⟨old, he⟩, hi, hne⟩ := st
    exact ⟨⟨old, k g (by simp) _ he⟩, hi.at fun o q => k it (by simp) o q, hne⟩
  item := by
    intro X eP ew eK hc i pins s σ H E Iv fpo st go
    subst eP ew eK
    obtain ⟨⟨old, he⟩, hit, hne⟩ := st
    obtain ⟨zs, z, hq, hx⟩ := go
    obtain ⟨its, rv, p, hz⟩ := Iv.tuple hq
    obtain ⟨u, hu, ru⟩ := rv.get hx
    have gl : g < s.heap.objs.size := Heap.lt_size he
    have il : it < s.heap.objs.size := by obtain ⟨_, q, _⟩ := hit; exact Heap.lt_size q
    have tu : s.heap.IsTuple a its.toArray := p
    have ai : a ≠ it := by
      rintro rfl
      obtain ⟨o, e1, c1, d1⟩ := hit
      obtain ⟨o2, e2, c2, _⟩ := tu
      rw [e1] at e2
      obtain rfl := Option.some.inj e2
      rw [c1] at c2; exact absurd c2 (by decide)
    have ga : g ≠ a := by
      rintro rfl
      obtain ⟨o2, e2, c2, _⟩ := tu
      rw [show s.heap.get? g = some _ from he] at e2
      obtain rfl := Option.some.inj e2
      exact absurd (show Value.type "enumerate" = Value.type "tuple" from c2) (by decide)
    have D := Draws.tuple (prog := X.prog) (w := X.w) (A := X.A.in1) (Iv.ok.hd hc) it a ai its.toArray
    refine wpAny_pyNext_enum_itemC D he (i := i) ⟨hit, tu⟩ (by have := (List.getElem?_eq_some_iff.mp hu).1; simpa using this) hne (by simp [hne, ga]) fun x h1 tk hx1 ho hst1 hT hsz hk => ?_
    obtain rfl : x = u := by
      have : its.toArray[i]? = some u := by simpa using hu
      rw [this] at hx1
      exact (Option.some.inj hx1).symm
    refine ⟨_, rfl, wpAny_letOwnedTupleGo_enum (s := { s with heap := h1, toks := tk + 1 }) ho fun h2 he2 sb => ?_⟩
    have hT2 := (sb.2 _ (Nat.ne_of_gt gl)).trans hT
    have nw : ObjOk X.prog X.w (upd H s.heap.objs.size (.tup [.int (i : Nat), z])) h2 s.heap.objs.size (.tup [.int (i : Nat), z]) :=
      ⟨by show 2 ≤ sizeLine; decide, [.int i tk, x], .cons ⟨_, rfl⟩ (.cons ru .nil), ⟨_, hT2, rfl, _, rfl⟩⟩
    have I1 : Inv X pins σ (upd H s.heap.objs.size (.tup [.int (i : Nat), z])) { s with heap := h2, toks := tk + 1 } :=
      Iv.turnedNew (ch := [g, it]) (fun b ob hb q => (sb.2 b (fun y => hb (by simp [y]))).trans (hk b ob (fun y => hb (by simp [y])) (fun y => hb (by simp [y])) q)) fpo (Nat.le_refl _) nw
    refine ⟨.ref s.heap.objs.size, _, I1, rfl, ⟨_, z, rfl, Iv.hok.fresh (Nat.le_refl _), rfl, fun ys hy => by rw [Iv.tuple_inj hy hq]; exact hx⟩, ⟨⟨x, ?_⟩, hst1.1.at fun o q => (sb.2 it (Ne.symm hne)).trans q, hne⟩, fun b hb => ?_⟩
    · rw [show ((i + 1 : Nat) : Int) = (i : Int) + 1 by omega]; exact he2
    · have hb' : b < s.heap.objs.size := by
        rcases (show b = g ∨ b = it by simpa using hb) with y | y
        · subst y; exact gl
        · subst y; exact il
      rw [upd_ne (Nat.ne_of_lt hb')]
      exact (fpo b hb).1
  done := by
    intro X eP ew eK hc i pins s σ H E Iv fpo st go
    subst eP ew eK
    obtain ⟨⟨old, he⟩, hit, hne⟩ := st
    obtain ⟨zs, hq, hx⟩ := go
    obtain ⟨its, rv, p, hz⟩ := Iv.tuple hq
    obtain ⟨f0, f1, f2, f3, f4, f5⟩ := fpo it (by simp)
    have tu : s.heap.IsTuple a its.toArray := p
    have ai : a ≠ it := by
      rintro rfl
      obtain ⟨o, e1, c1, d1⟩ := hit
      obtain ⟨o2, e2, c2, _⟩ := tu
      rw [e1] at e2
      obtain rfl := Option.some.inj e2
      rw [c1] at c2; exact absurd c2 (by decide)
    have D := Draws.tuple (prog := X.prog) (w := X.w) (A := X.A.in1) (Iv.ok.hd hc) it a ai its.toArray
    have hl : its.toArray.size = i := by rw [List.size_toArray, ← rv.length]; exact hx
    exact wpAny_pyNext_enum_endD D he (by rw [hl]; exact ⟨hit, tu⟩) fun h1 eb => ⟨rfl, Iv.turned (t' := s.toks) (fun b o hb q => eb b o hb q) f0 f1 f3 f4 f5⟩
  self := fun A i s Q E st h => let ⟨⟨_, he⟩, _⟩ := st; wpAny_pyIter_enum he h
def iEnumF (K : PySem.W.Frag) (ta : TA) : TI := fun σ H R => ta σ H fun vs H1 => ∃ a zs, vs = [.ref a] ∧ SqT K H1 a zs ∧ R (Itf K a) H1
theorem pi_enumF {X : Cx} {e : Expr} {ta : TA} {p pos tp : Pos} {es : List Expr} {m : Nat} (hg : Gl X "enumerate") (hm : X.mg "enumerate" = none) (ha : PA X [e] ta) (hs : starEach [e] X.env = [(false, eval e X.env)] := by rfl) :
    PI X (.Tuple es m tp) (.Call (.Name "enumerate" p) [e] [] pos) (iEnumF X.K ta) := by
  refine ⟨fun pins s σ H R Iv h => Call_ (ld_blt Iv hg hm boot_enumerate (PyProof.Rows.callWith_type1 (thn (ha.run pos pins s σ H _ Iv h) fun us s1 ⟨vs, H1, I1, r1, q1⟩ => ?_) hs rfl))⟩
  obtain ⟨a, zs, rfl, hq, q⟩ := q1
  rw [Vals.ref1 r1]
  obtain ⟨its, rv, tu, hz⟩ := I1.tuple hq
  refine enum_call1 (begins_tuple a its.toArray) (show s1.heap.IsTuple a its.toArray from tu) fun h1 he hit hsz hk => wpAny_pyIter_enum he ?_
  have I2 : Inv X pins σ H1 { s1 with heap := h1 } := I1.kept (t' := s1.toks) hk
  refine ⟨s1.heap.objs.size + 1, [s1.heap.objs.size + 1, s1.heap.objs.size], _, _, H1, rfl, I2, turn_enumF a (s1.heap.objs.size + 1) s1.heap.objs.size, ⟨⟨.none, he⟩, ⟨_, hit, rfl, rfl⟩, Nat.succ_ne_self _⟩, fun b hb => ?_, q⟩
  have hle : s1.heap.objs.size ≤ b := by
    rcases (show b = s1.heap.objs.size + 1 ∨ b = s1.heap.objs.size by simpa using hb) with z | z <;> subst z
    · exact Nat.le_add_right _ _
    · exact Nat.le_refl _
  exact I1.fpOk hle (I1.hok.fresh hle)
/-- either reading -/
theorem pi_or {X : Cx} {tg it : Expr} {u v : TI} (a : PI X tg it u) (b : PI X tg it v) : PI X tg it (fun σ H R => u σ H R ∨ v σ H R) :=
  ⟨fun pins s σ H R I h => h.elim (a.run pins s σ H R I) (b.run pins s σ H R I)⟩
theorem cr_or {X : Cx} {f : Value} {r q : List V → Hp → VK → Prop} (a : CallR X f r) (b : CallR X f q) : CallR X f (fun xs H Q => r xs H Q ∨ q xs H Q) :=
  fun pins s σ H xs us Q I rs h => h.elim (a pins s σ H xs us Q I rs) (b pins s σ H xs us Q I rs)
/-! ### max of a tuple -/
section
variable {prog : Program} {w : World} {A : Around} {E : Value → Shared → Prop} {s : Shared} {a : Addr} {its : List Value} {ns : List Int} {Q : Value → Shared → Prop}
theorem max_tup (hh : A.handled = none) (hl : s.heap.IsTuple a its.toArray) (hi : IntsAre its ns) (hne : 0 < ns.length)
    (h : ∀ h1 tk M t, (∀ b o, s.heap.get? b = some o → h1.get? b = some o) → M ∈ ns → (∀ y, y ∈ ns → y ≤ M) → Q (.int M t) { s with heap := h1, toks := tk }) : wpAny (model prog w) A (call (.builtin "max") [.ref a]) Q E s := by
  obtain ⟨xs, e⟩ := hi.allInts.items
  have hn : numsOf (intItems xs).toList = ns := by rw [← e]; exact hi.numsOf
  rw [nums_intItems] at hn
  subst hn
  rw [e] at hl
  have hsz : 0 < xs.size := by simpa using hne
  have lt : a < s.heap.objs.size := by obtain ⟨_, q, _⟩ := hl; exact Heap.lt_size q
  refine call_max_walk (wpAny_pyIter_tuple hl ⟨_, _, _, _, _, _, _, rfl, Walks.tuple (A := A.in1) hh _ a (Nat.ne_of_lt lt) (intItems xs), ⟨⟨_, Heap.get?_push_size _ rfl, rfl, rfl⟩, hl.push _⟩, fun b hb => ?_, by simpa [intItems] using hsz, CmpOf.ints_gt (numAt xs) (fun _ _ => intItems_at), fun v h1 tk hv hk => ?_⟩)
  · show b < (s.heap.push _).objs.size
    rw [Heap.size_push]
    rcases (show b = s.heap.objs.size ∨ b = a by simpa using hb) with z | z <;> subst z
    · exact Nat.lt_succ_self _
    · exact Nat.lt_succ_of_lt lt
  · have hv : (intItems xs)[argBest (fun i j => decide (numAt xs i > numAt xs j)) (xs.size - 1)]? = some v := by simpa [intItems] using hv
    obtain ⟨t, rfl⟩ := intItems_at hv
    obtain ⟨k1, k2⟩ := argBest_gt (numAt xs) (xs.size - 1)
    refine h h1 tk _ t (fun b o q => hk b o (fun hm => ?_) (Heap.get?_push_of_some _ q)) ?_ fun y hy => ?_
    · have : b = s.heap.objs.size := by simpa using hm
      exact absurd (this ▸ Heap.lt_size q) (Nat.lt_irrefl _)
    · rw [numAt_eq]; exact PySem.getD_mem (by rw [List.length_map, Array.length_toList]; omega)
    · obtain ⟨j, hj, rfl⟩ := mem_getD hy
      rw [List.length_map, Array.length_toList] at hj
      rw [← numAt_eq]; exact k2 j (by omega)
end
def rMaxT (K : PySem.W.Frag) : List V → Hp → VK → Prop := fun vs H Q => ∃ (a : Addr) (ns : List Int), vs = [V.ref a] ∧ SqT K H a (ns.map V.int) ∧ 0 < ns.length ∧ ∀ m, m ∈ ns → (∀ y, y ∈ ns → y ≤ m) → Q (.int m) H
theorem cr_maxT {X : Cx} (hc : X.calm = true) : CallR X (.builtin "max") (rMaxT X.K) := by
  intro pins s σ H vs us Q Iv r h
  obtain ⟨a, ns, rfl, hs, hne, q⟩ := h
  obtain ⟨its, rv, tu, _⟩ := Iv.tuple hs
  rw [Vals.ref1 r]
  exact max_tup (Iv.ok.hd hc) (show s.heap.IsTuple a its.toArray from tu) rv.ints hne fun h1 tk m t hk h1' h2 => ⟨.int _, H, Iv.kept hk, ⟨_, rfl⟩, q m h1' h2⟩
end L2

set_option Elab.async false
set_option linter.all false
set_option maxRecDepth 100000
set_option maxHeartbeats 4000000
/-! x == y, x != y: x an instance whose class has an own == (answers any flag) and no own != -/
namespace PySem.W
open PySem PySem.Spec PyProof.Rows Builtin
section
variable {prog : Program} {w : World} {A : Around} {E : Value → Shared → Prop} {s : Shared} {K : Frag} {x C f : Addr} {ox : Obj} {od : Option Obj} {b tb : Value}
theorem objNe_run {Q : Fin → Shared → Prop} (X : K.In s.heap) (I : InstAt s.heap x ox C od) (he : findIn K (.ref C) "__eq__" = some (some (.ref f))) (hf : isFn K (.ref f) = true) (hu : A.units < cLine)
    (h : wpAny (model prog w) A (call (.ref f) [.ref x, b]) (fun v s' => ∃ r, v = .bool r ∧ Q (.done (.ret (.bool (!r)))) s') E s) :
    wpAny (model prog w) A (Builtin.«object.__ne__» ⟨[.ref x, b], []⟩) Q E s := by
  unfold Builtin.«object.__ne__»
  repeat (first
    | with_reducible refine wpAny_cRoomFor hu ?_
    | (refine wpAny_bind (m := callSpecialIfBound? (.ref x) (Str.ofString "__eq__") [b])
        (ifBound_K X I he hf (wpAny_mono h (fun v s1 hv => by
          obtain ⟨r, rfl, q⟩ := hv
          repeat (first | exact q | exact wpAny_pure q | exact wpAny_truthy_bool q | (refine wpAny_bind (m := truthy (.bool _)) (wpAny_truthy_bool ?_)) | wp_step)) fun _ _ e => e)))
    | wp_step)
theorem tryNe {Q : Option Value → Shared → Prop} (X : K.In s.heap) (I : InstAt s.heap x ox C od) (hs : findIn K (.ref C) "__ne__" = some (some (.builtin "object.__ne__"))) (he : findIn K (.ref C) "__eq__" = some (some (.ref f))) (hf : isFn K (.ref f) = true)
    (ho : subIn K (.ref C) (.type "object") = some true) (hu : A.units + 1 < cLine)
    (h : wpAny (model prog w) A.in1 (call (.ref f) [.ref x, b]) (fun v s' => ∃ r, v = .bool r ∧ Q (some (.bool (!r))) s') E s) : wpAny (model prog w) A (tryCompare (.ref x) "__ne__" b) Q E s := by
  have S := F.cmp_object.ne
  have isI : Looks (model prog w) s.heap (isInstance (.ref x) (.type "object")) true := I.type.andThen (looks_subIn X ho)
  unfold tryCompare
  simp only [callSpecialIfBound?, bindSpecialIfBound?]
  refine wpAny_bind (wpAny_holding (wpAny_bind (wpAny_bind (wpAny_bind (I.type.here ((looks_findIn X hs).here ?_))))))
  simp only [S.bind]
  refine wpAny_bind (wpAny_askSetting (wpAny_ite ?_))
  have fin : wpAny (model prog w) A (call (.builtin "object.__ne__") ([.ref x] ++ [b])) (fun v s' => ∃ r, v = .bool r ∧ Q (some (.bool r)) s') E s := by
    refine wpAny_call (codeAny_call_builtin S.plain F.cmpEntry_ne (check_slot F.cmpKind_ne F.cmpSplit_ne isI (F.cmpArgs_ne _ _) (objNe_run (A := A.in1) X I he hf hu (wpAny_mono h (fun v s1 hv => ?_) fun _ _ e => e))))
    obtain ⟨r, e, q⟩ := hv
    exact ⟨r, e, ⟨_, rfl, q⟩⟩
  have fin2 : wpAny (model prog w) A (call (.builtin "object.__ne__") ([.ref x] ++ [b]) >>= fun v => pure (some v)) (fun r s' => ∃ v, r = some (.bool v) ∧ Q (some (.bool v)) s') E s :=
    wpAny_bind (wpAny_mono fin (fun v s1 ⟨r, e, q⟩ => by subst e; exact wpAny_pure ⟨_, rfl, q⟩) fun _ _ e => e)
  have last : wpAny (model prog w) A (call (.builtin "object.__ne__") ([.ref x] ++ [b]) >>= fun v => pure (some v)) (fun r s' => wpAny (model prog w) A (match r with
      | some Value.notImplemented => pure none
      | none => pure none
      | some v => pure (some v)) Q E s') E s := wpAny_mono fin2 (fun r s1 ⟨v, e, q⟩ => by subst e; exact wpAny_pure q) fun _ _ e => e
  split
  · refine wpAny_bind (wpAny_pure (wpAny_pure ?_))
    exact last
  · refine wpAny_tryCatch (wpAny_bind (wpAny_pure (wpAny_pure ?_)))
    exact last
end
end PySem.W

set_option Elab.async false
set_option linter.all false
set_option maxRecDepth 100000
set_option maxHeartbeats 4000000
/-! the operators == and != of such a class -/
namespace L2
open PySem PySem.Spec PyProof.Rows SlX
/-- what a rich comparison sees of the other side: an instance, a tuple -/
def BTy (K : PySem.W.Frag) (H : Hp) (y : V) (tb : Value) : Prop := (∃ b dy gs C', y = .ref b ∧ H b = some (.ins C' dy gs) ∧ tb = .ref C') ∨ (∃ b zs, y = .ref b ∧ SqT K H b zs ∧ tb = .type "tuple") ∨ (∃ i, y = .int i ∧ tb = .type "int")
section
variable {X : Cx} {CX : CXT} {pins : List (Addr × Obj)} {σ : L2.St} {H : Hp} {s : Shared} {C g : Addr} {n : Nat} {sp : Sp} {E : XK} {y : V} {u tb : Value}
theorem BTy.looks (h : BTy X.K H y tb) (Iv : Inv X pins σ H s) (r : RelV y u) : PySem.W.Looks (model X.prog X.w) s.heap (typeOf u) tb := by
  rcases h with ⟨b, dy, gs, C', rfl, hb, rfl⟩ | ⟨b, zs, rfl, hb, rfl⟩ | ⟨i, rfl, rfl⟩
  · cases (show u = Value.ref b from r)
    obtain ⟨mB, J, _⟩ := ins_get Iv.hok hb
    obtain ⟨od, J, _⟩ := J.look
    exact J.type
  · cases (show u = Value.ref b from r)
    obtain ⟨its, rv, tu, _⟩ := Iv.tuple hb
    obtain ⟨o, e, c, _⟩ := (show s.heap.IsTuple b its.toArray from tu)
    exact fun A Q E s' k q => wpAny_typeOf_ref (k _ _ e) (by rw [c]; exact q)
  · obtain ⟨t, e⟩ := (show ∃ t, u = Value.int i t from r)
    cases e
    exact PySem.W.Looks.of_pure rfl
def rEqI (K : PySem.W.Frag) (C : Addr) (sp : Sp) (E : XK) : R2 := fun x y H Q => ∃ a dx fs tb, x = .ref a ∧ H a = some (.ins C dx fs) ∧ BTy K H y tb ∧ PySem.W.notFirst K C tb = true ∧ sp [x, y] H Q E
theorem op_eqI (hs : PySem.W.findIn X.K (.ref C) "__eq__" = some (some (.ref g))) (hf : PySem.W.isFn X.K (.ref g) = true) (F : FnR X.prog X.w X.K X.mg X.base CX n g sp) (hr : Room n X.A) (hx : Passes CX X E) : OpR X (compareOp .Eq) (rEqI X.K C sp E) := by
  intro pins s σ H x y v u Q Iv rx ry h
  obtain ⟨a, dx, fs, tb, rfl, ha, ht, hn, q⟩ := h
  cases (show v = Value.ref a from rx)
  obtain ⟨mA, J, _⟩ := ins_get Iv.hok ha
  obtain ⟨od, J, _⟩ := J.look
  obtain ⟨m, hF⟩ := Iv.fr
  show wpAny _ _ (richCompare .Eq (.ref a) u) _ _ _
  refine PySem.W.cmp_K (op := .Eq) (tb := tb) hr.units0 hF Iv.ok.mod.kin J (ht.looks Iv ry) hn hs hf ?_
  refine wpAny_mono (wpAny_call (run_fnR (us := [.ref a, u]) (vs := [.ref a, y]) F hr hx Iv (.cons rfl (.cons ry .nil)) q)) (fun w1 s1 z => ?_) fun _ _ x => x
  obtain ⟨z1, H1, I1, rz, qz⟩ := z
  exact cmpback rz ⟨z1, H1, I1, rz, qz⟩
def rNeI (K : PySem.W.Frag) (C : Addr) (sp : Sp) (E : XK) : R2 := fun x y H Q => ∃ a dx fs tb, x = .ref a ∧ H a = some (.ins C dx fs) ∧ BTy K H y tb ∧ PySem.W.notFirst K C tb = true ∧ sp [x, y] H (fun v H1 => ∃ b, v = .bl b ∧ Q (.bl (!b)) H1) E
theorem op_neI (hN : PySem.W.findIn X.K (.ref C) "__ne__" = some (some (.builtin "object.__ne__"))) (hs : PySem.W.findIn X.K (.ref C) "__eq__" = some (some (.ref g))) (hf : PySem.W.isFn X.K (.ref g) = true) (ho : PySem.W.subIn X.K (.ref C) (.type "object") = some true)
    (F : FnR X.prog X.w X.K X.mg X.base CX n g sp) (hr : Room (n + 1) X.A) (hx : Passes CX X E) : OpR X (compareOp .NotEq) (rNeI X.K C sp E) := by
  intro pins s σ H x y v u Q Iv rx ry h
  obtain ⟨a, dx, fs, tb, rfl, ha, ht, hn, q⟩ := h
  cases (show v = Value.ref a from rx)
  obtain ⟨mA, J, _⟩ := ins_get Iv.hok ha
  obtain ⟨od, J, _⟩ := J.look
  have hr1 : Room n X.A.in1 := Room.in1 hr
  have hb := ht.looks Iv ry
  have one : wpAny (model X.prog X.w) X.A (tryCompare (.ref a) "__ne__" u) (fun r s1 => ∃ b, r = some (.bool b) ∧ EP X pins σ Q (.bool b) s1) X.xe s := by
    refine PySem.W.tryNe Iv.kIn J hN hs hf ho (by have := hr1.units0; exact this) ?_
    refine wpAny_mono (wpAny_call (run_at (us := [.ref a, u]) (ws := [.ref a, y]) F hr1 Iv.env0.in1 hx Iv (.cons rfl (.cons ry .nil)) q)) (fun w1 s1 z => ?_) fun _ _ x => x
    obtain ⟨z1, H1, I1, rz, b, e, qz⟩ := z
    subst e
    cases (show w1 = Value.bool b from rz)
    exact ⟨b, rfl, ⟨_, rfl, .bl (!b), H1, I1, rfl, qz⟩⟩
  show wpAny _ _ (richCompare .NotEq (.ref a) u) _ _ _
  unfold richCompare
  simp only [oneThing_ref]
  refine wpAny_holding (wpAny_bind (wpAny_cRoomFor hr.units0 ?_))
  rw [cmpInfo_NotEq]
  dsimp only
  refine wpAny_bind (J.type.here (wpAny_bind (hb.here ?_)))
  have two : wpAny (model X.prog X.w) X.A (tryCompare (.ref a) "__ne__" u) (fun r s1 => ∃ b, r = some (.bool b) ∧ EP X pins σ Q (.bool b) s1) X.xe s := one
  split
  · rename_i q0
    have e : PySem.W.subIn X.K tb (.ref C) = some false := by
      rcases Bool.or_eq_true_iff.mp hn with e | e
      · rw [beq_iff_eq.mp e] at q0; simp at q0
      · exact beq_iff_eq.mp e
    refine wpAny_bind ((PySem.W.looks_subIn Iv.kIn e).here ?_)
    simp only [Bool.false_eq_true, if_false]
    refine wpAny_bind (wpAny_mono two (fun r s1 z => ?_) fun _ _ e => e)
    obtain ⟨b, rfl, hq⟩ := z
    exact wpAny_pure hq
  · refine wpAny_bind (wpAny_pure ?_)
    simp only [Bool.false_eq_true, if_false]
    refine wpAny_bind (wpAny_mono two (fun r s1 z => ?_) fun _ _ e => e)
    obtain ⟨b, rfl, hq⟩ := z
    exact wpAny_pure hq
end
end L2

set_option Elab.async false
set_option linter.all false
set_option maxRecDepth 100000
set_option maxHeartbeats 4000000
/-! one token is out: kept through a for over range(c) and a comprehension (e.replace of written texts asks for it) -/
namespace L2
open PySem PySem.Spec PyProof.Rows
section
variable {α : Type} {t : Sem α} {M : Model} {A : Around} {E E2 : Value → Shared → Prop} {s : Shared} {Q Q2 : α → Shared → Prop}
theorem thk (one : 1 ≤ s.toks) (h : wpAny M A t Q E s) (k : ∀ a s1, 1 ≤ s1.toks → Q a s1 → Q2 a s1) : wpAny M A t Q2 E s :=
  wpAny_mono (wpAny_toks_of one h) (fun a s1 q => k a s1 q.1 q.2) fun _ _ z => z.2
theorem thkF (one : 1 ≤ s.toks) (h : wpAny M A t Q (fun _ _ => False) s) (k : ∀ a s1, 1 ≤ s1.toks → Q a s1 → Q2 a s1) : wpAny M A t Q2 E2 s :=
  wpAny_mono (wpAny_toks_of one h) (fun a s1 q => k a s1 q.1 q.2) fun _ _ z => False.elim z.2
end
section
variable {X : Cx}
/-- what a for asks of its turns -/
def tForR (g : TG) (tb : TS) (D : Ends) (σ : St) : It → Hp → Prop := fun J G => ∃ W : Nat → Nat → St → Hp → Prop, (∃ m, W 0 m σ G) ∧ ∀ i m ρ G1, W i m ρ G1 →
  (J.stop i G1 ∧ D.nx ρ G1) ∨ (J.go i G1 ∧ ∃ N : St → Hp → Prop, (∀ ρ1 G2, N ρ1 G2 → ∃ m1, m1 < m ∧ W (i + 1) m1 ρ1 G2) ∧
    ∀ x G2, J.yld i G1 x G2 → g x ρ G2 fun ρ2 G3 => tb { D with nx := N, ct := N, bk := D.nx } ρ2 G3)
/-- for x in range(c): the written c is an int that is made -/
theorem ps_forT {c : Int} {j : Nat} {cp p pos fpos : Pos} {tg : Expr} {body : List Stmt} {g : TG} {tb : TS} (own : PassesOwn (model X.prog X.w) X.A X.env X.xe) (calm : X.calm = true) (hg : Gl X "range") (hm : X.mg "range" = none)
    (gg : PG X tg g) (hb : PSsT X body tb) (c0 : 0 ≤ c) (c1 : c < 2 ^ 62) (hs : starEach [.Constant (.int c) j cp] X.env = [(false, eval (.Constant (.int c) j cp) X.env)] := by rfl)
    (fo : ∀ x, foldedSetIterable (.Call (.Name "range" p) [.Constant (.int c) j cp] [] pos) X.env x = pure x := by intro _; rfl) :
    PS X (.For tg (.Call (.Name "range" p) [.Constant (.int c) j cp] [] pos) body [] fpos) (tFor (fun _ H R => R (Itr 0 c.toNat) H) g tb) := by
  refine ⟨fun pins s σ H D Iv h => ?_⟩
  have ev : ∀ R : It → Hp → Prop, R (Itr 0 c.toNat) H → wpAny (model X.prog X.w) X.A (eval (.Call (.Name "range" p) [.Constant (.int c) j cp] [] pos) X.env) (fun v s1 => 1 ≤ s1.toks ∧ wpAny (model X.prog X.w) X.A (pyIter v) (PIE X pins σ tg R) X.xe s1) X.xe s := fun R hR => by
    refine Call_ (ld_blt Iv hg hm boot_range (PyProof.Rows.callWith_type1 ?_ hs rfl))
    rw [hs]
    refine Calls.spliced_cons (wpAny_Constant_int (k := j) (pos := cp) (Calls.spliced_nil ?_))
    refine thk (by show 1 ≤ s.toks + 1; omega) (call_range_1 (range_it (Iv.tok _) (by omega) (by omega) (by omega) c1 ?_)) fun v s1 o q => ⟨o, q⟩
    have e : (c - 0).toNat = c.toNat := by omega
    rw [e]
    exact hR
  have rdy : tForR g tb D σ (Itr 0 c.toNat) H := h
  refine wpAny_For (thn (ev (tForR g tb D σ) rdy) fun v s1 ⟨o1, h1⟩ => thk o1 h1 fun itv s2 o2 h2 => ?_) fo
  obtain ⟨it, fp, tn, J, H2, rfl, I2, T, st2, f2, W, ⟨m0, w0⟩, turn⟩ := h2
  have stat : ∀ {G : Hp}, (∀ b ∈ fp, G b = none) → ∀ b ∈ fp, FpOk X pins G b := fun z b hb => ⟨z b hb, (f2 b hb).2⟩
  refine codeAny_forLoop_any (fun n s' => 1 ≤ s'.toks ∧ ∃ i ρ G, Inv X pins ρ G s' ∧ tn i s'.heap ∧ (∀ b ∈ fp, G b = none) ∧ W i n ρ G) ?_ m0 ⟨o2, 0, σ, H2, I2, st2, fun b hb => (f2 b hb).1, w0⟩
  rintro n s3 ⟨o3, i, σ3, H3, I3, st3, z3, w3⟩
  rcases turn i n σ3 H3 w3 with ⟨stop, fin⟩ | ⟨go, N, hN, step⟩
  · refine wpAny_passesOwn own (thn (T.done X rfl rfl rfl calm i pins s3 σ3 H3 X.xe I3 (stat z3) st3 stop) fun r s4 ⟨hr, I4⟩ => ?_)
    subst hr
    exact wpAny_execs_nil ⟨σ3, H3, I4, fin⟩
  · refine wpAny_passesOwn own (thk o3 (T.item X rfl rfl rfl calm i pins s3 σ3 H3 X.xe I3 (stat z3) st3 go) fun r s4 o4 ⟨u, hr, h4⟩ => ?_)
    subst hr
    refine wpAny_passesOwn own (thk o4 h4 fun _ s5 o5 ⟨x, H5, I5, r5, y5, st5, z5⟩ => ?_)
    have Ip := I5.pinned (stat z5) (T.obj _ _ st5)
    refine wpAny_passesOwn own (thk o5 (gg.run _ s5 σ3 H5 x u _ Ip r5 (step x H5 y5)) fun _ s6 o6 ⟨σ6, H6, I6, q6⟩ => ?_)
    refine wpAny_passesOwn own (thk o6 (hb _ s6 σ6 H6 _ o6 I6 q6) fun f s7 o7 q7 => ?_)
    have pinned : ∀ {ρ : St} {G : Hp}, Inv X (pins ++ pinsAt fp s5.heap) ρ G s7 → ∀ b ∈ fp, ∀ o, s5.heap.get? b = some o → s7.heap.get? b = some o ∧ G b = none := fun {ρ G} I7 b hb o e =>
      let z := I7.pin (b, o) (List.mem_append_right _ (List.mem_append_right _ (mem_pinsAt hb e)))
      ⟨z.1, z.2.1⟩
    have again : ∀ {ρ : St} {G : Hp}, Inv X (pins ++ pinsAt fp s5.heap) ρ G s7 → N ρ G → ∃ m, m < n ∧ 1 ≤ s7.toks ∧ ∃ i ρ G, Inv X pins ρ G s7 ∧ tn i s7.heap ∧ (∀ b ∈ fp, G b = none) ∧ W i m ρ G := fun {ρ G} I7 n7 => by
      obtain ⟨m1, lt, w7⟩ := hN ρ G n7
      refine ⟨m1, lt, o7, i + 1, ρ, G, I7.unpinned, T.keep _ _ _ st5 fun b hb o e => (pinned I7 b hb o e).1, fun b hb => ?_, w7⟩
      obtain ⟨o, e, _⟩ := T.obj _ _ st5 b hb
      exact (pinned I7 b hb o e).2
    cases f with
    | next => obtain ⟨ρ, G, I7, n7⟩ := q7; exact again I7 n7
    | cont => obtain ⟨ρ, G, I7, n7⟩ := q7; exact again I7 n7
    | brk => obtain ⟨ρ, G, I7, fin⟩ := q7; exact ⟨ρ, G, I7.unpinned, fin⟩
    | ret v => obtain ⟨x7, ρ, G, I7, r7, fin⟩ := q7; exact ⟨x7, ρ, G, I7.unpinned, r7, fin⟩
/-- name = [elt for target in iter], elt where one token is out -/
theorem pst_lcT {i : Nat} {y : Str} {py : Pos} {elt tg iter : Expr} {sco : Scope} {own : List (Str × Nat)} {pos spos : Pos} {wi : TI} {g : TG} {te : TE} (calm : X.calm = true) (nd : X.N.Nodup) (hy : X.N[i]? = some y) (hyl : X.env.scope.names.lookup y = some .local)
    (sw : swapsWith (.ListComp elt [⟨tg, iter, [], 0⟩] sco pos) (some (.Name y py)) spos.line X.env = pure true) (hi : PI X tg iter wi) (ok : BlkOk X.N X.env.scope sco own)
    (gg : ∀ (s : Shared) (H : Hp) (C : Addr) (cl : List (Str × Addr)) (fp : List Addr), PG (X.blk s H sco (compEnvC sco cl C X.env) fp) tg g)
    (ee : ∀ (s : Shared) (H : Hp) (C : Addr) (cl : List (Str × Addr)) (fp : List Addr), PET (X.blk s H sco (compEnvC sco cl C X.env) fp) elt te) (fo : ∀ x, foldedSetIterable iter X.env x = pure x := by intro _; rfl) :
    PST X (.Assign [.Name y py] (.ListComp elt [⟨tg, iter, [], 0⟩] sco pos) spos) (tAsg (tLc wi g tYes te (own.map (·.2))) (gName i)) := by
  intro pins s σ H D one Iv h
  rw [exec_Assign_Name_used _ _ _ _ sw]
  refine wpAny_bind (wpAny_standAt (wpAny_bind ?_))
  show wpAny _ X.A (do let _ ← comprehension (.ListComp elt [⟨tg, iter, [], 0⟩] sco pos) sco X.env (firstIterPos [⟨tg, iter, [], 0⟩] pos) (newList []) false (eval iter X.env) (some (assign (.Name y py) X.env))) _ _ s
  have h : tLc wi g tYes te (own.map (·.2)) σ H (fun x H1 => gName i x σ H1 D.nx) := h
  refine wpAny_bind (thn (Q := fun _ s1 => SP X pins D .next s1) ?_ fun _ s1 q => wpAny_pure (wpAny_pure q))
  have hfree : ∀ y ∈ sco.names, y.2 = .free → ∃ c, X.env.cells.lookup y.1 = some c := fun y hy e => (ok.free y hy e).elim (fun k => Iv.ok.has _ (.inl k)) fun k => Iv.ok.has _ (.inr k)
  refine wpAny_comprehension_free (use := some (assign (.Name y py) X.env)) rfl fo (closure_ok hfree) ok.kind (fun z hz e => by rw [ok.uniq z hz, e]) (thk one (hi.run pins s σ H _ Iv h) fun xv s1 o1 hx => thk o1 hx fun itv s2 o2 h2 => ?_)
  obtain ⟨it, fp, tn, J, H2, rfl, I2, T, st2, f2, q⟩ := h2
  refine wpAny_newObj_type (newEnv_comp ?_) (by show 0 ≤ sizeLine; decide)
  generalize hL : s2.heap.objs.size = L
  have nL : H2 L = none := I2.hok.fresh (Nat.le_of_eq hL)
  obtain ⟨W, ⟨m0, w0⟩, turn⟩ := q L nL
  generalize hs3 : ({ s2 with heap := s2.heap.push { cls := .type "list", data := .seq ([] : List Value).toArray } } : Shared) = s3
  have o3 : 1 ≤ s3.toks := by rw [← hs3]; exact o2
  have g3 : s3.heap = s2.heap.push { cls := .type "list", data := .seq ([] : List Value).toArray } := by rw [← hs3]
  have I3 : Inv X pins σ (upd H2 L (.lst [])) s3 := by
    rw [← hs3]
    refine I2.laid (t' := s2.toks) (fun b o e => Heap.get?_push_of_some _ e) (Nat.le_of_eq hL) ⟨Nat.zero_le _, [], 0, .nil, ?_⟩
    rw [← hL]; exact Heap.get?_push_size _ rfl
  have lt2 : ∀ b ∈ fp, b < s2.heap.objs.size := fun b hb => let ⟨_, e, _⟩ := T.obj _ _ st2 b hb; Heap.lt_size e
  have f3 : ∀ b ∈ fp, FpOk X pins (upd H2 L (.lst [])) b ∧ b < s3.heap.objs.size := fun b hb => by
    refine ⟨⟨?_, (f2 b hb).2⟩, by rw [g3, Heap.size_push]; exact Nat.lt_succ_of_lt (lt2 b hb)⟩
    rw [upd_ne (by rw [← hL]; exact Nat.ne_of_lt (lt2 b hb))]
    exact (f2 b hb).1
  have st3 : tn 0 s3.heap := T.keep _ _ _ st2 fun b _ o e => by rw [g3]; exact Heap.get?_push_of_some _ e
  have I4 := block_start I3 ok nd f3
  have pg := gg s3 (upd H2 L (.lst [])) s3.heap.objs.size (cellsFrom (s3.heap.objs.size + 1) sco.names (cloFrom X.env.cells sco.names [])) fp
  have pe := ee s3 (upd H2 L (.lst [])) s3.heap.objs.size (cellsFrom (s3.heap.objs.size + 1) sco.names (cloFrom X.env.cells sco.names [])) fp
  show codeAny _ _ (.compStart (.ListComp elt [⟨tg, iter, [], 0⟩] sco pos) 0 (.ref it) (.ref L) (compEnvC sco (cellsFrom (s3.heap.objs.size + 1) sco.names (cloFrom X.env.cells sco.names [])) s3.heap.objs.size X.env)) (compPost (model X.prog X.w) X.A X.xe (some (assign (.Name y py) X.env)) (fun _ s1 => SP X pins D .next s1) (.ref L) s3.heap.objs.size) { s3 with heap := pushCells (s3.heap.push { cls := .type "dict", data := .dict #[] }) sco.names }
  have z3 : ∀ b ∈ fp, (upd H2 L (.lst [])) b = none := fun b hb => (f3 b hb).1.1
  generalize hce : compEnvC sco (cellsFrom (s3.heap.objs.size + 1) sco.names (cloFrom X.env.cells sco.names [])) s3.heap.objs.size X.env = ce at I4 pg pe ⊢
  have cl : ce.locals = s3.heap.objs.size := by subst hce; rfl
  generalize hH3 : upd H2 L (.lst []) = H3 at I3 I4 pg pe w0 z3 f3
  generalize hs4 : ({ s3 with heap := pushCells (s3.heap.push { cls := .type "dict", data := .dict #[] }) sco.names } : Shared) = s4 at I4 ⊢
  have o4 : 1 ≤ s4.toks := by rw [← hs4]; exact o3
  have st4 : tn 0 s4.heap := T.keep _ _ _ st3 fun b _ o e => by rw [← hs4]; exact pushCells_keeps _ _ _ _ (Heap.get?_push_of_some _ e)
  have stat : ∀ {ρ : St} {G : Hp} {s' : Shared}, Inv (X.blk s3 H3 sco ce fp) [] ρ G s' → (∀ b ∈ fp, G b = none) → ∀ b ∈ fp, FpOk (X.blk s3 H3 sco ce fp) [] G b := fun {ρ G s'} I' z b hb =>
    ⟨z b hb, (I'.ok.exf b hb).1, I'.ok.exfs b hb, .inl hb, fun x c e => (I'.ok.exf b hb).2 x c e, fun p hp => absurd (show p ∈ ([] : List (Addr × Obj)) ++ [] from hp) (by simp)⟩
  have loop : codeAny (model X.prog X.w) X.A (.compLoop (.ListComp elt [⟨tg, iter, [], 0⟩] sco pos) 0 (.ref it) (.ref L) ce) (compPost (model X.prog X.w) X.A X.xe (some (assign (.Name y py) X.env)) (fun _ s1 => SP X pins D .next s1) (.ref L) s3.heap.objs.size) s4 := by
    refine compLoop_any (fun n s' => 1 ≤ s'.toks ∧ ∃ i G, Inv (X.blk s3 H3 sco ce fp) [] (wipe σ (own.map (·.2))) G s' ∧ tn i s'.heap ∧ (∀ b ∈ fp, G b = none) ∧ W i n G) ?_ m0 ⟨o4, 0, H3, I4, st4, z3, w0⟩
    rintro n s5 ⟨o5, k, H5, I5, st5, z5, w5⟩
    rcases turn k n H5 w5 with ⟨stop, fin⟩ | ⟨go, Nx, hNx, step⟩
    · refine thnF (T.done (X.blk s3 H3 sco ce fp) rfl rfl rfl calm k [] s5 _ H5 (fun _ _ => False) I5 (stat I5 z5) st5 stop) fun r s6 ⟨hr, I6⟩ => ?_
      subst hr
      have I7 : Inv X pins σ H5 s6 := I3.call' (ch := fp) I6.os I6.base I6.hok I6.bare fun b hb => ⟨(f3 b hb).1.2.2.2.1, (f3 b hb).1.2.1, (f3 b hb).1.2.2.2.2.1, (f3 b hb).1.2.2.2.2.2⟩
      have nC : H5 s3.heap.objs.size = none := by rw [← cl]; exact I6.free
      obtain ⟨m, ns, _⟩ := I6.loc
      have ns : s6.heap.Ns ce.locals m := ns
      rw [cl] at ns
      have f := I3.fpOk (Nat.le_refl _) nC
      show wpAny _ _ (assign (.Name y py) X.env (.ref L)) _ _ _
      refine wpAny_assign_Name (store_ok2 (v := V.ref L) I7 nd hy (.inl hyl) rfl (fun s8 I8 ⟨a, sb, ha⟩ => ?_) (.inr hyl))
      obtain ⟨f0, f1, f2, f3, f4, f5⟩ := f
      have ca : s3.heap.objs.size ≠ a := ha.elim (fun z => by rw [z]; exact f1) fun z e => f4 y a z e.symm
      exact ⟨m, ns.sameBut sb ca, fun h3 sb3 => ⟨_, H5, I8.turned (t' := s8.toks) (fun b o hb e => (sb3.2 b hb).trans e) f0 f1 f3 f4 f5, fin⟩⟩
    · refine thkF o5 (T.item (X.blk s3 H3 sco ce fp) rfl rfl rfl calm k [] s5 _ H5 (fun _ _ => False) I5 (stat I5 z5) st5 go) fun r s6 o6 ⟨u, hr, h6⟩ => ?_
      subst hr
      refine thkF o6 h6 fun _ s7 o7 ⟨x, H7, I7, r7, y7, st7, z7⟩ => ?_
      have Ip := I7.pinned (stat I7 z7) (T.obj _ _ st7)
      refine thkF o7 (pg.run _ s7 _ H7 x u _ Ip r7 (step x H7 y7)) fun _ s8 o8 ⟨σ8, H8, I8, hw8, q8⟩ => ?_
      have q8 : te σ8 H8 fun y H4 => ∃ acc, H4 L = some (.lst acc) ∧ acc.length < sizeLine ∧ Nx (upd H4 L (.lst (acc ++ [y]))) := q8
      refine wpAny_tests_nil ?_
      refine thkF o8 (pe _ s8 σ8 H8 _ o8 I8 q8) fun z s10 o10 ⟨yv, H10, I10, r10, acc, hD10, hz10, nx⟩ => ?_
      refine thkF o10 (app_ok (X := X.blk s3 H3 sco ce fp) (Q := fun _ s11 => Inv (X.blk s3 H3 sco ce fp) ([] ++ pinsAt fp s7.heap) σ8 (upd H10 L (.lst (acc ++ [yv]))) s11) I10 hD10 hz10 r10 fun s11 I11 => I11) fun _ s11 o11 I11 => ?_
      obtain ⟨m1, lt, w1⟩ := hNx _ nx
      have pinned : ∀ b ∈ fp, ∀ o, s7.heap.get? b = some o → s11.heap.get? b = some o ∧ (upd H10 L (.lst (acc ++ [yv]))) b = none := fun b hb o e =>
        let z := I11.pin (b, o) (List.mem_append_right _ (List.mem_append_right _ (mem_pinsAt hb e)))
        ⟨z.1, z.2.1⟩
      have len : (wipe σ (own.map (·.2))).length = σ8.length := by rw [← hw8, wipe_length]
      refine ⟨m1, lt, o11, k + 1, _, (I11.unpinned (pins := [])).weak len (fun j v e => ?_), T.keep _ _ _ st7 fun b hb o e => (pinned b hb o e).1, fun b hb => ?_, w1⟩
      · rw [← hw8] at e
        exact (wipe_some e).1
      · obtain ⟨o, e, _⟩ := T.obj _ _ st7 b hb
        exact (pinned b hb o e).2
  exact codeAny_compStart_list loop (T.self X.A 0 _ _ _ st4 loop)
end
end L2

set_option Elab.async false
set_option linter.all false
set_option maxRecDepth 100000
set_option maxHeartbeats 4000000
/-! loops over what is a list or a tuple, as it stood when the loop began -/
namespace L2
open PySem PySem.Spec PyProof.Rows
theorem SqE.same {K : PySem.W.Frag} {H G : Hp} {a : Addr} {xs : List V} (h : SqE K H a xs) (s : Same H G) : SqE K G a xs := h.elim (fun h => .inl (s.seq h)) fun h => .inr (SqT.ext h s)
theorem SqE.ix {K : PySem.W.Frag} {H : Hp} {a : Addr} {xs : List V} (h : SqE K H a xs) {i : Int} {j : Nat} {v : V} {Q : VK} (hi : i = (j : Int)) (hj : xs[j]? = some v) (q : Q v H) : rIx K (.ref a) (.int i) H Q :=
  h.elim (fun h => .inl ⟨a, xs, i, v, rfl, rfl, h, at_of hi hj, q⟩) fun h => .inr (.inl ⟨a, xs, i, v, rfl, rfl, h, at_of hi hj, q⟩)
section
variable {K : PySem.W.Frag} {a : Addr} {xs : List V} {g : TG} {H0 : Hp}
theorem enumE {tb : TS} {D : Ends} {σ : St} (hq : SqE K H0 a xs) (Pv : Nat → St → Hp → Prop) (same : ∀ i ρ H, Pv i ρ H → Same H0 H) (h0 : Pv 0 σ H0)
    (hs : ∀ i x ρ H T, xs[i]? = some x → Pv i ρ H → H T = none → g (.ref T) ρ (upd H T (.tup [.int (i : Nat), x])) fun ρ2 H2 => tb { D with nx := Pv (i + 1), ct := Pv (i + 1), bk := D.nx } ρ2 H2) (hd : ∀ ρ H, Pv xs.length ρ H → D.nx ρ H) :
    (SqL K H0 a xs ∧ tForR g tb D σ (Ite K a) H0) ∨ (SqT K H0 a xs ∧ tForR g tb D σ (Itf K a) H0) := by
  rcases hq with q | q
  · refine .inl ⟨q, fun i m ρ H => m = xs.length - i ∧ i ≤ xs.length ∧ Pv i ρ H, ⟨xs.length, by simp, Nat.zero_le _, h0⟩, ?_⟩
    rintro i m ρ H ⟨rfl, hi, p⟩
    have q1 := (same i ρ H p).seq q
    by_cases lt : i < xs.length
    · refine .inr ⟨⟨xs, xs[i], q1, by simp [lt]⟩, Pv (i + 1), fun ρ1 H1 p1 => ⟨xs.length - (i + 1), by omega, rfl, lt, p1⟩, fun x H1 y => ?_⟩
      obtain ⟨T, z, rfl, n, rfl, y⟩ := y
      exact hs i z ρ H T (y xs q1) p n
    · have e : i = xs.length := by omega
      subst e
      exact .inl ⟨⟨xs, q1, Nat.le_refl _⟩, hd ρ H p⟩
  · refine .inr ⟨q, fun i m ρ H => m = xs.length - i ∧ i ≤ xs.length ∧ Pv i ρ H, ⟨xs.length, by simp, Nat.zero_le _, h0⟩, ?_⟩
    rintro i m ρ H ⟨rfl, hi, p⟩
    have q1 := SqT.ext q (same i ρ H p)
    by_cases lt : i < xs.length
    · refine .inr ⟨⟨xs, xs[i], q1, by simp [lt]⟩, Pv (i + 1), fun ρ1 H1 p1 => ⟨xs.length - (i + 1), by omega, rfl, lt, p1⟩, fun x H1 y => ?_⟩
      obtain ⟨T, z, rfl, n, rfl, y⟩ := y
      exact hs i z ρ H T (y xs q1) p n
    · have e : i = xs.length := by omega
      subst e
      exact .inl ⟨⟨xs, q1, rfl⟩, hd ρ H p⟩
variable {tt : TT} {te : TE} {vs : List Nat} {σ : St} {Q : Addr → Hp → Prop}
/-- what a comprehension asks of its turns -/
def tLcR (g : TG) (tt : TT) (te : TE) (vs : List Nat) (σ : St) (Q : Addr → Hp → Prop) : It → Hp → Prop := fun J H1 => ∀ D, H1 D = none → ∃ W : Nat → Nat → Hp → Prop, (∃ m, W 0 m (upd H1 D (.lst []))) ∧ ∀ i m G, W i m G →
  (J.stop i G ∧ Q D G) ∨ (J.go i G ∧ ∃ Nx : Hp → Prop, (∀ G1, Nx G1 → ∃ m1, m1 < m ∧ W (i + 1) m1 G1) ∧ ∀ x G1, J.yld i G x G1 → g x (wipe σ vs) G1 fun σ2 H2 => wipe σ2 vs = wipe σ vs ∧ tt σ2 H2 fun b H3 =>
    if b = true then te σ2 H3 fun y H4 => ∃ acc, H4 D = some (.lst acc) ∧ acc.length < sizeLine ∧ Nx (upd H4 D (.lst (acc ++ [y]))) else Nx H3)
theorem lc_enumE (hq : SqE K H0 a xs) (Pv : Addr → Nat → Hp → Prop) (same : ∀ D i H, Pv D i H → Same H0 H) (h0 : ∀ D, H0 D = none → Pv D 0 (upd H0 D (.lst [])))
    (hs : ∀ D i x H T, H0 D = none → xs[i]? = some x → Pv D i H → H T = none → g (.ref T) (wipe σ vs) (upd H T (.tup [.int (i : Nat), x])) fun σ2 H2 => wipe σ2 vs = wipe σ vs ∧ tt σ2 H2 fun b H3 =>
      if b = true then te σ2 H3 fun y H4 => ∃ acc, H4 D = some (.lst acc) ∧ acc.length < sizeLine ∧ Pv D (i + 1) (upd H4 D (.lst (acc ++ [y]))) else Pv D (i + 1) H3)
    (hd : ∀ D H, H0 D = none → Pv D xs.length H → Q D H) :
    (SqL K H0 a xs ∧ tLcR g tt te vs σ Q (Ite K a) H0) ∨ (SqT K H0 a xs ∧ tLcR g tt te vs σ Q (Itf K a) H0) := by
  rcases hq with q | q
  · refine .inl ⟨q, fun D hD => ⟨fun i m H => m = xs.length - i ∧ i ≤ xs.length ∧ Pv D i H, ⟨xs.length, by simp, Nat.zero_le _, h0 D hD⟩, ?_⟩⟩
    rintro i m H ⟨rfl, hi, p⟩
    have q1 := (same D i H p).seq q
    by_cases lt : i < xs.length
    · refine .inr ⟨⟨xs, xs[i], q1, by simp [lt]⟩, Pv D (i + 1), fun H1 p1 => ⟨xs.length - (i + 1), by omega, rfl, lt, p1⟩, fun x H1 y => ?_⟩
      obtain ⟨T, z, rfl, n, rfl, y⟩ := y
      exact hs D i z H T hD (y xs q1) p n
    · have e : i = xs.length := by omega
      subst e
      exact .inl ⟨⟨xs, q1, Nat.le_refl _⟩, hd D H hD p⟩
  · refine .inr ⟨q, fun D hD => ⟨fun i m H => m = xs.length - i ∧ i ≤ xs.length ∧ Pv D i H, ⟨xs.length, by simp, Nat.zero_le _, h0 D hD⟩, ?_⟩⟩
    rintro i m H ⟨rfl, hi, p⟩
    have q1 := SqT.ext q (same D i H p)
    by_cases lt : i < xs.length
    · refine .inr ⟨⟨xs, xs[i], q1, by simp [lt]⟩, Pv D (i + 1), fun H1 p1 => ⟨xs.length - (i + 1), by omega, rfl, lt, p1⟩, fun x H1 y => ?_⟩
      obtain ⟨T, z, rfl, n, rfl, y⟩ := y
      exact hs D i z H T hD (y xs q1) p n
    · have e : i = xs.length := by omega
      subst e
      exact .inl ⟨⟨xs, q1, rfl⟩, hd D H hD p⟩
theorem lc_E (hq : SqE K H0 a xs) (Pv : Addr → Nat → Hp → Prop) (same : ∀ D i H, Pv D i H → Same H0 H) (h0 : ∀ D, H0 D = none → Pv D 0 (upd H0 D (.lst [])))
    (hs : ∀ D i x H, H0 D = none → xs[i]? = some x → Pv D i H → g x (wipe σ vs) H fun σ2 H2 => wipe σ2 vs = wipe σ vs ∧ tt σ2 H2 fun b H3 =>
      if b = true then te σ2 H3 fun y H4 => ∃ acc, H4 D = some (.lst acc) ∧ acc.length < sizeLine ∧ Pv D (i + 1) (upd H4 D (.lst (acc ++ [y]))) else Pv D (i + 1) H3)
    (hd : ∀ D H, H0 D = none → Pv D xs.length H → Q D H) :
    (SqL K H0 a xs ∧ tLcR g tt te vs σ Q (Itl K a) H0) ∨ (SqT K H0 a xs ∧ tLcR g tt te vs σ Q (Itt K a) H0) := by
  rcases hq with q | q
  · refine .inl ⟨q, fun D hD => ⟨fun i m H => m = xs.length - i ∧ i ≤ xs.length ∧ Pv D i H, ⟨xs.length, by simp, Nat.zero_le _, h0 D hD⟩, ?_⟩⟩
    rintro i m H ⟨rfl, hi, p⟩
    have q1 := (same D i H p).seq q
    by_cases lt : i < xs.length
    · refine .inr ⟨⟨xs, xs[i], q1, by simp [lt]⟩, Pv D (i + 1), fun H1 p1 => ⟨xs.length - (i + 1), by omega, rfl, lt, p1⟩, fun x H1 y => ?_⟩
      obtain ⟨e, y⟩ := y
      subst e
      exact hs D i x _ hD (y xs q1) p
    · have e : i = xs.length := by omega
      subst e
      exact .inl ⟨⟨xs, q1, Nat.le_refl _⟩, hd D H hD p⟩
  · refine .inr ⟨q, fun D hD => ⟨fun i m H => m = xs.length - i ∧ i ≤ xs.length ∧ Pv D i H, ⟨xs.length, by simp, Nat.zero_le _, h0 D hD⟩, ?_⟩⟩
    rintro i m H ⟨rfl, hi, p⟩
    have q1 := SqT.ext q (same D i H p)
    by_cases lt : i < xs.length
    · refine .inr ⟨⟨xs, xs[i], q1, by simp [lt]⟩, Pv D (i + 1), fun H1 p1 => ⟨xs.length - (i + 1), by omega, rfl, lt, p1⟩, fun x H1 y => ?_⟩
      obtain ⟨e, y⟩ := y
      subst e
      exact hs D i x _ hD (y xs q1) p
    · have e : i = xs.length := by omega
      subst e
      exact .inl ⟨⟨xs, q1, Nat.le_refl _⟩, hd D H hD p⟩
end
theorem enum_read {K : PySem.W.Frag} {i : Nat} {a : Addr} {xs : List V} {σ : St} {H : Hp} {R : It → Hp → Prop} (hσ : σ[i]? = some (some (.ref a))) (h : (SqL K H a xs ∧ R (Ite K a) H) ∨ (SqT K H a xs ∧ R (Itf K a) H)) :
    iEnum K (tCons (tVar i) tNil) σ H R ∨ iEnumF K (tCons (tVar i) tNil) σ H R :=
  h.elim (fun h => .inl ⟨_, hσ, a, xs, rfl, h.1, h.2⟩) fun h => .inr ⟨_, hσ, a, xs, rfl, h.1, h.2⟩
theorem seq_read {K : PySem.W.Frag} {i : Nat} {a : Addr} {xs : List V} {σ : St} {H : Hp} {R : It → Hp → Prop} (hσ : σ[i]? = some (some (.ref a))) (h : (SqL K H a xs ∧ R (Itl K a) H) ∨ (SqT K H a xs ∧ R (Itt K a) H)) :
    iList K (tVar i) σ H R ∨ iTup K (tVar i) σ H R :=
  h.elim (fun h => .inl ⟨_, hσ, a, rfl, ⟨xs, h.1⟩, h.2⟩) fun h => .inr ⟨_, hσ, a, rfl, ⟨xs, h.1⟩, h.2⟩
/-- a pair as a comprehension's target: K told -/
theorem pg_tupK {X : Cx} {K : PySem.W.Frag} {es : List Expr} {k : Nat} {t : TGs} {n : Nat} {pos : Pos} (hK : X.K = K) (hc : X.calm = true) (h : PGs X es t)
    (hn : (assignEach es X.env).length = n := by rfl) (hst : (assignEach es X.env).findIdx? (·.1) = none := by rfl) : PG X (.Tuple es k pos) (gTup K n t) := by
  subst hK
  exact pg_tup hc h hn hst
theorem CallR.imp {X : Cx} {f : Value} {r q : List V → Hp → VK → Prop} (h : CallR X f r) (i : ∀ xs H Q, q xs H Q → r xs H Q) : CallR X f q := fun pins s σ H xs us Q I rs hq => h pins s σ H xs us Q I rs (i xs H Q hq)
theorem same_new' {H : Hp} {p : Addr} {o : HO} (h : H p = none) : Same H (upd H p o) := fun b u e => by rw [upd_ne (ne_of_none e h)]; exact e
/-- tuple(x), x a list or a tuple -/
theorem call_tupE {X : Cx} : CallR X (.type "tuple") (fun xs H Q => ∃ a ys, xs = [.ref a] ∧ SqE X.K H a ys ∧ ∀ p G, Same H G → SqT X.K G p ys → Q (.ref p) G) :=
  CallR.imp call_tuple_of fun xs H Q h => by
    obtain ⟨a, ys, e, h, q⟩ := h
    refine ⟨a, ys, e, ?_⟩
    rcases h with h | h
    · exact .inl ⟨h, fun l nl => q l _ (same_new' nl) (SqT.of upd_same)⟩
    · exact .inr ⟨h, q a H (Same.refl H) h⟩
/-- max(x), x a list or a tuple of whole numbers -/
theorem cr_maxE {X : Cx} (hc : X.calm = true) : CallR X (.builtin "max") (fun xs H Q => ∃ (a : Addr) (ns : List Int), xs = [.ref a] ∧ SqE X.K H a (ns.map V.int) ∧ 0 < ns.length ∧ ∀ m, m ∈ ns → (∀ y, y ∈ ns → y ≤ m) → Q (.int m) H) :=
  CallR.imp (cr_or (cr_max hc) (cr_maxT hc)) fun xs H Q h => by
    obtain ⟨a, ns, e, h, n, q⟩ := h
    rcases h with h | h
    · exact .inl ⟨a, ns, e, h, n, q⟩
    · exact .inr ⟨a, ns, e, h, n, q⟩
end L2

set_option linter.all false
set_option maxRecDepth 100000
/-! canonical words: numbers of sums of widths; no word begins another one -/
namespace KR
/-- the last k bits of a number, as signs -/
def bitsL : Nat → Nat → List Nat
  | 0, _ => []
  | k + 1, n => bitsL k (n / 2) ++ [48 + n % 2]
theorem bits_len : ∀ (k n : Nat), (bitsL k n).length = k
  | 0, _ => rfl
  | k + 1, n => by simp [bitsL, bits_len k]
theorem bits_01 : ∀ (k n : Nat), ∀ c ∈ bitsL k n, c = 48 ∨ c = 49
  | 0, _, c, h => by cases h
  | k + 1, n, c, h => by
    simp only [bitsL, List.mem_append, List.mem_singleton] at h
    rcases h with h | h
    · exact bits_01 k _ c h
    · have := Nat.mod_two_eq_zero_or_one n
      omega
theorem bits_add : ∀ (b a n : Nat), bitsL (a + b) n = bitsL a (n / 2 ^ b) ++ bitsL b n
  | 0, a, n => by simp [bitsL]
  | b + 1, a, n => by
    show bitsL (a + b) (n / 2) ++ [48 + n % 2] = _
    rw [bits_add b a (n / 2), Nat.div_div_eq_div_mul, Nat.pow_succ, Nat.mul_comm 2 (2 ^ b), List.append_assoc]
    rfl
theorem bits_inj : ∀ (k n m : Nat), bitsL k n = bitsL k m → n % 2 ^ k = m % 2 ^ k
  | 0, n, m, _ => by simp [Nat.mod_one]
  | k + 1, n, m, h => by
    have h1 := List.append_inj h (by rw [bits_len, bits_len])
    have e1 := bits_inj k _ _ h1.1
    have e2 : 48 + n % 2 = 48 + m % 2 := by simpa using h1.2
    have e3 : n % 2 = m % 2 := by omega
    rw [Nat.pow_succ, Nat.mul_comm, Nat.mod_mul, Nat.mod_mul, e1, e3]
theorem bits_zero : ∀ k, bitsL k 0 = List.replicate k 48
  | 0 => rfl
  | k + 1 => by
    show bitsL k (0 / 2) ++ [48] = _
    rw [show (0 : Nat) / 2 = 0 from rfl, bits_zero k, ← List.replicate_succ']
/-! ### pairs (length, sign) and their order -/
abbrev Pr := Nat × Nat
def ltB (q p : Pr) : Bool := decide (q.1 < p.1 ∨ (q.1 = p.1 ∧ q.2 < p.2))
theorem ltB_iff {q p : Pr} : ltB q p = true ↔ (q.1 < p.1 ∨ (q.1 = p.1 ∧ q.2 < p.2)) := by unfold ltB; simp
theorem ltB_irr (p : Pr) : ltB p p = false := by
  cases h : ltB p p with
  | false => rfl
  | true => have := ltB_iff.mp h; omega
theorem ltB_trans {a b c : Pr} (h : ltB a b = true) (k : ltB b c = true) : ltB a c = true := by
  rw [ltB_iff] at *; omega
theorem ltB_tri {a b : Pr} (h : a ≠ b) : ltB a b = true ∨ ltB b a = true := by
  rw [ltB_iff, ltB_iff]
  by_cases c : a.1 = b.1
  · have : a.2 ≠ b.2 := fun e => h (Prod.ext c e)
    omega
  · omega
def sumF (P : List Pr) (c : Pr → Bool) (f : Pr → Nat) : Nat := ((P.filter c).map f).sum
theorem sumF_le {P : List Pr} {c d : Pr → Bool} {f : Pr → Nat} (h : ∀ r, c r = true → d r = true) : sumF P c f ≤ sumF P d f := by
  induction P with
  | nil => exact Nat.le_refl _
  | cons r P ih =>
    unfold sumF at *
    simp only [List.filter_cons]
    cases hc : c r with
    | true => rw [h r hc]; simp only [if_true, List.map_cons, List.sum_cons]; omega
    | false =>
      cases hd : d r with
      | true => simp only [Bool.false_eq_true, if_false, if_true, List.map_cons, List.sum_cons]; omega
      | false => simpa using ih
theorem sumF_add {P : List Pr} {c d : Pr → Bool} {f : Pr → Nat} {q : Pr} (hq : q ∈ P) (h : ∀ r, c r = true → d r = true) (hd : d q = true) (hc : c q = false) : sumF P c f + f q ≤ sumF P d f := by
  induction P with
  | nil => cases hq
  | cons r P ih =>
    by_cases e : q = r
    · subst e
      have := sumF_le (P := P) (f := f) h
      unfold sumF at *
      simp only [List.filter_cons, hc, hd, Bool.false_eq_true, if_false, if_true, List.map_cons, List.sum_cons]
      omega
    · have ih := ih ((List.mem_cons.mp hq).resolve_left e)
      unfold sumF at *
      simp only [List.filter_cons]
      cases hc' : c r with
      | true => rw [h r hc']; simp only [if_true, List.map_cons, List.sum_cons]; omega
      | false =>
        cases hd' : d r with
        | true => simp only [Bool.false_eq_true, if_false, if_true, List.map_cons, List.sum_cons]; omega
        | false => simpa using ih
/-- the number of a pair's word -/
def num (P : List Pr) (p : Pr) : Nat := sumF P (fun q => ltB q p) fun q => 2 ^ (p.1 - q.1)
theorem sumF_scale (P : List Pr) (c : Pr → Bool) (f g : Pr → Nat) (m : Nat) (h : ∀ r ∈ P, c r = true → f r * m = g r) : sumF P c f * m = sumF P c g := by
  induction P with
  | nil => unfold sumF; simp
  | cons r P ih =>
    have ih := ih fun r hr => h r (List.mem_cons_of_mem _ hr)
    unfold sumF at *
    simp only [List.filter_cons]
    cases hc : c r with
    | true =>
      simp only [if_true, List.map_cons, List.sum_cons]
      rw [Nat.add_mul, ih, h r (List.mem_cons_self ..) hc]
    | false => simpa using ih
theorem pow_split {a b c : Nat} (h1 : a ≤ b) (h2 : b ≤ c) : 2 ^ (b - a) * 2 ^ (c - b) = 2 ^ (c - a) := by
  rw [← Nat.pow_add]; congr 1; omega
/-- the widths together -/
def Kr (P : List Pr) : Prop := (P.map fun q => 2 ^ (25 - q.1)).sum = 2 ^ 25 ∧ ∀ q ∈ P, 1 ≤ q.1 ∧ q.1 ≤ 25
theorem sumF_all (P : List Pr) (f : Pr → Nat) : sumF P (fun _ => true) f = (P.map f).sum := by
  unfold sumF
  congr 2
  exact List.filter_eq_self.mpr fun _ _ => rfl
theorem num_lt {P : List Pr} (K : Kr P) {p : Pr} (hp : p ∈ P) : num P p < 2 ^ p.1 := by
  have l := (K.2 p hp).2
  have h1 : num P p * 2 ^ (25 - p.1) = sumF P (fun q => ltB q p) fun q => 2 ^ (25 - q.1) :=
    sumF_scale _ _ _ _ _ fun r hr c => by
      have := ltB_iff.mp c
      exact pow_split (by omega) l
  have h2 : (sumF P (fun q => ltB q p) fun q => 2 ^ (25 - q.1)) + 2 ^ (25 - p.1) ≤ sumF P (fun _ => true) fun q => 2 ^ (25 - q.1) :=
    sumF_add (f := fun q => 2 ^ (25 - q.1)) hp (fun _ _ => rfl) rfl (ltB_irr p)
  rw [sumF_all, K.1, ← h1] at h2
  have h3 : 2 ^ p.1 * 2 ^ (25 - p.1) = 2 ^ 25 := by rw [← Nat.pow_add]; congr 1; omega
  rw [← h3, ← Nat.succ_mul] at h2
  exact Nat.lt_of_succ_le (Nat.le_of_mul_le_mul_right h2 (Nat.pow_pos (by decide)))
theorem num_gap {P : List Pr} {p q : Pr} (hq : q ∈ P) (h : ltB q p = true) : (num P q + 1) * 2 ^ (p.1 - q.1) ≤ num P p := by
  have hle : q.1 ≤ p.1 := by have := ltB_iff.mp h; omega
  have h1 : num P q * 2 ^ (p.1 - q.1) = sumF P (fun r => ltB r q) fun r => 2 ^ (p.1 - r.1) :=
    sumF_scale _ _ _ _ _ fun r hr c => by
      have := ltB_iff.mp c
      exact pow_split (by omega) hle
  rw [Nat.succ_mul, h1]
  exact sumF_add (f := fun r => 2 ^ (p.1 - r.1)) hq (fun r c => ltB_trans c h) h (ltB_irr q)
theorem num_apart {P : List Pr} {p q : Pr} (hp : p ∈ P) (hq : q ∈ P) (hne : p ≠ q) (hle : q.1 ≤ p.1) : num P p / 2 ^ (p.1 - q.1) ≠ num P q := by
  intro e
  rcases ltB_tri hne with h | h
  · have hl := ltB_iff.mp h
    have e1 : p.1 = q.1 := by omega
    have g := num_gap hp h
    rw [e1, Nat.sub_self, Nat.pow_zero, Nat.div_one] at e
    rw [e1, Nat.sub_self, Nat.pow_zero, Nat.mul_one] at g
    omega
  · have g := num_gap hq h
    have := (Nat.le_div_iff_mul_le (Nat.pow_pos (by decide : 0 < 2))).mpr g
    omega
/-- a pair's word -/
def word (P : List Pr) (p : Pr) : List Nat := bitsL p.1 (num P p)
theorem word_len (P : List Pr) (p : Pr) : (word P p).length = p.1 := bits_len _ _
theorem word_free {P : List Pr} (K : Kr P) {p q : Pr} (hp : p ∈ P) (hq : q ∈ P) (h : word P q <+: word P p) : p = q := by
  refine Classical.byContradiction fun hne => ?_
  have hle : q.1 ≤ p.1 := by
    have := h.length_le
    rw [word_len, word_len] at this; exact this
  obtain ⟨b, hb⟩ : ∃ b, p.1 = q.1 + b := ⟨p.1 - q.1, by omega⟩
  have e := List.prefix_iff_eq_take.mp h
  rw [word_len] at e
  unfold word at e
  rw [hb, bits_add, List.take_append_of_le_length (by rw [bits_len]; exact Nat.le_refl _), List.take_of_length_le (by rw [bits_len]; exact Nat.le_refl _)] at e
  have e2 := bits_inj _ _ _ e
  rw [Nat.mod_eq_of_lt (num_lt K hq), Nat.mod_eq_of_lt] at e2
  · refine num_apart hp hq hne hle ?_
    rw [show p.1 - q.1 = b by omega]
    exact e2.symm
  · refine Nat.div_lt_of_lt_mul ?_
    have := num_lt K hp
    rw [hb, Nat.pow_add, Nat.mul_comm] at this
    exact this
/-! ### the other bits -/
def flip (c : Nat) : Nat := 97 - c
theorem flip_flip {c : Nat} (h : c = 48 ∨ c = 49) : flip (flip c) = c := by unfold flip; omega
def turned (w : List Nat) : List Nat := w.map flip
theorem turned_turned {w : List Nat} (h : ∀ c ∈ w, c = 48 ∨ c = 49) : turned (turned w) = w := by
  unfold turned
  rw [List.map_map]
  conv => rhs; rw [← List.map_id w]
  exact List.map_congr_left fun c hc => flip_flip (h c hc)
theorem turned_01 {w : List Nat} (h : ∀ c ∈ w, c = 48 ∨ c = 49) : ∀ c ∈ turned w, c = 48 ∨ c = 49 := fun c hc => by
  obtain ⟨d, hd, rfl⟩ := List.mem_map.mp hc
  have := h d hd
  unfold flip; omega
theorem turned_free {P : List Pr} (K : Kr P) {p q : Pr} (hp : p ∈ P) (hq : q ∈ P) (h : turned (word P q) <+: turned (word P p)) : p = q := by
  refine word_free K hp hq ?_
  have := h.map flip
  rw [show (turned (word P q)).map flip = turned (turned (word P q)) from rfl, show (turned (word P p)).map flip = turned (turned (word P p)) from rfl,
    turned_turned (w := word P q) (bits_01 _ _), turned_turned (w := word P p) (bits_01 _ _)] at this
  exact this
/-! ### the counter -/
theorem num_perm {P S : List Pr} (h : S.Perm P) (p : Pr) : num S p = num P p := by
  unfold num sumF
  exact ((h.filter _).map _).sum_nat
theorem num_sorted {S A B : List Pr} {p : Pr} (h : S.Pairwise fun a b => ltB a b = true) (e : S = A ++ p :: B) : num S p = (A.map fun q => 2 ^ (p.1 - q.1)).sum := by
  subst e
  rw [List.pairwise_append] at h
  obtain ⟨_, h2, h3⟩ := h
  have h4 := (List.pairwise_cons.mp h2).1
  unfold num sumF
  congr 2
  rw [List.filter_append, List.filter_cons, ltB_irr, List.filter_eq_self.mpr fun a ha => h3 a ha p (List.mem_cons_self ..), List.filter_eq_nil_iff.mpr, if_neg (by simp), List.append_nil]
  intro b hb c
  have := ltB_iff.mp (h4 b hb)
  have := ltB_iff.mp c
  omega
def acc (A : List Pr) (l : Nat) : Nat := (A.map fun q => 2 ^ (l - q.1)).sum
theorem acc_shift {A : List Pr} {a l : Nat} (h : ∀ q ∈ A, q.1 ≤ a) (hl : a ≤ l) : acc A a * 2 ^ (l - a) = acc A l := by
  induction A with
  | nil => unfold acc; simp
  | cons q A ih =>
    have ih := ih fun r hr => h r (List.mem_cons_of_mem _ hr)
    unfold acc at *
    simp only [List.map_cons, List.sum_cons, Nat.add_mul]
    rw [ih, pow_split (h q (List.mem_cons_self ..)) hl]
theorem acc_snoc (A : List Pr) (p : Pr) : acc (A ++ [p]) p.1 = acc A p.1 + 1 := by
  unfold acc
  simp
end KR

set_option Elab.async false
set_option linter.all false
set_option maxRecDepth 100000
set_option maxHeartbeats 4000000
/-! f"{n:b}" -/
namespace PySem
open PySem.Spec PyProof.Rows Builtin
section
variable {prog : Program} {w : World} {A : Around} {E : Value → Shared → Prop} {s : Shared}
/-- the bits of a number -/
def binText (n : Nat) : Str := ⟨((Nat.toDigits 2 n).map Char.toNat).toArray⟩
theorem toDigits_ne (n : Nat) : Nat.toDigits 2 n ≠ [] := by
  intro h
  have := Nat.length_toDigits_pos (b := 2) (n := n)
  rw [h] at this
  exact absurd this (by decide)
theorem field_bin (n : Nat) : intField' { align := 62, type := some 98 } (decide (((n : Nat) : Int) < 0)) [] ((Nat.toDigits 2 ((n : Nat) : Int).natAbs).map fun c => (if (98 : Nat) == 88 then c.toUpper else c).toNat) [] 4 = binText n := by
  have hn : ¬ (((n : Nat) : Int) < 0) := by omega
  have hc : (fun c : Char => (if ((98 : Nat) == 88) = true then c.toUpper else c).toNat) = Char.toNat := by
    funext c; rfl
  rw [hc, decide_eq_false hn, Int.natAbs_natCast]
  have hd : ((Nat.toDigits 2 n).map Char.toNat).isEmpty = false := by
    cases h : Nat.toDigits 2 n with
    | nil => exact absurd h (toDigits_ne n)
    | cons _ _ => rfl
  unfold intField' binText
  simp [hd]
theorem fmt_bin {n : Nat} {t : Tok} {Q : Value → Shared → Prop} (hz : (binText n).length ≤ sizeLine) (h : ∀ tk u, Q (.str (binText n) u) { s with toks := tk }) :
    wpAny (model prog w) A (formatField (.int (n : Int) t) "b") Q E s := by
  show wpAny _ _ (holding [.int (n : Int) t] (pyFormat (.int (n : Int) t) "b")) Q E s
  refine wpAny_holding ?_
  unfold pyFormat
  refine wpAny_bind (wpAny_mkStr ?_ (by decide +kernel))
  refine wpAny_bind (m := callSpecial? (.int (n : Int) t) (Str.ofString "__format__") [.str "b" s.toks]) (wpAny_callSpecial?_slot (name := Str.ofString "__format__") (typeIs_int _ _ t) slot_int_format ?_)
  refine wpAny_call (codeAny_call_builtin slot_int_format.plain entry_int_format (slot_int_format.check _ _ _ _ _ _ _ _ (typeIs_int _ _ t) (args_int_format _ _) ?_))
  unfold Builtin.«int.__format__»
  simp only [selfAndOne, noKeywords, Int.intOfSelf, asInt?, asStr?, List.isEmpty_nil, if_true, pure_bind, bind_pure, bind_assoc, Bool.false_eq_true, if_false, show (Value.str "b" s.toks == Value.none) = false from rfl]
  refine wpAny_bind (wpAny_typeNameOf (T := "str") (typeIs_str _ _ _) (by decide) fun _ => ?_)
  rw [if_neg (by decide +kernel)]
  rw [if_neg (by decide +kernel)]
  first | refine wpAny_bind (wpAny_typeNameOfCut_int ?_) | refine wpAny_bind (wpAny_typeNameOf_int ?_)
  have hp : Builtin.Float.parseFormatSpec (Str.ofString "b").cps.toList "int" 62 = .ok { align := 62, type := some 98 } := by rfl
  rw [hp]
  dsimp only
  rw [if_pos (by decide +kernel)]
  conv => arg 3; whnf
  have hT : ∀ f : Nat → Str → Prop, f 0 (binText n) → f 0 (intField' { align := 62, type := some 98 } (decide (((n : Nat) : Int) < 0)) [] ((Nat.toDigits 2 ((n : Nat) : Int).natAbs).map fun c => (if (98 : Nat) == 88 then c.toUpper else c).toNat) [] 4) := fun f h => by rw [field_bin]; exact h
  generalize decide (((n : Nat) : Int) < 0) = neg at hT ⊢
  generalize Nat.toDigits 2 ((n : Nat) : Int).natAbs = ds at hT ⊢
  refine wpAny_bind (m := mkStr _) (wpAny_mkStr (wpAny_pure ?_) ?hs)
  case hs => exact hT (fun _ x => x.length ≤ sizeLine) hz
  dsimp only
  refine wpAny_bind (wpAny_isInstance (typeIs_str _ _ _) isSubtype_str_str (wpAny_pure ?_))
  exact hT (fun _ x => Q (.str x _) _) (h _ _)
end
end PySem
namespace L2
open PySem PySem.Spec PyProof.Rows
section
variable {X : Cx}
/-- {n:b} -/
def tFmtB (te : TE) : TE := fun σ H Q => te σ H fun x H1 => ∃ n : Nat, x = .int (n : Int) ∧ (binText n).length ≤ sizeLine ∧ Q (.str (binText n)) H1
theorem pe_fmtB {e : Expr} {te : TE} {k : Nat} {p1 p2 pos : Pos} (he : PE X e te) : PE X (.FormattedValue e (-1) (some (.JoinedStr [.Constant (.str "b") k p1] p2)) pos) (tFmtB te) := by
  refine ⟨fun pins s σ H Q I h => ?_⟩
  refine wpAny_FormattedValue_spec (thn (he.run pins s σ H _ I h) fun v s1 ⟨x, H1, I1, r1, n, ex, hz, q⟩ => ?_)
  subst ex
  obtain ⟨t, rfl⟩ := r1
  refine wpAny_JoinedStr_one (Calls.Constant_str ⟨"b", _, rfl, ?_⟩)
  exact fmt_bin hz fun tk u => ⟨.str (binText n), H1, I1.tok _, ⟨_, rfl⟩, q⟩
end
end L2

set_option Elab.async false
set_option linter.all false
set_option maxRecDepth 100000
set_option maxHeartbeats 4000000
/-! texts of bits: zfill of f"{n:b}", startswith, count, the three replaces -/
namespace KR
open PySem PySem.Spec PyProof.Rows Builtin Builtin.Str StrLaws L2
theorem core_bits : ∀ (fuel n k : Nat) (ds : List Char), 1 ≤ k → n < 2 ^ k → n < fuel → ∃ l, (Nat.toDigitsCore 2 fuel n ds).map Char.toNat = l ++ ds.map Char.toNat ∧ l.length ≤ k ∧ l ≠ [] ∧ bitsL k n = List.replicate (k - l.length) 48 ++ l
  | 0, n, k, ds, _, _, h => absurd h (Nat.not_lt_zero _)
  | fuel + 1, n, k, ds, hk, hn, hf => by
    obtain ⟨k, rfl⟩ : ∃ j, k = j + 1 := ⟨k - 1, by omega⟩
    have hd : (Nat.digitChar (n % 2)).toNat = 48 + n % 2 := by
      rcases Nat.mod_two_eq_zero_or_one n with e | e <;> rw [e] <;> rfl
    unfold Nat.toDigitsCore
    by_cases h0 : n / 2 = 0
    · refine ⟨[48 + n % 2], ?_, by simp, by simp, ?_⟩
      · simp only [h0, if_true, List.map_cons, hd]; rfl
      · show bitsL k (n / 2) ++ _ = _
        rw [h0, bits_zero]; rfl
    · simp only [h0, if_false]
      have hk2 : 1 ≤ k := by
        rcases Nat.eq_zero_or_pos k with e | e
        · subst e; exfalso; apply h0; omega
        · exact e
      have hn' : n / 2 < 2 ^ k := by rw [Nat.pow_succ] at hn; omega
      obtain ⟨l, e, hl, hne, eb⟩ := core_bits fuel (n / 2) k (Nat.digitChar (n % 2) :: ds) hk2 hn' (by omega)
      refine ⟨l ++ [48 + n % 2], ?_, by simp; omega, by simp, ?_⟩
      · rw [e, List.map_cons, hd]; simp
      · show bitsL k (n / 2) ++ _ = _
        rw [eb, List.length_append, List.append_assoc]
        congr 2
        simp
theorem bin_bits {n k : Nat} (hk : 1 ≤ k) (hn : n < 2 ^ k) : ∃ l, (binText n).cps.toList = l ∧ l.length ≤ k ∧ l ≠ [] ∧ bitsL k n = List.replicate (k - l.length) 48 ++ l := by
  obtain ⟨l, e, h⟩ := core_bits (n + 1) n k [] hk hn (Nat.lt_succ_self _)
  refine ⟨l, ?_, h⟩
  show ((Nat.toDigits 2 n).map Char.toNat).toArray.toList = l
  rw [show Nat.toDigits 2 n = Nat.toDigitsCore 2 (n + 1) n [] from rfl, e]
  simp
/-- a text of its signs -/
def txt (l : List Nat) : Str := ⟨l.toArray⟩
theorem txt_of {x : Str} {l : List Nat} (h : x.cps.toList = l) : x = txt l := by
  cases x with
  | mk a => subst h; simp [txt]
theorem txt_inj {a b : List Nat} (h : txt a = txt b) : a = b := by
  unfold txt at h
  injection h with h
  simpa using congrArg Array.toList h
theorem txt_len (l : List Nat) : (txt l).length = l.length := by simp [txt, Str.length]
theorem bin_len {n k : Nat} (hk : 1 ≤ k) (hn : n < 2 ^ k) : (binText n).length ≤ k := by
  obtain ⟨l, e, h, _⟩ := bin_bits hk hn
  rw [txt_of e, txt_len]; exact h
theorem zfill_bin {n k : Nat} (hk : 1 ≤ k) (hn : n < 2 ^ k) : Txt.zfill (binText n) (k : Int) = txt (bitsL k n) := by
  obtain ⟨l, e, hl, hne, eb⟩ := bin_bits hk hn
  have e1 := txt_of e
  rw [e1]
  unfold Txt.zfill
  rw [txt_len]
  by_cases c : (k : Int) ≤ (l.length : Int)
  · rw [if_pos c, eb, show k - l.length = 0 by omega]; rfl
  · rw [if_neg c, eb, Int.toNat_natCast]
    cases l with
    | nil => exact absurd rfl hne
    | cons a r =>
      have ha : a = 48 ∨ a = 49 := bits_01 k n a (by rw [eb]; simp)
      have hz : ∀ m, zfilled (txt (a :: r)) m = padded (txt (a :: r)) m 0 48 := fun m => by
        unfold zfilled
        have : (txt (a :: r)).cps[0]? = some a := by simp [txt]
        rw [this]
        rcases ha with rfl | rfl <;> rfl
      rw [hz]
      refine txt_of ?_
      simp [padded, txt]
theorem sw_iff {a b : List Nat} : Txt.startswith (txt a) (txt b) = true ↔ b <+: a := by
  unfold Txt.startswith Builtin.Str.subAt
  rw [Bool.and_eq_true, decide_eq_true_eq, Nat.zero_add, txt_len, txt_len]
  have e : ((txt a).cps.extract 0 b.length == (txt b).cps) = true ↔ a.take b.length = b := by
    rw [beq_iff_eq]
    constructor
    · intro h
      have := congrArg Array.toList h
      simpa [txt] using this
    · intro h
      apply Array.toList_inj.mp
      simpa [txt] using h
  rw [e, List.prefix_iff_eq_take]
  constructor
  · rintro ⟨_, h⟩; exact h.symm
  · intro h
    refine ⟨?_, h.symm⟩
    have := congrArg List.length h
    rw [List.length_take] at this
    omega
theorem count_bits {l : List Nat} (h : ∀ c ∈ l, c = 48 ∨ c = 49) : Txt.count (txt l) ⟨#[48]⟩ + Txt.count (txt l) ⟨#[49]⟩ = (l.length : Int) := by
  rw [count_cnt, count_cnt]
  show cnt 48 l.toArray.toList + cnt 49 l.toArray.toList = _
  rw [show l.toArray.toList = l by simp]
  induction l with
  | nil => rfl
  | cons a r ih =>
    have ih := ih fun c hc => h c (List.mem_cons_of_mem _ hc)
    rw [cnt_cons, cnt_cons, List.length_cons]
    rcases h a (List.mem_cons_self ..) with rfl | rfl
    · rw [if_pos rfl, if_neg (by decide)]; omega
    · rw [if_neg (by decide), if_pos rfl]; omega
theorem repl1 (c d : Nat) : ∀ l : List Nat, replL [c] [d] l = l.map fun x => if x = c then d else x
  | [] => replL_nil
  | a :: r => by
    by_cases e : a = c
    · subst e
      rw [replL_hit (by simp) (by simp)]
      simp [repl1 a d r]
    · rw [replL_miss (by simp [e])]
      simp [e, repl1 c d r]
theorem repl_txt (c d : Nat) (l : List Nat) : Txt.replace (txt l) ⟨#[c]⟩ ⟨#[d]⟩ = txt (l.map fun x => if x = c then d else x) := by
  refine txt_of ?_
  rw [replace_list (by simp [Str.length])]
  show replL [c] [d] l.toArray.toList = _
  rw [show l.toArray.toList = l by simp, repl1]
theorem turn_txt {l : List Nat} (h : ∀ c ∈ l, c = 48 ∨ c = 49) : Txt.replace (Txt.replace (Txt.replace (txt l) ⟨#[48]⟩ ⟨#[50]⟩) ⟨#[49]⟩ ⟨#[48]⟩) ⟨#[50]⟩ ⟨#[49]⟩ = txt (turned l) := by
  rw [repl_txt, repl_txt, repl_txt, List.map_map, List.map_map]
  congr 1
  refine List.map_congr_left fun c hc => ?_
  rcases h c hc with rfl | rfl <;> rfl
end KR

set_option Elab.async false
set_option linter.all false
set_option maxRecDepth 100000
set_option maxHeartbeats 4000000
/-! text * int; text[::-1]; xs != [] -/
namespace XV
open PySem PySem.Spec PyProof.Rows L2
section
variable {X : Cx}
theorem op_repS : OpR X (binaryOp .Mult) (fun x y H Q => ∃ (z : Str) (n : Int), x = .str z ∧ y = .int n ∧ z.length = 1 ∧ 0 ≤ n ∧ n ≤ 100 ∧ ∀ r : Str, r.length = n.toNat → Q (.str r) H) := by
  intro pins s σ H x y v u Q I rx ry h
  obtain ⟨z, n, rfl, rfl, hz, h0, h1, q⟩ := h
  obtain ⟨t, rfl⟩ := rx
  obtain ⟨t', rfl⟩ := ry
  have hok : MulOk z n := by
    refine ⟨?_, fun _ _ => ?_, fun _ _ => ?_⟩
    · rw [decide_eq_false (by omega), decide_eq_false (by omega)]; rfl
    · rw [hz]
      have : (2 ^ 63 - 1 : Int) / n ≥ 1 := by
        have hn : 0 < n := by omega
        exact (Int.le_ediv_iff_mul_le hn).mpr (by omega)
      omega
    · rw [hz, Nat.one_mul]
      unfold PySem.Builtin.Str.tooLong
      rw [decide_eq_false]
      have : n.toNat ≤ 100 := by omega
      exact fun z => absurd (Nat.lt_of_lt_of_le z this) (by decide)
  have hl : (Txt.mul z n).length = n.toNat := by
    have := PyProof.Rows.len_mul z n
    rw [hz, decide_eq_false (by omega)] at this
    simp at this
    omega
  exact SB.mul hok fun t2 k => ⟨.str _, H, I.tok _, ⟨_, rfl⟩, q _ hl⟩
theorem op_neE (hu : X.A.units + 64 < cLine) : OpR X (compareOp .NotEq) (fun x y H Q => ∃ (a b : Addr) (xs : List V), x = .ref a ∧ y = .ref b ∧ H a = some (.lst xs) ∧ H b = some (.lst []) ∧ Q (.bl (!decide (xs.length = 0))) H) := by
  intro pins s σ H x y v u Q I rx ry h
  obtain ⟨a, b, xs, rfl, rfl, ha, hb, q⟩ := h
  cases rx
  cases ry
  obtain ⟨its, r, pl, hz⟩ := I.list (SqL.of ha)
  obtain ⟨its2, r2, pl2, hz2⟩ := I.list (SqL.of hb)
  have e2 : its2 = [] := by cases r2; rfl
  subst e2
  have hl := r.length
  by_cases c : xs.length = 0
  · rw [decide_eq_true c] at q
    have e1 : its = [] := List.eq_nil_of_length_eq_zero (by omega)
    subst e1
    refine SeqAt.RcNeAt.lists (e := fun _ => true) pl.isList pl2.isList rfl (by omega) (fun j h1 => absurd h1 (Nat.not_lt_zero _)) _ _ _ _ ⟨.bl _, H, I, rfl, ?_⟩
    exact q
  · rw [decide_eq_false c] at q
    refine SeqAt.RcNeAt.lists_lengths pl.isList pl2.isList (by simp; intro z; rw [z] at hl; exact c (hl.trans rfl)) (by omega) _ _ _ _ ⟨.bl _, H, I, rfl, ?_⟩
    exact q
def tRevS (te : TE) : TE := fun σ H Q => te σ H fun x H1 => ∃ z : Str, x = .str z ∧ z.length ≤ sizeLine ∧ ∀ r : Str, r.length ≤ z.length → Q (.str r) H1
theorem pe_revS {e : Expr} {te : TE} {k : Nat} {p1 p2 p3 pos : Pos} (he : PE X e te) : PE X (.Subscript e (.Slice none none (some (.UnaryOp .USub (.Constant (.int 1) k p1) p2)) p3) pos) (tRevS te) := by
  refine ⟨fun pins s σ H Q I h => ?_⟩
  refine Subscript_ (thn (he.run pins s σ H _ I h) fun v s1 ⟨x, H1, I1, r1, q1⟩ => ?_)
  obtain ⟨z, ex, hz, q⟩ := q1
  subst ex
  obtain ⟨t, rfl⟩ := r1
  have hst : PO X (some (.UnaryOp .USub (.Constant (.int 1) k p1) p2)) (tPart (tUn (rU fun i => .int (-i)) (tC (.int 1)))) := po_some (pe_un un_neg pe_int)
  refine wpAny_Slice (thn (po_none.run pins s1 σ H1 (fun o H2 => o = none ∧ H2 = H1) I1 ⟨rfl, rfl⟩) fun vl s2 ⟨l, H2, I2, pl, el, e2⟩ => ?_)
  subst el e2
  refine thn (po_none.run pins s2 σ H2 (fun o H3 => o = none ∧ H3 = H2) I2 ⟨rfl, rfl⟩) fun vu s3 ⟨u, H3, I3, pu, eu, e3⟩ => ?_
  subst eu e3
  refine thn (hst.run pins s3 σ H3 (fun o H4 => o = some (-1) ∧ H4 = H3) I3 ⟨1, rfl, -1, rfl, rfl, rfl⟩) fun vs s4 ⟨o, H4, I4, ps, eo, e4⟩ => ?_
  subst eo e4
  have I5 : Inv X pins σ H4 { s4 with heap := s4.heap.push { cls := .type "slice", data := .fields #[vl, vu, vs] } } := I4.kept (t' := s4.toks) fun b ob q => Heap.get?_push_of_some _ q
  obtain ⟨uk, hvs⟩ : ∃ uk, vs = .int (-1) uk := by cases ps; exact ⟨_, rfl⟩
  have hvl : vl = .none := by cases pl; rfl
  have hvu : vu = .none := by cases pu; rfl
  subst hvl hvu hvs
  refine tail_any (ops := [.ref s4.heap.objs.size, .str z t]) (typeIs_str _ _ _) F.slot_str_getitem.lookup ?_ (by with_unfolding_all rfl)
  refine wpAny_getItem_str_slice (l := none) (u := none) (st := some (-1, uk)) ⟨_, Heap.get?_push_size _ rfl, rfl, rfl⟩ rfl (post_val_or_str ⟨Nat.le_trans (Txt.sliceBy_le z _ _ (-1, uk) (by show (-1 : Int) ≠ 0; decide)) hz, fun t' c => ⟨.str _, H4, I5.tok _, ⟨_, rfl⟩, q _ (Txt.sliceBy_le z _ _ (-1, uk) (by show (-1 : Int) ≠ 0; decide))⟩⟩)
end
end XV

set_option Elab.async false
set_option linter.all false
set_option maxRecDepth 100000
set_option maxHeartbeats 4000000
/-! values without a heap, and readings told by them -/
namespace PL
open PySem L2
inductive PV where
  | non | bl (b : Bool) | int (i : Int) | str (x : Str) | raw (v : V) | tup (xs : List PV) | lst (xs : List PV)
  | dK (ks : List Key) (xs : List PV) | dT (ks : List (List Key)) (xs : List PV) | ins (C : Addr) (fs : List Str) (xs : List PV)
/-- what stands still -/
abbrev Fz := Addr → HO → Prop
def isD : HO → Prop
  | .dK _ => True
  | .dT _ => True
  | _ => False
def nf : HO → Prop
  | .frz _ _ => False
  | _ => True
/-- it is o; a dict may be locked -/
def At (H : Hp) (a : Addr) (o : HO) : Prop := (H a = some o ∧ nf o) ∨ (isD o ∧ ∃ od, H a = some (.frz od o))
theorem At.of {H : Hp} {a : Addr} {o : HO} (h : H a = some o) (n : nf o := by trivial) : At H a o := .inl ⟨h, n⟩
theorem At.some {H : Hp} {a : Addr} {o : HO} (h : At H a o) : ∃ u, H a = .some u := h.elim (fun h => ⟨_, h.1⟩) fun ⟨_, _, h⟩ => ⟨_, h⟩
theorem At.same {H H' : Hp} {a : Addr} {o : HO} (h : At H a o) (s : Same H H') : At H' a o := h.elim (fun h => .inl ⟨s _ _ h.1, h.2⟩) fun ⟨d, od, h⟩ => .inr ⟨d, od, s _ _ h⟩
theorem At.ne {H : Hp} {a b : Addr} {o u : HO} (h : At H a o) (n : a ≠ b) : At (upd H b u) a o := h.elim (fun h => .inl ⟨by rw [upd_ne n]; exact h.1, h.2⟩) fun ⟨d, od, h⟩ => .inr ⟨d, od, by rw [upd_ne n]; exact h⟩
theorem At.lst {H : Hp} {a : Addr} {xs : List V} (h : At H a (.lst xs)) : H a = Option.some (.lst xs) := h.elim And.left fun h => h.1.elim
theorem At.tup {H : Hp} {a : Addr} {xs : List V} (h : At H a (.tup xs)) : H a = Option.some (.tup xs) := h.elim And.left fun h => h.1.elim
theorem At.ins {H : Hp} {a C dx : Addr} {xs : List (Str × V)} (h : At H a (.ins C dx xs)) : H a = Option.some (.ins C dx xs) := h.elim And.left fun h => h.1.elim
theorem At.rd {H : Hp} {a : Addr} {o : HO} (h : At H a o) : Rd H a o := h.elim (fun h => .inl h.1) fun ⟨_, od, h⟩ => .inr ⟨od, h⟩
theorem At.none {H : Hp} {a : Addr} {o : HO} (h : At H a o) (n : H a = .none) : False := by obtain ⟨u, e⟩ := h.some; rw [n] at e; cases e
def fz (O : Addr → Prop) (H : Hp) : Fz := fun a o => ¬ O a ∧ At H a o
def fzr (O : Addr → Prop) (H : Hp) : Fz := fun a o => ¬ O a ∧ H a = some o
/-- no tuple, and nothing that is told by its object alone -/
def nt : HO → Prop
  | .tup _ => False
  | .ext _ => False
  | _ => True
def Le (F G : Fz) : Prop := ∀ a o, F a o → G a o
theorem Le.refl (F : Fz) : Le F F := fun _ _ h => h
theorem Le.fz {O O' : Addr → Prop} {H H' : Hp} (h : Le (fzr O H) (fzr O' H')) : Le (fz O H) (PL.fz O' H') := fun a o ⟨n, e⟩ => e.elim (fun e => let ⟨x, y⟩ := h a o ⟨n, e.1⟩; ⟨x, .inl ⟨y, e.2⟩⟩) fun ⟨d, od, e⟩ => let ⟨x, y⟩ := h a _ ⟨n, e⟩; ⟨x, .inr ⟨d, od, y⟩⟩
theorem Le.trans {F G J : Fz} (h : Le F G) (k : Le G J) : Le F J := fun a o e => k a o (h a o e)
mutual
def Rep (F : Fz) : PV → V → Prop
  | .non, v => v = .non
  | .bl b, v => v = .bl b
  | .int i, v => v = .int i
  | .str x, v => v = .str x
  | .raw u, v => v = u
  | .tup xs, v => ∃ a vs, v = .ref a ∧ F a (.tup vs) ∧ Reps F xs vs
  | .lst xs, v => ∃ a vs, v = .ref a ∧ F a (.lst vs) ∧ Reps F xs vs
  | .dK ks xs, v => ∃ a vs, v = .ref a ∧ F a (.dK (ks.zip vs)) ∧ ks.length = vs.length ∧ Reps F xs vs
  | .dT ks xs, v => ∃ a vs, v = .ref a ∧ F a (.dT (ks.zip vs)) ∧ ks.length = vs.length ∧ Reps F xs vs
  | .ins C fs xs, v => ∃ a dx vs, v = .ref a ∧ F a (.ins C dx (fs.zip vs)) ∧ fs.length = vs.length ∧ Reps F xs vs
def Reps (F : Fz) : List PV → List V → Prop
  | [], [] => True
  | x :: xs, v :: vs => Rep F x v ∧ Reps F xs vs
  | [], _ :: _ => False
  | _ :: _, [] => False
end
mutual
theorem Rep.mono {F G : Fz} (h : Le F G) : ∀ (x : PV) (v : V), Rep F x v → Rep G x v
  | .non, v, r => r
  | .bl b, v, r => r
  | .int i, v, r => r
  | .str x, v, r => r
  | .raw u, v, r => r
  | .tup xs, v, r => let ⟨a, vs, e, f, q⟩ := r; ⟨a, vs, e, h _ _ f, Reps.mono h xs vs q⟩
  | .lst xs, v, r => let ⟨a, vs, e, f, q⟩ := r; ⟨a, vs, e, h _ _ f, Reps.mono h xs vs q⟩
  | .dK ks xs, v, r => let ⟨a, vs, e, f, l, q⟩ := r; ⟨a, vs, e, h _ _ f, l, Reps.mono h xs vs q⟩
  | .dT ks xs, v, r => let ⟨a, vs, e, f, l, q⟩ := r; ⟨a, vs, e, h _ _ f, l, Reps.mono h xs vs q⟩
  | .ins C fs xs, v, r => let ⟨a, dx, vs, e, f, l, q⟩ := r; ⟨a, dx, vs, e, h _ _ f, l, Reps.mono h xs vs q⟩
theorem Reps.mono {F G : Fz} (h : Le F G) : ∀ (xs : List PV) (vs : List V), Reps F xs vs → Reps G xs vs
  | [], [], _ => trivial
  | x :: xs, v :: vs, r => ⟨Rep.mono h x v r.1, Reps.mono h xs vs r.2⟩
  | [], _ :: _, r => r
  | _ :: _, [], r => r
end
theorem Reps.length {F : Fz} : ∀ {xs : List PV} {vs : List V}, Reps F xs vs → xs.length = vs.length
  | [], [], _ => rfl
  | x :: xs, v :: vs, r => by simp [Reps.length r.2]
theorem Reps.get {F : Fz} : ∀ {xs : List PV} {vs : List V} {i : Nat} {x : PV}, Reps F xs vs → xs[i]? = some x → ∃ v, vs[i]? = some v ∧ Rep F x v
  | [], [], _, _, _, e => by simp at e
  | x :: xs, v :: vs, 0, y, r, e => by
    simp at e; subst e; exact ⟨v, by simp, r.1⟩
  | x :: xs, v :: vs, i + 1, y, r, e => by
    obtain ⟨w, h1, h2⟩ := Reps.get (i := i) r.2 (by simpa using e)
    exact ⟨w, by simpa using h1, h2⟩
theorem Reps.geti {F : Fz} {xs : List PV} {vs : List V} {i : Nat} {v : V} (r : Reps F xs vs) (e : vs[i]? = some v) : ∃ x, xs[i]? = some x ∧ Rep F x v := by
  obtain ⟨hi, _⟩ := List.getElem?_eq_some_iff.mp e
  have hx : i < xs.length := by rw [r.length]; exact hi
  obtain ⟨w, h1, h2⟩ := r.get (List.getElem?_eq_getElem hx)
  rw [e] at h1; cases h1
  exact ⟨_, List.getElem?_eq_getElem hx, h2⟩
theorem Reps.append {F : Fz} : ∀ {xs ys : List PV} {vs ws : List V}, Reps F xs vs → Reps F ys ws → Reps F (xs ++ ys) (vs ++ ws)
  | [], _, [], _, _, s => s
  | x :: xs, _, v :: vs, _, r, s => ⟨r.1, Reps.append r.2 s⟩
theorem Reps.take {F : Fz} : ∀ {xs : List PV} {vs : List V} (n : Nat), Reps F xs vs → Reps F (xs.take n) (vs.take n)
  | _, _, 0, _ => by simp [Reps]
  | [], [], n + 1, _ => trivial
  | x :: xs, v :: vs, n + 1, r => ⟨r.1, Reps.take n r.2⟩
theorem Reps.drop {F : Fz} : ∀ {xs : List PV} {vs : List V} (n : Nat), Reps F xs vs → Reps F (xs.drop n) (vs.drop n)
  | _, _, 0, r => r
  | [], [], n + 1, _ => trivial
  | x :: xs, v :: vs, n + 1, r => Reps.drop n r.2
theorem Reps.set {F : Fz} {y : PV} {w : V} (q : Rep F y w) : ∀ {xs : List PV} {vs : List V} (n : Nat), Reps F xs vs → Reps F (xs.set n y) (vs.set n w)
  | [], [], _, _ => trivial
  | x :: xs, v :: vs, 0, r => ⟨q, r.2⟩
  | x :: xs, v :: vs, n + 1, r => ⟨r.1, Reps.set q n r.2⟩
theorem Reps.replicate {F : Fz} {y : PV} {w : V} (q : Rep F y w) : ∀ n, Reps F (List.replicate n y) (List.replicate n w)
  | 0 => trivial
  | n + 1 => ⟨q, Reps.replicate q n⟩
theorem Reps.ints {F : Fz} : ∀ {ns : List Int} {vs : List V}, Reps F (ns.map PV.int) vs → vs = ns.map V.int
  | [], [], _ => rfl
  | n :: ns, v :: vs, r => by rw [List.map_cons, ← Reps.ints r.2, show v = V.int n from r.1]
theorem Reps.bls {F : Fz} : ∀ {ns : List Bool} {vs : List V}, Reps F (ns.map PV.bl) vs → vs = ns.map V.bl
  | [], [], _ => rfl
  | n :: ns, v :: vs, r => by rw [List.map_cons, ← Reps.bls r.2, show v = V.bl n from r.1]
theorem Reps.strs {F : Fz} : ∀ {ns : List Str} {vs : List V}, Reps F (ns.map PV.str) vs → vs = ns.map V.str
  | [], [], _ => rfl
  | n :: ns, v :: vs, r => by rw [List.map_cons, ← Reps.strs r.2, show v = V.str n from r.1]
/-- what a slot holds: a value that stands still, or a list, a dict that this slot alone knows -/
inductive SV where
  | fr (x : PV) | ol (xs : List PV) | oK (ks : List Key) (xs : List PV) | oT (ks : List (List Key)) (xs : List PV)
def SV.own : SV → Bool
  | .fr _ => false
  | _ => true
/-- its value -/
def SV.pv : SV → PV
  | .fr x => x
  | .ol xs => .lst xs
  | .oK ks xs => .dK ks xs
  | .oT ks xs => .dT ks xs
abbrev PEnv := List (Option SV)
/-- the def's entry, what others may change in the meantime, and what is wanted of errors -/
structure Sit where
  K : PySem.W.Frag
  H0 : Hp
  O0 : Addr → Prop
  D : Addr → Prop
  J : Hp → Prop
  E : XK
  Ep : Addr → List (Str × PV) → Prop
structure Sit.Fr (S : Sit) (H : Hp) : Prop where
  same : ∀ a o, ¬ S.D a → S.H0 a = some o → H a = some o
  stay : ∀ a, S.D a → ∃ o, H a = some o ∧ nt o
  j : S.J H
structure Sit.Ok (S : Sit) : Prop where
  oH : ∀ a, S.O0 a → ∃ o, S.H0 a = some o
  dO : ∀ a, S.D a → S.O0 a
  jst : ∀ H H', S.J H → (∀ a, S.D a → H' a = H a) → (∀ a φ, H a = some (.ext φ) → H' a = some (.ext φ)) → S.J H'
  eok : ∀ C (fs : List Str) xs us d H', S.Fr H' → H' d = some (.xd (fs.zip us)) → fs.length = us.length → Reps (fz S.O0 H') xs us → S.Ep C (fs.zip xs) → S.E (.ref C) (some d) H'
/-- what is at an own slot's address -/
def OwnAt (O : Addr → Prop) (H : Hp) (l : Addr) : SV → Prop
  | .fr _ => False
  | .ol xs => ∃ vs, H l = some (.lst vs) ∧ Reps (fz O H) xs vs
  | .oK ks xs => ∃ vs, H l = some (.dK (ks.zip vs)) ∧ ks.length = vs.length ∧ Reps (fz O H) xs vs
  | .oT ks xs => ∃ vs, H l = some (.dT (ks.zip vs)) ∧ ks.length = vs.length ∧ Reps (fz O H) xs vs
def SRep (S : Sit) (O : Addr → Prop) (H : Hp) : SV → V → Prop
  | .fr x, v => Rep (fz O H) x v
  | sv, v => ∃ l, v = .ref l ∧ O l ∧ S.H0 l = none ∧ OwnAt O H l sv
theorem SRep.of {S : Sit} {O : Addr → Prop} {H : Hp} {sv : SV} {v : V} (h : SRep S O H sv v) (e : sv.own = true) : ∃ l, v = .ref l ∧ O l ∧ S.H0 l = none ∧ OwnAt O H l sv := by
  cases sv with
  | fr x => cases e
  | ol xs => exact h
  | oK ks xs => exact h
  | oT ks xs => exact h
theorem SRep.mk {S : Sit} {O : Addr → Prop} {H : Hp} {sv : SV} {l : Addr} (h1 : O l) (h2 : S.H0 l = none) (h3 : OwnAt O H l sv) : SRep S O H sv (.ref l) := by
  cases sv with
  | fr x => exact h3.elim
  | ol xs => exact ⟨l, rfl, h1, h2, h3⟩
  | oK ks xs => exact ⟨l, rfl, h1, h2, h3⟩
  | oT ks xs => exact ⟨l, rfl, h1, h2, h3⟩
theorem OwnAt.mono {O O' : Addr → Prop} {H H' : Hp} {l : Addr} {sv : SV} (h : OwnAt O H l sv) (le : Le (fz O H) (fz O' H')) (e : ∀ o, H l = some o → H' l = some o) : OwnAt O' H' l sv := by
  cases sv with
  | fr x => exact h
  | ol xs => obtain ⟨vs, a, b⟩ := h; exact ⟨vs, e _ a, Reps.mono le _ _ b⟩
  | oK ks xs => obtain ⟨vs, a, c, b⟩ := h; exact ⟨vs, e _ a, c, Reps.mono le _ _ b⟩
  | oT ks xs => obtain ⟨vs, a, c, b⟩ := h; exact ⟨vs, e _ a, c, Reps.mono le _ _ b⟩
/-- what it says, once it stands still -/
theorem OwnAt.rep {O O' : Addr → Prop} {H H' : Hp} {l : Addr} {sv : SV} (h : OwnAt O H l sv) (le : Le (fz O H) (fz O' H')) (n : ¬ O' l) (e : ∀ o, H l = some o → H' l = some o) : Rep (fz O' H') sv.pv (.ref l) := by
  cases sv with
  | fr x => exact h.elim
  | ol xs => obtain ⟨vs, a, b⟩ := h; exact ⟨l, vs, rfl, ⟨n, .of (e _ a)⟩, Reps.mono le _ _ b⟩
  | oK ks xs => obtain ⟨vs, a, c, b⟩ := h; exact ⟨l, vs, rfl, ⟨n, .of (e _ a)⟩, c, Reps.mono le _ _ b⟩
  | oT ks xs => obtain ⟨vs, a, c, b⟩ := h; exact ⟨l, vs, rfl, ⟨n, .of (e _ a)⟩, c, Reps.mono le _ _ b⟩
structure Rel (S : Sit) (O : Addr → Prop) (env : PEnv) (σ : St) (H : Hp) : Prop where
  ok : S.Ok
  fr : S.Fr H
  o0 : ∀ a, S.O0 a → O a
  oH : ∀ a, O a → ∃ o, H a = some o ∧ nt o
  slot : ∀ (i : Nat) (sv : SV), env[i]? = some (some sv) → ∃ v, σ[i]? = some (some v) ∧ SRep S O H sv v
  apart : ∀ (i j : Nat) (sv sw : SV) (l : Addr), i ≠ j → env[i]? = some (some sv) → env[j]? = some (some sw) → sv.own = true → sw.own = true → σ[i]? = some (some (.ref l)) → σ[j]? ≠ some (some (.ref l))
  len : env.length = σ.length
/-- one step: what stood still stands still; what no own slot knows stays -/
structure Lt (S : Sit) (σ : St) (O : Addr → Prop) (env : PEnv) (H : Hp) (O' : Addr → Prop) (env' : PEnv) (H' : Hp) : Prop where
  raw : Le (fzr O H) (fzr O' H')
  loose : ∀ (a : Addr) (o : HO), O a → S.H0 a = none → (∀ (i : Nat) (sv : SV), env[i]? = some (some sv) → sv.own = true → σ[i]? ≠ some (some (.ref a))) → H a = some o → O' a ∧ H' a = some o
  own : ∀ (i : Nat) (sv : SV), env'[i]? = some (some sv) → sv.own = true → ∃ sw, env[i]? = some (some sw) ∧ sw.own = true
  there : ∀ a o, H a = some o → ∃ o', H' a = some o'
section
variable {S : Sit} {O O1 O2 O' : Addr → Prop} {env env1 env2 env' : PEnv} {σ : St} {H H1 H2 H' : Hp}
theorem Lt.fz (L : Lt S σ O env H O' env' H') : Le (PL.fz O H) (PL.fz O' H') := L.raw.fz
theorem Lt.refl : Lt S σ O env H O env H := ⟨.refl _, fun a o h _ _ e => ⟨h, e⟩, fun i sv h1 h2 => ⟨sv, h1, h2⟩, fun a o e => ⟨o, e⟩⟩
theorem Lt.trans (a : Lt S σ O env H O1 env1 H1) (b : Lt S σ O1 env1 H1 O2 env2 H2) : Lt S σ O env H O2 env2 H2 :=
  ⟨a.raw.trans b.raw, fun x o h1 h2 h3 h4 => let ⟨k1, k2⟩ := a.loose x o h1 h2 h3 h4; b.loose x o k1 h2 (fun i sv e1 e2 => let ⟨sw, f1, f2⟩ := a.own i sv e1 e2; h3 i sw f1 f2) k2,
    fun i sv e1 e2 => let ⟨sw, f1, f2⟩ := b.own i sv e1 e2; a.own i sw f1 f2, fun x o e => let ⟨o1, e1⟩ := a.there x o e; b.there x o1 e1⟩
theorem fz_same {O : Addr → Prop} (s : Same H H') : Le (fz O H) (fz O H') := fun a o ⟨h1, h2⟩ => ⟨h1, h2.same s⟩
theorem raw_same {O : Addr → Prop} (s : Same H H') : Le (fzr O H) (fzr O H') := fun a o ⟨h1, h2⟩ => ⟨h1, s a o h2⟩
theorem Lt.same (s : Same H H') : Lt S σ O env H O env H' := ⟨raw_same s, fun a o h _ _ e => ⟨h, s a o e⟩, fun i sv h1 h2 => ⟨sv, h1, h2⟩, fun a o e => ⟨o, s a o e⟩⟩
theorem Sit.Fr.same' (f : S.Fr H) (ok : S.Ok) (s : Same H H') : S.Fr H' :=
  ⟨fun a o n e => s a o (f.same a o n e), fun a d => let ⟨o, e, n⟩ := f.stay a d; ⟨o, s a o e, n⟩, ok.jst H H' f.j (fun a d => let ⟨o, e, _⟩ := f.stay a d; by rw [e, s a o e]) (fun a φ e => s a _ e)⟩
theorem SRep.same {sv : SV} {v : V} (h : SRep S O H sv v) (s : Same H H') : SRep S O H' sv v := by
  cases hb : sv.own with
  | true =>
    obtain ⟨l, rfl, h1, h2, h3⟩ := h.of hb
    exact .mk h1 h2 (h3.mono (fz_same s) fun o e => s _ o e)
  | false =>
    cases sv with
    | fr x => exact Rep.mono (fz_same s) _ _ h
    | ol xs => cases hb
    | oK ks xs => cases hb
    | oT ks xs => cases hb
theorem Rel.same (R : Rel S O env σ H) (s : Same H H') : Rel S O env σ H' :=
  ⟨R.ok, R.fr.same' R.ok s, R.o0, fun a h => let ⟨o, e, n⟩ := R.oH a h; ⟨o, s a o e, n⟩, fun i sv e => let ⟨v, h1, h2⟩ := R.slot i sv e; ⟨v, h1, h2.same s⟩, R.apart, R.len⟩
theorem Rel.new (R : Rel S O env σ H) {a : Addr} (h : H a = none) : ¬ O a := fun o => by
  obtain ⟨x, e, _⟩ := R.oH a o
  rw [h] at e; cases e
theorem Rel.new0 (R : Rel S O env σ H) {a : Addr} (h : H a = none) : S.H0 a = none := by
  cases e : S.H0 a with
  | none => rfl
  | some o =>
    by_cases d : S.D a
    · obtain ⟨x, e1, _⟩ := R.fr.stay a d
      rw [h] at e1; cases e1
    · have := R.fr.same a o d e
      rw [h] at this; cases this
theorem same_upd {a : Addr} {o : HO} (h : H a = none) : Same H (upd H a o) := fun b u e => by
  rw [upd_ne (ne_of_none e h)]; exact e
/-- the slot at i stands still from now on -/
theorem Rel.freeze (R : Rel S O env σ H) {i : Nat} {sv : SV} (e : env[i]? = some (some sv)) (ho : sv.own = true) {l : Addr} (hs : σ[i]? = some (some (.ref l))) :
    Rel S (fun a => O a ∧ a ≠ l) (env.set i (some (.fr sv.pv))) σ H ∧ Lt S σ O env H (fun a => O a ∧ a ≠ l) (env.set i (some (.fr sv.pv))) H ∧ Rep (PL.fz (fun a => O a ∧ a ≠ l) H) sv.pv (.ref l) := by
  obtain ⟨v, h1, h2⟩ := R.slot i sv e
  rw [hs] at h1
  cases Option.some.inj (Option.some.inj h1)
  obtain ⟨l', hl, hO, hn, own⟩ := h2.of ho
  injection hl with hl; subst hl
  have le : Le (PL.fz O H) (PL.fz (fun a => O a ∧ a ≠ l) H) := fun a o ⟨z1, z2⟩ => ⟨fun z => z1 z.1, z2⟩
  have rp : Rep (PL.fz (fun a => O a ∧ a ≠ l) H) sv.pv (.ref l) := own.rep le (fun z => z.2 rfl) fun _ z => z
  have hi : i < env.length := (List.getElem?_eq_some_iff.mp e).1
  have dif : ∀ j sw, j ≠ i → (env.set i (some (.fr sv.pv)))[j]? = some (some sw) → env[j]? = some (some sw) := fun j sw hj z => by
    rw [List.getElem?_set_ne (fun q => hj q.symm)] at z; exact z
  have at' : ∀ sw, (env.set i (some (.fr sv.pv)))[i]? = some (some sw) → sw = .fr sv.pv := fun sw z => by
    rw [List.getElem?_set_self hi] at z
    exact (Option.some.inj (Option.some.inj z)).symm
  refine ⟨⟨R.ok, R.fr, fun a h => ⟨R.o0 a h, fun z => ?_⟩, fun a h => R.oH a h.1, fun j sw z => ?_, fun j k sw sw' m hjk z1 z2 w1 w2 => ?_, by rw [List.length_set]; exact R.len⟩, ⟨fun a o ⟨z1, z2⟩ => ⟨fun z => z1 z.1, z2⟩, fun a o g1 g2 g3 g4 => ⟨⟨g1, fun z => ?_⟩, g4⟩, fun j sw z1 z2 => ?_, fun a o e => ⟨o, e⟩⟩, rp⟩
  · subst z
    obtain ⟨o, q⟩ := R.ok.oH a h
    rw [hn] at q; cases q
  · by_cases hj : j = i
    · subst hj
      cases at' sw z
      exact ⟨.ref l, hs, rp⟩
    · obtain ⟨v, q1, q2⟩ := R.slot j sw (dif j sw hj z)
      refine ⟨v, q1, ?_⟩
      cases hb : sw.own with
      | true =>
        obtain ⟨m, rfl, a1, a2, a3⟩ := q2.of hb
        exact .mk ⟨a1, fun z' => R.apart i j sv sw l (fun q => hj q.symm) e (dif j sw hj z) ho hb hs (z' ▸ q1)⟩ a2 (a3.mono le fun _ z => z)
      | false =>
        cases sw with
        | fr x => exact Rep.mono le _ _ q2
        | ol xs => cases hb
        | oK ks xs => cases hb
        | oT ks xs => cases hb
  · by_cases hj : j = i
    · subst hj
      cases at' sw z1; cases w1
    · by_cases hk : k = i
      · subst hk
        cases at' sw' z2; cases w2
      · exact R.apart j k sw sw' m hjk (dif j sw hj z1) (dif k sw' hk z2) w1 w2
  · subst z
    exact g3 i sv e ho hs
  · by_cases hj : j = i
    · subst hj
      cases at' sw z1; cases z2
    · exact ⟨sw, dif j sw hj z1, z2⟩
theorem Rel.extStay (R : Rel S O env σ H) {l : Addr} (h : O l) {o : HO} (a : Addr) (φ : PySem.Heap → Prop) (e : H a = some (.ext φ)) : upd H l o a = some (.ext φ) := by
  rw [upd_ne (fun q : a = l => by
    subst q
    obtain ⟨o', e', n'⟩ := R.oH a h
    rw [e] at e'
    cases e'
    exact n')]
  exact e
theorem le_ext {d : Addr} {o : HO} (nO : ¬ O d) (le : Le (PL.fz O H) (PL.fz O (upd H d o))) (a : Addr) (φ : PySem.Heap → Prop) (e : H a = some (.ext φ)) : upd H d o a = some (.ext φ) := by
  by_cases q : a = d
  · subst q
    rcases (le a (.ext φ) ⟨nO, .inl ⟨e, trivial⟩⟩).2 with ⟨h, _⟩ | ⟨h, _⟩
    · exact h
    · exact h.elim
  · rw [upd_ne q]; exact e
end
end PL

set_option Elab.async false
set_option linter.all false
set_option maxRecDepth 100000
set_option maxHeartbeats 4000000
/-! readings, told without a heap: expressions, tests, arguments, slots, targets, statements -/
namespace PL
open PySem L2
abbrev FE := PEnv → (PV → PEnv → Prop) → Prop
abbrev FT := PEnv → (Bool → PEnv → Prop) → Prop
abbrev FA := PEnv → (List PV → PEnv → Prop) → Prop
abbrev FO := PEnv → (SV → PEnv → Prop) → Prop
structure FEnds where
  nx : PEnv → Prop
  rt : PV → Prop
  bk : PEnv → Prop := fun _ => False
  ct : PEnv → Prop := fun _ => False
abbrev FS := FEnds → PEnv → Prop
class PureE (S : Sit) (t : TE) (f : outParam FE) : Prop where
  snd : ∀ {O : Addr → Prop} {env : PEnv} {σ : St} {H : Hp} {Q : VK} {Qp : PV → PEnv → Prop}, Rel S O env σ H → f env Qp →
    (∀ v x env' H' O', Rel S O' env' σ H' → Lt S σ O env H O' env' H' → Rep (fz O' H') x v → Qp x env' → Q v H') → t σ H Q
class PureT (S : Sit) (t : TT) (f : outParam FT) : Prop where
  snd : ∀ {O : Addr → Prop} {env : PEnv} {σ : St} {H : Hp} {Q : Bool → Hp → Prop} {Qp : Bool → PEnv → Prop}, Rel S O env σ H → f env Qp →
    (∀ b env' H' O', Rel S O' env' σ H' → Lt S σ O env H O' env' H' → Qp b env' → Q b H') → t σ H Q
class PureA (S : Sit) (t : TA) (f : outParam FA) : Prop where
  snd : ∀ {O : Addr → Prop} {env : PEnv} {σ : St} {H : Hp} {Q : List V → Hp → Prop} {Qp : List PV → PEnv → Prop}, Rel S O env σ H → f env Qp →
    (∀ vs xs env' H' O', Rel S O' env' σ H' → Lt S σ O env H O' env' H' → Reps (fz O' H') xs vs → Qp xs env' → Q vs H') → t σ H Q
/-- an expression whose value goes to a slot: it may be new, known to none -/
class PureO (S : Sit) (t : TE) (f : outParam FO) : Prop where
  snd : ∀ {O : Addr → Prop} {env : PEnv} {σ : St} {H : Hp} {Q : VK} {Qp : SV → PEnv → Prop}, Rel S O env σ H → f env Qp →
    (∀ v sv env' H' O', Rel S O' env' σ H' → Lt S σ O env H O' env' H' → SRep S O' H' sv v → (sv.own = true → ∃ l, v = .ref l ∧ H l = none ∧ ∀ (i : Nat) (sw : SV), env'[i]? = some (some sw) → sw.own = true → σ[i]? ≠ some (some v)) → Qp sv env' → Q v H') → t σ H Q
def fOfE (f : FE) : FO := fun env Q => f env fun x env' => Q (.fr x) env'
instance (priority := low) PureO.ofE {S : Sit} {t : TE} {f : FE} [h : PureE S t f] : PureO S t (fOfE f) :=
  ⟨fun R q k => h.snd R q fun v x env' H' O' R' L' r' q' => k v (.fr x) env' H' O' R' L' r' (fun z => nomatch z) q'⟩
section
variable {S : Sit}
/-! ### names, constants -/
def fVar (i : Nat) : FE := fun env Q => match env[i]? with
  | some (some (.fr x)) => Q x env
  | some (some sv) => Q sv.pv (env.set i (some (.fr sv.pv)))
  | _ => False
instance (priority := low) {i : Nat} : PureE S (tVar i) (fVar i) := ⟨fun {O env σ H Q Qp} R h k => by
  unfold fVar at h
  cases e : env[i]? with
  | none => rw [e] at h; exact h.elim
  | some o =>
    cases o with
    | none => rw [e] at h; exact h.elim
    | some sv =>
      rw [e] at h
      obtain ⟨v, h1, h2⟩ := R.slot i sv e
      cases hb : sv.own with
      | false =>
        cases sv with
        | fr x => exact ⟨v, h1, k v x env H O R .refl h2 h⟩
        | ol xs => cases hb
        | oK ks xs => cases hb
        | oT ks xs => cases hb
      | true =>
        obtain ⟨l, rfl, _, _, _⟩ := h2.of hb
        obtain ⟨R1, L1, r1⟩ := R.freeze e hb h1
        refine ⟨_, h1, k _ sv.pv _ H _ R1 L1 r1 ?_⟩
        cases sv with
        | fr x => cases hb
        | ol xs => exact h
        | oK ks xs => exact h
        | oT ks xs => exact h⟩
/-- a value without a place in the heap -/
class FlatP (v : V) (x : outParam PV) : Prop where
  rep : ∀ F, Rep F x v
instance : FlatP .non .non := ⟨fun _ => rfl⟩
instance {b} : FlatP (.bl b) (.bl b) := ⟨fun _ => rfl⟩
instance {i} : FlatP (.int i) (.int i) := ⟨fun _ => rfl⟩
instance {x} : FlatP (.str x) (.str x) := ⟨fun _ => rfl⟩
instance {x} : FlatP (.ty x) (.raw (.ty x)) := ⟨fun _ => rfl⟩
def fC (x : PV) : FE := fun env Q => Q x env
instance {v : V} {x : PV} [h : FlatP v x] : PureE S (tC v) (fC x) := ⟨fun {O env σ H Q Qp} R q k => k v x env H O R .refl (h.rep _) q⟩
/-! ### two values -/
def OnH (O : Addr → Prop) (H : Hp) : Prop := ∀ a, O a → ∃ o, H a = some o ∧ nt o
class R2P (S : Sit) (r : R2) (f : outParam (PV → PV → (PV → Prop) → Prop)) : Prop where
  snd : ∀ {O : Addr → Prop} {H : Hp} {v w : V} {x y : PV} {Q : VK} {Qp : PV → Prop}, OnH O H → Rep (fz O H) x v → Rep (fz O H) y w → f x y Qp →
    (∀ z u H', Same H H' → Rep (fz O H') u z → Qp u → Q z H') → r v w H Q
def fOp (f : PV → PV → (PV → Prop) → Prop) (fa fb : FE) : FE := fun env Q => fa env fun x env1 => fb env1 fun y env2 => f x y fun z => Q z env2
instance {r : R2} {f} {ta tb : TE} {fa fb : FE} [hr : R2P S r f] [ha : PureE S ta fa] [hb : PureE S tb fb] : PureE S (tOp r ta tb) (fOp f fa fb) := ⟨fun R q k =>
  ha.snd R q fun v x env1 H1 O1 R1 L1 r1 q1 => hb.snd R1 q1 fun w y env2 H2 O2 R2 L2 r2 q2 =>
    hr.snd R2.oH (Rep.mono L2.fz _ _ r1) r2 q2 fun z u H3 s r3 q3 => k z u env2 H3 O2 (R2.same s) ((L1.trans L2).trans (.same s)) r3 q3⟩
class R1P (S : Sit) (r : V → Hp → VK → Prop) (f : outParam (PV → (PV → Prop) → Prop)) : Prop where
  snd : ∀ {O : Addr → Prop} {H : Hp} {v : V} {x : PV} {Q : VK} {Qp : PV → Prop}, OnH O H → Rep (fz O H) x v → f x Qp →
    (∀ z u H', Same H H' → Rep (fz O H') u z → Qp u → Q z H') → r v H Q
def fUn (f : PV → (PV → Prop) → Prop) (fa : FE) : FE := fun env Q => fa env fun x env1 => f x fun z => Q z env1
instance {r} {f} {ta : TE} {fa : FE} [hr : R1P S r f] [ha : PureE S ta fa] : PureE S (tUn r ta) (fUn f fa) := ⟨fun R q k =>
  ha.snd R q fun v x env1 H1 O1 R1 L1 r1 q1 => hr.snd R1.oH r1 q1 fun z u H3 s r3 q3 => k z u env1 H3 O1 (R1.same s) (L1.trans (.same s)) r3 q3⟩
/-! ### tests -/
def fB (f : FE) : FT := fun env Q => f env fun x env1 => match x with
  | .bl c => Q c env1
  | _ => False
theorem rep_bl {F : Fz} {x : PV} {v : V} {P : Bool → Prop} (r : Rep F x v) (h : match x with | .bl c => P c | _ => False) : ∃ c, v = .bl c ∧ P c := by
  cases x with
  | bl c => exact ⟨c, r, h⟩
  | _ => exact h.elim
instance {t : TE} {f : FE} [h : PureE S t f] : PureT S (tB t) (fB f) := ⟨fun R q k => h.snd R q fun v x env1 H1 O1 R1 L1 r1 q1 => by
  cases x with
  | bl c => exact ⟨c, r1, k c env1 H1 O1 R1 L1 q1⟩
  | _ => exact q1.elim⟩
instance {t : TE} {f : FE} [h : PureE S t f] : PureT S (tTest t) (fB f) := ⟨fun R q k => h.snd R q fun v x env1 H1 O1 R1 L1 r1 q1 => by
  cases x with
  | bl c => exact ⟨c, r1, k c env1 H1 O1 R1 L1 q1⟩
  | _ => exact q1.elim⟩
def fAnd (f g : FT) : FT := fun env Q => f env fun b env1 => if b = true then g env1 Q else Q false env1
def fOr (f g : FT) : FT := fun env Q => f env fun b env1 => if b = true then Q true env1 else g env1 Q
def fNot (f : FT) : FT := fun env Q => f env fun b env1 => Q (!b) env1
instance {t u : TT} {f g : FT} [h1 : PureT S t f] [h2 : PureT S u g] : PureT S (tAnd t u) (fAnd f g) := ⟨fun R q k => h1.snd R q fun b env1 H1 O1 R1 L1 q1 => by
  cases b with
  | true => exact h2.snd R1 q1 fun c env2 H2 O2 R2 L2 q2 => k c env2 H2 O2 R2 (L1.trans L2) q2
  | false => exact k false env1 H1 O1 R1 L1 q1⟩
instance {t u : TT} {f g : FT} [h1 : PureT S t f] [h2 : PureT S u g] : PureT S (tOr t u) (fOr f g) := ⟨fun R q k => h1.snd R q fun b env1 H1 O1 R1 L1 q1 => by
  cases b with
  | false => exact h2.snd R1 q1 fun c env2 H2 O2 R2 L2 q2 => k c env2 H2 O2 R2 (L1.trans L2) q2
  | true => exact k true env1 H1 O1 R1 L1 q1⟩
instance {t : TT} {f : FT} [h1 : PureT S t f] : PureT S (tNot t) (fNot f) := ⟨fun R q k => h1.snd R q fun b env1 H1 O1 R1 L1 q1 => k (!b) env1 H1 O1 R1 L1 q1⟩
def fAndV (f g : FE) : FE := fun env Q => f env fun x env1 => match x with
  | .bl c => if c = true then g env1 Q else Q (.bl false) env1
  | _ => False
def fOrV (f g : FE) : FE := fun env Q => f env fun x env1 => match x with
  | .bl c => if c = true then Q (.bl true) env1 else g env1 Q
  | _ => False
def fNotV (f : FE) : FE := fun env Q => f env fun x env1 => match x with
  | .bl c => Q (.bl (!c)) env1
  | _ => False
instance {t u : TE} {f g : FE} [h1 : PureE S t f] [h2 : PureE S u g] : PureE S (tAndV t u) (fAndV f g) := ⟨fun R q k => h1.snd R q fun v x env1 H1 O1 R1 L1 r1 q1 => by
  cases x with
  | bl b =>
    refine ⟨b, r1, ?_⟩
    cases b with
    | true => exact h2.snd R1 q1 fun w c env2 H2 O2 R2 L2 r2 q2 => k w c env2 H2 O2 R2 (L1.trans L2) r2 q2
    | false => exact k _ (.bl false) env1 H1 O1 R1 L1 rfl q1
  | _ => exact q1.elim⟩
instance {t u : TE} {f g : FE} [h1 : PureE S t f] [h2 : PureE S u g] : PureE S (tOrV t u) (fOrV f g) := ⟨fun R q k => h1.snd R q fun v x env1 H1 O1 R1 L1 r1 q1 => by
  cases x with
  | bl b =>
    refine ⟨b, r1, ?_⟩
    cases b with
    | false => exact h2.snd R1 q1 fun w c env2 H2 O2 R2 L2 r2 q2 => k w c env2 H2 O2 R2 (L1.trans L2) r2 q2
    | true => exact k _ (.bl true) env1 H1 O1 R1 L1 rfl q1
  | _ => exact q1.elim⟩
instance {t : TE} {f : FE} [h1 : PureE S t f] : PureE S (tNotV t) (fNotV f) := ⟨fun R q k => h1.snd R q fun v x env1 H1 O1 R1 L1 r1 q1 => by
  cases x with
  | bl b => exact ⟨b, r1, k _ (.bl (!b)) env1 H1 O1 R1 L1 rfl q1⟩
  | _ => exact q1.elim⟩
def fIf (c : FT) (f g : FE) : FE := fun env Q => c env fun b env1 => if b = true then f env1 Q else g env1 Q
instance {t : TT} {ta tb : TE} {c : FT} {f g : FE} [h : PureT S t c] [h1 : PureE S ta f] [h2 : PureE S tb g] : PureE S (tIf t ta tb) (fIf c f g) := ⟨fun R q k => h.snd R q fun b env1 H1 O1 R1 L1 q1 => by
  cases b with
  | true => exact h1.snd R1 q1 fun w c env2 H2 O2 R2 L2 r2 q2 => k w c env2 H2 O2 R2 (L1.trans L2) r2 q2
  | false => exact h2.snd R1 q1 fun w c env2 H2 O2 R2 L2 r2 q2 => k w c env2 H2 O2 R2 (L1.trans L2) r2 q2⟩
def fTrue : FT := fun env Q => Q true env
instance : PureT S tYes fTrue := ⟨fun {O env σ H Q Qp} R q k => k true env H O R .refl q⟩
/-! ### arguments -/
def fNil : FA := fun env Q => Q [] env
def fCons (f : FE) (g : FA) : FA := fun env Q => f env fun x env1 => g env1 fun xs env2 => Q (x :: xs) env2
instance : PureA S tNil fNil := ⟨fun {O env σ H Q Qp} R q k => k [] [] env H O R .refl trivial q⟩
instance {ta : TE} {tr : TA} {f : FE} {g : FA} [h1 : PureE S ta f] [h2 : PureA S tr g] : PureA S (tCons ta tr) (fCons f g) := ⟨fun R q k => h1.snd R q fun v x env1 H1 O1 R1 L1 r1 q1 =>
  h2.snd R1 q1 fun vs xs env2 H2 O2 R2 L2 r2 q2 => k (v :: vs) (x :: xs) env2 H2 O2 R2 (L1.trans L2) ⟨Rep.mono L2.fz _ _ r1, r2⟩ q2⟩
def fTup (f : FA) : FE := fun env Q => f env fun xs env1 => xs.length ≤ sizeLine ∧ Q (.tup xs) env1
def fLst (f : FA) : FE := fun env Q => f env fun xs env1 => xs.length ≤ sizeLine ∧ Q (.lst xs) env1
def fLstO (f : FA) : FO := fun env Q => f env fun xs env1 => xs.length ≤ sizeLine ∧ Q (.ol xs) env1
instance {ta : TA} {f : FA} [h : PureA S ta f] : PureE S (tTup ta) (fTup f) := ⟨fun R q k => h.snd R q fun vs xs env1 H1 O1 R1 L1 r1 q1 => ⟨by rw [← r1.length]; exact q1.1, fun p hp =>
  k _ (.tup xs) env1 _ O1 (R1.same (same_upd hp)) (L1.trans (.same (same_upd hp))) ⟨p, vs, rfl, ⟨R1.new hp, .of upd_same⟩, Reps.mono (fz_same (same_upd hp)) _ _ r1⟩ q1.2⟩⟩
instance {ta : TA} {f : FA} [h : PureA S ta f] : PureE S (tLst ta) (fLst f) := ⟨fun R q k => h.snd R q fun vs xs env1 H1 O1 R1 L1 r1 q1 => ⟨by rw [← r1.length]; exact q1.1, fun p hp =>
  k _ (.lst xs) env1 _ O1 (R1.same (same_upd hp)) (L1.trans (.same (same_upd hp))) ⟨p, vs, rfl, ⟨R1.new hp, .of upd_same⟩, Reps.mono (fz_same (same_upd hp)) _ _ r1⟩ q1.2⟩⟩
/-- a new object is held back -/
theorem Rel.hold {O : Addr → Prop} {env : PEnv} {σ : St} {H : Hp} (R : Rel S O env σ H) {p : Addr} (hp : H p = none) (o : HO) (no : nt o) :
    Rel S (fun a => O a ∨ a = p) env σ (upd H p o) ∧ Lt S σ O env H (fun a => O a ∨ a = p) env (upd H p o) := by
  have s := same_upd (o := o) hp
  have le : Le (fz O H) (fz (fun a => O a ∨ a = p) (upd H p o)) := fun a u ⟨h1, h2⟩ => ⟨fun z => z.elim h1 (fun z => by subst z; exact h2.none hp), h2.same s⟩
  have R1 := R.same s
  refine ⟨⟨R.ok, R1.fr, fun a h => .inl (R.o0 a h), fun a h => h.elim (fun h => R1.oH a h) (fun h => by subst h; exact ⟨o, upd_same, no⟩), fun i sv e => ?_, R.apart, R.len⟩, ⟨fun a u ⟨h1, h2⟩ => ⟨fun z => z.elim h1 (fun z => by subst z; rw [hp] at h2; cases h2), s a u h2⟩, fun a u h1 _ _ e => ⟨.inl h1, s a u e⟩, fun i sv h1 h2 => ⟨sv, h1, h2⟩, fun a u e => ⟨u, s a u e⟩⟩⟩
  obtain ⟨v, h1, h2⟩ := R.slot i sv e
  refine ⟨v, h1, ?_⟩
  cases hb : sv.own with
  | true =>
    obtain ⟨l, rfl, a1, a2, a3⟩ := h2.of hb
    exact .mk (.inl a1) a2 (a3.mono le fun u z => s _ u z)
  | false =>
    cases sv with
    | fr x => exact Rep.mono le _ _ h2
    | ol xs => cases hb
    | oK ks xs => cases hb
    | oT ks xs => cases hb
/-- own slots stand at places that are there -/
theorem Rel.ownThere {O : Addr → Prop} {env : PEnv} {σ : St} {H : Hp} (R : Rel S O env σ H) {i : Nat} {sv : SV} (e : env[i]? = some (some sv)) (ho : sv.own = true) {p : Addr} (hp : H p = none) : σ[i]? ≠ some (some (.ref p)) := fun z => by
  obtain ⟨v, h1, h2⟩ := R.slot i sv e
  obtain ⟨l, rfl, a1, _⟩ := h2.of ho
  rw [h1] at z
  injection z with z; injection z with z; injection z with z; subst z
  exact R.new hp a1
end
end PL

set_option Elab.async false
set_option linter.all false
set_option maxRecDepth 100000
set_option maxHeartbeats 4000000
/-! slots, targets, statements, loops -/
namespace PL
open PySem L2
section
variable {S : Sit}
/-! ### new lists, dicts -/
/-- a new object that a slot alone is to know -/
theorem Rel.newOwn {O : Addr → Prop} {env : PEnv} {σ : St} {H : Hp} (R : Rel S O env σ H) {p : Addr} (hp : H p = none) {o : HO} (no : nt o) {sv : SV} (ho : sv.own = true) (ha : ∀ O' H', Le (fz O H) (fz O' H') → H' p = some o → OwnAt O' H' p sv) :
    ∃ O', Rel S O' env σ (upd H p o) ∧ Lt S σ O env H O' env (upd H p o) ∧ SRep S O' (upd H p o) sv (.ref p) ∧ ∀ (i : Nat) (sw : SV), env[i]? = some (some sw) → sw.own = true → σ[i]? ≠ some (some (.ref p)) := by
  obtain ⟨R1, L1⟩ := R.hold hp o no
  exact ⟨_, R1, L1, .mk (.inr rfl) (R.new0 hp) (ha _ _ L1.fz upd_same), fun i sw e hw => R.ownThere e hw hp⟩
theorem Lt.at {O : Addr → Prop} {env : PEnv} {σ : St} {H : Hp} {O1 env1 H1} (L : Lt S σ O env H O1 env1 H1) {p : Addr} (hp : H1 p = none) : H p = none := by
  cases e : H p with
  | none => rfl
  | some o => obtain ⟨u, q⟩ := L.there p o e; rw [hp] at q; cases q
instance {ta : TA} {f : FA} [h : PureA S ta f] : PureO S (tLst ta) (fLstO f) := ⟨fun {O env σ H Q Qp} R q k => h.snd R q fun vs xs env1 H1 O1 R1 L1 r1 q1 => ⟨by rw [← r1.length]; exact q1.1, fun p hp => by
  obtain ⟨O2, R2, L2, r2, n2⟩ := R1.newOwn hp (o := .lst vs) trivial (sv := .ol xs) rfl fun O' H' le e => ⟨vs, e, Reps.mono le _ _ r1⟩
  exact k _ (.ol xs) env1 _ O2 R2 (L1.trans L2) r2 (fun _ => ⟨p, rfl, L1.at hp, n2⟩) q1.2⟩⟩
def fNewK : FE := fun env Q => Q (.dK [] []) env
def fNewKO : FO := fun env Q => Q (.oK [] []) env
def fNewT : FE := fun env Q => Q (.dT [] []) env
def fNewTO : FO := fun env Q => Q (.oT [] []) env
instance : PureE S tDNewK fNewK := ⟨fun {O env σ H Q Qp} R q k p hp => k _ (.dK [] []) env _ O (R.same (same_upd hp)) (.same (same_upd hp)) ⟨p, [], rfl, ⟨R.new hp, .of upd_same⟩, rfl, trivial⟩ q⟩
instance : PureE S tDNewT fNewT := ⟨fun {O env σ H Q Qp} R q k p hp => k _ (.dT [] []) env _ O (R.same (same_upd hp)) (.same (same_upd hp)) ⟨p, [], rfl, ⟨R.new hp, .of upd_same⟩, rfl, trivial⟩ q⟩
instance : PureO S tDNewK fNewKO := ⟨fun {O env σ H Q Qp} R q k p hp => by
  obtain ⟨O2, R2, L2, r2, n2⟩ := R.newOwn hp (o := .dK []) trivial (sv := .oK [] []) rfl fun O' H' le e => ⟨[], e, rfl, trivial⟩
  exact k _ (.oK [] []) env _ O2 R2 L2 r2 (fun _ => ⟨p, rfl, hp, n2⟩) q⟩
instance : PureO S tDNewT fNewTO := ⟨fun {O env σ H Q Qp} R q k p hp => by
  obtain ⟨O2, R2, L2, r2, n2⟩ := R.newOwn hp (o := .dT []) trivial (sv := .oT [] []) rfl fun O' H' le e => ⟨[], e, rfl, trivial⟩
  exact k _ (.oT [] []) env _ O2 R2 L2 r2 (fun _ => ⟨p, rfl, hp, n2⟩) q⟩
/-! ### a value comes to a slot -/
theorem Rel.put {O : Addr → Prop} {env : PEnv} {σ : St} {H : Hp} (R : Rel S O env σ H) {v : V} {sv : SV} (r : SRep S O H sv v) (n : sv.own = true → ∀ (i : Nat) (sw : SV), env[i]? = some (some sw) → sw.own = true → σ[i]? ≠ some (some v)) (i : Nat) :
    Rel S O (env.set i (some sv)) (σ.set i (some v)) H := by
  refine ⟨R.ok, R.fr, R.o0, R.oH, fun j sw e => ?_, fun j k sw sx l hjk e1 e2 w1 w2 e3 => ?_, by rw [List.length_set, List.length_set]; exact R.len⟩
  · by_cases hj : i = j
    · subst hj
      have hi : i < env.length := by
        have := (List.getElem?_eq_some_iff.mp e).1
        rw [List.length_set] at this; exact this
      rw [List.getElem?_set_self hi] at e
      cases Option.some.inj (Option.some.inj e)
      exact ⟨v, by rw [List.getElem?_set_self (R.len ▸ hi)], r⟩
    · rw [List.getElem?_set_ne hj] at e ⊢
      exact R.slot j sw e
  · by_cases hj : i = j
    · subst hj
      have hi : i < env.length := by
        have := (List.getElem?_eq_some_iff.mp e1).1
        rw [List.length_set] at this; exact this
      rw [List.getElem?_set_self hi] at e1
      cases Option.some.inj (Option.some.inj e1)
      rw [List.getElem?_set_self (R.len ▸ hi)] at e3
      rw [List.getElem?_set_ne hjk] at e2 ⊢
      have := n w1 k sx e2 w2
      rwa [Option.some.inj (Option.some.inj e3)] at this
    · rw [List.getElem?_set_ne hj] at e1 e3
      by_cases hk : i = k
      · subst hk
        have hi : i < env.length := by
          have := (List.getElem?_eq_some_iff.mp e2).1
          rw [List.length_set] at this; exact this
        rw [List.getElem?_set_self hi] at e2
        cases Option.some.inj (Option.some.inj e2)
        rw [List.getElem?_set_self (R.len ▸ hi)]
        intro z
        have := n w2 j sw e1 w1
        rw [Option.some.inj (Option.some.inj z)] at this
        exact this e3
      · rw [List.getElem?_set_ne hk] at e2 ⊢
        exact R.apart j k sw sx l hjk e1 e2 w1 w2 e3
theorem Rel.putF {O : Addr → Prop} {env : PEnv} {σ : St} {H : Hp} (R : Rel S O env σ H) {v : V} {x : PV} (r : Rep (fz O H) x v) (i : Nat) : Rel S O (env.set i (some (.fr x))) (σ.set i (some v)) H :=
  R.put (sv := .fr x) r (fun z => nomatch z) i
/-- what an own slot knows is changed -/
theorem Rel.mut {O : Addr → Prop} {env : PEnv} {σ : St} {H : Hp} (R : Rel S O env σ H) {i : Nat} {sv : SV} (e : env[i]? = some (some sv)) (ho : sv.own = true) {l : Addr} (hs : σ[i]? = some (some (.ref l))) {o : HO} (no : nt o) {sw : SV} (hw : sw.own = true)
    (ha : ∀ H', Le (fz O H) (fz O H') → H' l = some o → OwnAt O H' l sw) : Rel S O (env.set i (some sw)) σ (upd H l o) ∧ Lt S σ O env H O (env.set i (some sw)) (upd H l o) := by
  obtain ⟨v, h1, h2⟩ := R.slot i sv e
  rw [hs] at h1
  cases Option.some.inj (Option.some.inj h1)
  obtain ⟨l', hl, hO, hn, own⟩ := h2.of ho
  injection hl with hl; subst hl
  have hi : i < env.length := (List.getElem?_eq_some_iff.mp e).1
  have le : Le (fz O H) (fz O (upd H l o)) := fun a u ⟨z1, z2⟩ => ⟨z1, z2.ne fun q : a = l => by subst q; exact z1 hO⟩
  have nD : ∀ a, S.D a → a ≠ l := fun a d q => by
    subst q
    obtain ⟨x, y⟩ := R.ok.oH a (R.ok.dO a d)
    rw [hn] at y; cases y
  have dif : ∀ j sx, j ≠ i → (env.set i (some sw))[j]? = some (some sx) → env[j]? = some (some sx) := fun j sx hj z => by
    rw [List.getElem?_set_ne (fun q => hj q.symm)] at z; exact z
  have at' : ∀ sx, (env.set i (some sw))[i]? = some (some sx) → sx = sw := fun sx z => by
    rw [List.getElem?_set_self hi] at z
    exact (Option.some.inj (Option.some.inj z)).symm
  refine ⟨⟨R.ok, ⟨fun a u n z => ?_, fun a d => ?_, R.ok.jst H _ R.fr.j (fun a d => upd_ne (nD a d)) (R.extStay hO)⟩, R.o0, fun a h => ?_, fun j sx z => ?_, fun j k sx sy m hjk z1 z2 w1 w2 e3 => ?_, by rw [List.length_set]; exact R.len⟩, ⟨fun a u ⟨z1, z2⟩ => ⟨z1, by rw [upd_ne (fun q : a = l => by subst q; exact z1 hO)]; exact z2⟩, fun a u g1 g2 g3 g4 => ⟨g1, ?_⟩, fun j sx z1 z2 => ?_, fun a u z => ?_⟩⟩
  · rw [upd_ne (fun q => by subst q; rw [hn] at z; cases z)]
    exact R.fr.same a u n z
  · rw [upd_ne (nD a d)]
    exact R.fr.stay a d
  · by_cases q : a = l
    · subst q; exact ⟨o, upd_same, no⟩
    · rw [upd_ne q]; exact R.oH a h
  · by_cases hj : j = i
    · subst hj
      cases at' sx z
      exact ⟨_, hs, .mk hO hn (ha _ le upd_same)⟩
    · obtain ⟨v, q1, q2⟩ := R.slot j sx (dif j sx hj z)
      refine ⟨v, q1, ?_⟩
      cases hb : sx.own with
      | true =>
        obtain ⟨m, rfl, a1, a2, a3⟩ := q2.of hb
        have hm : m ≠ l := fun z' => R.apart i j sv sx l (fun q => hj q.symm) e (dif j sx hj z) ho hb hs (z' ▸ q1)
        exact .mk a1 a2 (a3.mono le fun _ z => by rw [upd_ne hm]; exact z)
      | false =>
        cases sx with
        | fr x => exact Rep.mono le _ _ q2
        | ol xs => cases hb
        | oK ks xs => cases hb
        | oT ks xs => cases hb
  · have old : ∀ (j : Nat) (sx : SV), (env.set i (some sw))[j]? = some (some sx) → sx.own = true → ∃ sy, env[j]? = some (some sy) ∧ sy.own = true := fun j sx z w => by
      by_cases hj : j = i
      · subst hj; exact ⟨sv, e, ho⟩
      · exact ⟨sx, dif j sx hj z, w⟩
    obtain ⟨s1, f1, g1⟩ := old j sx z1 w1
    obtain ⟨s2, f2, g2⟩ := old k sy z2 w2
    exact R.apart j k s1 s2 m hjk f1 f2 g1 g2 e3
  · rw [upd_ne (fun q => by subst q; exact g3 i sv e ho hs)]
    exact g4
  · by_cases hj : j = i
    · subst hj; exact ⟨sv, e, ho⟩
    · exact ⟨sx, dif j sx hj z1, z2⟩
  · by_cases q : a = l
    · subst q; exact ⟨o, upd_same⟩
    · exact ⟨u, by rw [upd_ne q]; exact z⟩
/-! ### targets -/
abbrev FG := PV → PEnv → (PEnv → Prop) → Prop
class PureG (S : Sit) (g : TG) (f : outParam FG) (ix : outParam (List Nat)) : Prop where
  snd : ∀ {O : Addr → Prop} {env : PEnv} {σ : St} {H : Hp} {v : V} {x : PV} {Q : St → Hp → Prop} {Qp : PEnv → Prop}, Rel S O env σ H → Rep (fz O H) x v → f x env Qp →
    (∀ env' σ', Rel S O env' σ' H → (∀ (i : Nat), i ∉ ix → σ'[i]? = σ[i]? ∧ env'[i]? = env[i]?) → (∀ (i : Nat) (sv : SV), env'[i]? = some (some sv) → sv.own = true → env[i]? = some (some sv) ∧ σ'[i]? = σ[i]?) → env'.length = env.length → Qp env' → Q σ' H) → g v σ H Q
abbrev FGs := List PV → PEnv → (PEnv → Prop) → Prop
class PureGs (S : Sit) (g : TGs) (f : outParam FGs) (ix : outParam (List Nat)) : Prop where
  snd : ∀ {O : Addr → Prop} {env : PEnv} {σ : St} {H : Hp} {vs : List V} {xs : List PV} {Q : St → Hp → Prop} {Qp : PEnv → Prop}, Rel S O env σ H → Reps (fz O H) xs vs → f xs env Qp →
    (∀ env' σ', Rel S O env' σ' H → (∀ (i : Nat), i ∉ ix → σ'[i]? = σ[i]? ∧ env'[i]? = env[i]?) → (∀ (i : Nat) (sv : SV), env'[i]? = some (some sv) → sv.own = true → env[i]? = some (some sv) ∧ σ'[i]? = σ[i]?) → env'.length = env.length → Qp env' → Q σ' H) → g vs σ H Q
def fgName (i : Nat) : FG := fun x env Q => Q (env.set i (some (.fr x)))
instance {i : Nat} : PureG S (gName i) (fgName i) [i] := ⟨fun {O env σ H v x Q Qp} R r q k => k _ _ (R.putF r i) (fun j hj => by
  have : i ≠ j := fun z => hj (by rw [z]; exact List.mem_singleton.mpr rfl)
  exact ⟨List.getElem?_set_ne this, List.getElem?_set_ne this⟩) (fun j sv e w => by
    by_cases hj : i = j
    · subst hj
      have hi : i < env.length := by
        have := (List.getElem?_eq_some_iff.mp e).1
        rw [List.length_set] at this; exact this
      rw [List.getElem?_set_self hi] at e
      cases Option.some.inj (Option.some.inj e); cases w
    · rw [List.getElem?_set_ne hj] at e
      exact ⟨e, List.getElem?_set_ne hj⟩) List.length_set q⟩
def fgNil : FGs := fun xs env Q => xs = [] ∧ Q env
def fgCons (f : FG) (g : FGs) : FGs := fun xs env Q => match xs with
  | x :: xs => f x env fun env1 => g xs env1 Q
  | [] => False
instance : PureGs S gNil fgNil [] := ⟨fun {O env σ H vs xs Q Qp} R r q k => by
  obtain ⟨rfl, q⟩ := q
  cases vs with
  | nil => exact ⟨rfl, k env σ R (fun _ _ => ⟨rfl, rfl⟩) (fun _ _ e _ => ⟨e, rfl⟩) rfl q⟩
  | cons v vs => exact r.elim⟩
instance {g : TG} {gs : TGs} {f fs ix ixs} [h1 : PureG S g f ix] [h2 : PureGs S gs fs ixs] : PureGs S (gCons g gs) (fgCons f fs) (ix ++ ixs) := ⟨fun {O env σ H vs xs Q Qp} R r q k => by
  cases xs with
  | nil => exact q.elim
  | cons x xs =>
    cases vs with
    | nil => exact r.elim
    | cons v vs =>
      refine ⟨v, vs, rfl, h1.snd R r.1 q fun env1 σ1 R1 e1 o1 l1 q1 => h2.snd R1 r.2 q1 fun env2 σ2 R2 e2 o2 l2 q2 => k env2 σ2 R2 (fun i hi => ?_) (fun i sv e w => ?_) (l2.trans l1) q2⟩
      · have a := e1 i fun z => hi (List.mem_append_left _ z)
        have b := e2 i fun z => hi (List.mem_append_right _ z)
        exact ⟨b.1.trans a.1, b.2.trans a.2⟩
      · obtain ⟨f1, f2⟩ := o2 i sv e w
        obtain ⟨g1, g2⟩ := o1 i sv f1 w
        exact ⟨g1, f2.trans g2⟩⟩
def fgTup (n : Nat) (f : FGs) : FG := fun x env Q => match x with
  | .tup xs => xs.length = n ∧ f xs env Q
  | _ => False
instance {n : Nat} {K : PySem.W.Frag} {t : TGs} {f ix} [h : PureGs S t f ix] : PureG S (gTup K n t) (fgTup n f) ix := ⟨fun {O env σ H v x Q Qp} R r q k => by
  cases x with
  | tup xs =>
    obtain ⟨a, vs, rfl, e, rs⟩ := r
    exact ⟨a, vs, rfl, .inl (.inl e.2.tup), by rw [← rs.length]; exact q.1, h.snd R rs q.2 k⟩
  | _ => exact q.elim⟩
/-! ### statements -/
class PureS (S : Sit) (t : TS) (f : outParam FS) : Prop where
  snd : ∀ {O : Addr → Prop} {env : PEnv} {σ : St} {H : Hp} {D : Ends} {De : FEnds}, Rel S O env σ H → f De env →
    (∀ env' σ' H' O', Rel S O' env' σ' H' → Le (fzr O H) (fzr O' H') → De.nx env' → D.nx σ' H') → (∀ v x H' O', S.Fr H' → Le (fzr O H) (fzr O' H') → Rep (fz S.O0 H') x v → De.rt x → D.rt v H') →
    (∀ env' σ' H' O', Rel S O' env' σ' H' → Le (fzr O H) (fzr O' H') → De.bk env' → D.bk σ' H') → (∀ env' σ' H' O', Rel S O' env' σ' H' → Le (fzr O H) (fzr O' H') → De.ct env' → D.ct σ' H') → t D σ H
def fNext : FS := fun D env => D.nx env
def fSeq (f g : FS) : FS := fun D env => f { D with nx := g D } env
instance : PureS S tNext fNext := ⟨fun {O env σ H D De} R q k _ _ _ => k env σ H O R (.refl _) q⟩
instance {t u : TS} {f g : FS} [h1 : PureS S t f] [h2 : PureS S u g] : PureS S (tSeq t u) (fSeq f g) := ⟨fun R q k kr kb kc =>
  h1.snd R q (fun env1 σ1 H1 O1 R1 L1 q1 => h2.snd R1 q1 (fun e s h o r l => k e s h o r (L1.trans l)) (fun v x h o f l => kr v x h o f (L1.trans l)) (fun e s h o r l => kb e s h o r (L1.trans l)) (fun e s h o r l => kc e s h o r (L1.trans l))) kr kb kc⟩
def fBreak : FS := fun D env => D.bk env
def fCont : FS := fun D env => D.ct env
instance : PureS S tBreak fBreak := ⟨fun {O env σ H D De} R q _ _ k _ => k env σ H O R (.refl _) q⟩
instance : PureS S tCont fCont := ⟨fun {O env σ H D De} R q _ _ _ k => k env σ H O R (.refl _) q⟩
def fNever : FS := fun _ _ => False
instance : PureS S tNever fNever := ⟨fun R q _ _ _ _ => q.elim⟩
def fDrop (f : FE) : FS := fun D env => f env fun _ env1 => D.nx env1
instance (priority := low) {t : TE} {f : FE} [h : PureE S t f] : PureS S (tDrop t) (fDrop f) := ⟨fun R q k _ _ _ => h.snd R q fun v x env1 H1 O1 R1 L1 _ q1 => k env1 _ H1 O1 R1 L1.raw q1⟩
theorem Rel.ret {O : Addr → Prop} {env : PEnv} {σ : St} {H : Hp} (R : Rel S O env σ H) : Le (fz O H) (fz S.O0 H) := fun a o ⟨h1, h2⟩ => ⟨fun z => h1 (R.o0 a z), h2⟩
def fRet (f : FE) : FS := fun D env => f env fun x _ => D.rt x
instance {t : TE} {f : FE} [h : PureE S t f] : PureS S (tRet t) (fRet f) := ⟨fun R q _ k _ _ => h.snd R q fun v x env1 H1 O1 R1 L1 r1 q1 => k v x H1 O1 R1.fr L1.raw (Rep.mono R1.ret _ _ r1) q1⟩
def fRetN : FS := fun D _ => D.rt .non
instance : PureS S tRetN fRetN := ⟨fun {O env σ H D De} R q _ k _ _ => k .non .non H O R.fr (.refl _) (show V.non = V.non from rfl) q⟩
def fIfS (c : FT) (f g : FS) : FS := fun D env => c env fun b env1 => if b = true then f D env1 else g D env1
instance {c : TT} {t u : TS} {fc : FT} {f g : FS} [hc : PureT S c fc] [h1 : PureS S t f] [h2 : PureS S u g] : PureS S (tIfS c t u) (fIfS fc f g) := ⟨fun R q k kr kb kc => hc.snd R q fun b env1 H1 O1 R1 L1 q1 => by
  cases b with
  | true => exact h1.snd R1 q1 (fun e s h o r l => k e s h o r (L1.raw.trans l)) (fun v x h o f l => kr v x h o f (L1.raw.trans l)) (fun e s h o r l => kb e s h o r (L1.raw.trans l)) (fun e s h o r l => kc e s h o r (L1.raw.trans l))
  | false => exact h2.snd R1 q1 (fun e s h o r l => k e s h o r (L1.raw.trans l)) (fun v x h o f l => kr v x h o f (L1.raw.trans l)) (fun e s h o r l => kb e s h o r (L1.raw.trans l)) (fun e s h o r l => kc e s h o r (L1.raw.trans l))⟩
def fAsg (f : FE) (g : FG) : FS := fun D env => f env fun x env1 => g x env1 D.nx
instance (priority := low) {t : TE} {g : TG} {f fg ix} [h : PureE S t f] [hg : PureG S g fg ix] : PureS S (tAsg t g) (fAsg f fg) := ⟨fun R q k _ _ _ =>
  h.snd R q fun v x env1 H1 O1 R1 L1 r1 q1 => hg.snd R1 r1 q1 fun env2 σ2 R2 _ _ _ q2 => k env2 σ2 H1 O1 R2 L1.raw q2⟩
def fSet (i : Nat) (f : FO) : FS := fun D env => f env fun sv env1 => D.nx (env1.set i (some sv))
instance {t : TE} {i : Nat} {f : FO} [h : PureO S t f] : PureS S (tAsg t (gName i)) (fSet i f) := ⟨fun R q k _ _ _ =>
  h.snd R q fun v sv env1 H1 O1 R1 L1 r1 n1 q1 => k _ _ H1 O1 (R1.put r1 (fun w => let ⟨_, _, _, z⟩ := n1 w; z) i) L1.raw q1⟩
def fPar (i j : Nat) (f g : FO) : FS := fun D env => f env fun sv env1 => g env1 fun sw env2 => D.nx ((env2.set i (some sv)).set j (some sw))
theorem SRep.step {O O' : Addr → Prop} {env env' : PEnv} {σ : St} {H H' : Hp} {sv : SV} {v : V} (r : SRep S O H sv v) (L : Lt S σ O env H O' env' H') (n : sv.own = true → ∀ (i : Nat) (sw : SV), env[i]? = some (some sw) → sw.own = true → σ[i]? ≠ some (some v)) : SRep S O' H' sv v := by
  cases hb : sv.own with
  | false =>
    cases sv with
    | fr x => exact Rep.mono L.fz _ _ r
    | ol xs => cases hb
    | oK ks xs => cases hb
    | oT ks xs => cases hb
  | true =>
    obtain ⟨l, rfl, a1, a2, a3⟩ := r.of hb
    have key : ∀ o, H l = some o → O' l ∧ H' l = some o := fun o e => L.loose l o a1 a2 (n hb) e
    have : ∃ o, H l = some o := by
      cases sv with
      | fr x => cases hb
      | ol xs => obtain ⟨vs, e, _⟩ := a3; exact ⟨_, e⟩
      | oK ks xs => obtain ⟨vs, e, _⟩ := a3; exact ⟨_, e⟩
      | oT ks xs => obtain ⟨vs, e, _⟩ := a3; exact ⟨_, e⟩
    obtain ⟨o, e⟩ := this
    exact .mk (key o e).1 a2 (a3.mono L.fz fun o e => (key o e).2)
instance {i j : Nat} {ta tb : TE} {f g : FO} [h1 : PureO S ta f] [h2 : PureO S tb g] : PureS S (tPar i j (tCons ta (tCons tb tNil))) (fPar i j f g) := ⟨fun R q k _ _ _ =>
  h1.snd R q fun v sv env1 H1 O1 R1 L1 r1 n1 q1 => h2.snd R1 q1 fun w sw env2 H2 O2 R2 L2 r2 n2 q2 => ⟨v, w, rfl, by
    have m1 : sv.own = true → ∀ (i : Nat) (sw : SV), env1[i]? = some (some sw) → sw.own = true → _ := fun h => let ⟨_, _, _, z⟩ := n1 h; z
    have m2 : sw.own = true → ∀ (i : Nat) (sx : SV), env2[i]? = some (some sx) → sx.own = true → _ := fun h => let ⟨_, _, _, z⟩ := n2 h; z
    have r1' := r1.step L2 m1
    have R3 := R2.put r1' (fun h i sx e w => let ⟨sy, f1, f2⟩ := L2.own i sx e w; m1 h i sy f1 f2) i
    refine k _ _ H2 O2 (R3.put r2 (fun h k sx e w => ?_) j) (L1.raw.trans L2.raw) q2
    by_cases hk : i = k
    · subst hk
      have hi : i < env2.length := by
        have := (List.getElem?_eq_some_iff.mp e).1
        rw [List.length_set] at this; exact this
      rw [List.getElem?_set_self hi] at e
      cases Option.some.inj (Option.some.inj e)
      rw [List.getElem?_set_self (R2.len ▸ hi)]
      intro z
      obtain ⟨l, rfl, nl, _⟩ := n2 h
      obtain ⟨l', e1, o1, _, own⟩ := r1.of w
      obtain ⟨o, q, _⟩ := R1.oH l' o1
      rw [Option.some.inj (Option.some.inj z)] at e1
      injection e1 with e1; subst e1
      rw [nl] at q; cases q
    · rw [List.getElem?_set_ne hk] at e ⊢
      exact m2 h k sx e w⟩⟩
end
end PL

set_option Elab.async false
set_option linter.all false
set_option maxRecDepth 100000
set_option maxHeartbeats 4000000
/-! loops, comprehensions -/
namespace PL
open PySem L2
/-- what a loop walks, turn by turn -/
structure WalkP (J : It) (xs : List PV) (F : Fz) : Prop where
  ex : ∃ n G Y, Walk J n G Y ∧ n = xs.length ∧ (∀ H2 : Hp, (∀ a o, F a o → At H2 a o) → G H2) ∧
    ∀ i H2 O2 v H3, i < n → Le F (fz O2 H2) → OnH O2 H2 → Y i H2 v H3 → Same H2 H3 ∧ ∃ x, xs[i]? = some x ∧ Rep (fz O2 H3) x v
abbrev FI := PEnv → (List PV → PEnv → Prop) → Prop
class PureI (S : Sit) (wi : TI) (f : outParam FI) : Prop where
  snd : ∀ {O : Addr → Prop} {env : PEnv} {σ : St} {H : Hp} {R : It → Hp → Prop} {Qp : List PV → PEnv → Prop}, Rel S O env σ H → f env Qp →
    (∀ J xs env' H' O', Rel S O' env' σ H' → Lt S σ O env H O' env' H' → WalkP J xs (fz O' H') → Qp xs env' → R J H') → wi σ H R
def pfor (g : FG) (b : FS) (De : FEnds) : List PV → PEnv → Prop
  | [], env => De.nx env
  | x :: xs, env => g x env fun env1 => b { De with nx := pfor g b De xs, ct := pfor g b De xs, bk := De.nx } env1
def fFor (fi : FI) (g : FG) (b : FS) : FS := fun De env => fi env fun xs env1 => pfor g b De xs env1
def pwhile (c : FT) (b : FS) (De : FEnds) : Nat → PEnv → Prop
  | 0, _ => False
  | n + 1, env => c env fun t env1 => if t = true then b { De with nx := pwhile c b De n, ct := pwhile c b De n, bk := De.nx } env1 else De.nx env1
def fWhile (c : FT) (b : FS) : FS := fun De env => ∃ n, pwhile c b De n env
section
variable {S : Sit}
instance {wi : TI} {g : TG} {tb : TS} {fi : FI} {fg : FG} {ix} {fb : FS} [hi : PureI S wi fi] [hg : PureG S g fg ix] [hb : PureS S tb fb] : PureS S (tFor wi g tb) (fFor fi fg fb) := ⟨fun {O env σ H D De} R q k kr kb kc =>
  hi.snd R q fun J xs env1 H1 O1 R1 L1 W q1 => by
    obtain ⟨n, G, Y, w, rfl, hG, hY⟩ := W.ex
    refine for_it w (fun i σ' H' => ∃ env' O', Rel S O' env' σ' H' ∧ Le (fzr O1 H1) (fzr O' H') ∧ pfor fg fb De (xs.drop i) env') ⟨env1, O1, R1, .refl _, by simpa using q1⟩ (fun i σ' H' _ ⟨env', O', R', L', _⟩ => hG H' fun a o z => (L'.fz a o z).2) (fun i v σ' H' H2 hi' ⟨env', O', R', L', q'⟩ y => ?_) (fun σ' H' ⟨env', O', R', L', q'⟩ => ?_)
    · obtain ⟨sm, x, ex, rx⟩ := hY i H' O' v H2 hi' L'.fz R'.oH y
      have R2 := R'.same sm
      obtain ⟨hlt, rfl⟩ := List.getElem?_eq_some_iff.mp ex
      rw [List.drop_eq_getElem_cons hlt] at q'
      refine hg.snd R2 rx q' fun env3 σ3 R3 _ _ _ q3 => ?_
      have L3 : Le (fzr O1 H1) (fzr O' H2) := L'.trans (raw_same sm)
      exact hb.snd R3 q3 (fun e s h o r l z => ⟨e, o, r, L3.trans l, z⟩) (fun v x h o f l => kr v x h o f (L1.raw.trans (L3.trans l))) (fun e s h o r l z => k e s h o r (L1.raw.trans (L3.trans l)) z) (fun e s h o r l z => ⟨e, o, r, L3.trans l, z⟩)
    · rw [List.drop_length] at q'
      exact k env' σ' H' O' R' (L1.raw.trans L') q'⟩
instance {c : TT} {tb : TS} {fc : FT} {fb : FS} [hc : PureT S c fc] [hb : PureS S tb fb] : PureS S (tWhile c tb) (fWhile fc fb) := ⟨fun {O env σ H D De} R q k kr kb kc => by
  obtain ⟨n, q⟩ := q
  refine ⟨fun m σ' H' => ∃ env' O', Rel S O' env' σ' H' ∧ Le (fzr O H) (fzr O' H') ∧ pwhile fc fb De m env', ⟨n, env, O, R, .refl _, q⟩, ?_⟩
  rintro m σ' H' ⟨env', O', R', L', q'⟩
  cases m with
  | zero => exact q'.elim
  | succ m =>
    refine hc.snd R' q' fun b env1 H1 O1 R1 L1 q1 => ?_
    cases b with
    | true => exact ⟨fun σ' H' => ∃ env' O', Rel S O' env' σ' H' ∧ Le (fzr O H) (fzr O' H') ∧ pwhile fc fb De m env', fun σ2 H2 z => ⟨m, Nat.lt_succ_self _, z⟩,
        hb.snd R1 q1 (fun e s h o r l z => ⟨e, o, r, L'.trans (L1.raw.trans l), z⟩) (fun v x h o f l => kr v x h o f (L'.trans (L1.raw.trans l))) (fun e s h o r l z => k e s h o r (L'.trans (L1.raw.trans l)) z) (fun e s h o r l z => ⟨e, o, r, L'.trans (L1.raw.trans l), z⟩)⟩
    | false => exact k env1 σ' H1 O1 R1 (L'.trans L1.raw) q1⟩
/-! ### comprehensions -/
def wipeE (env : PEnv) : List Nat → PEnv
  | [] => env
  | v :: vs => (wipeE env vs).set v none
theorem wipeE_length (env : PEnv) : ∀ vs, (wipeE env vs).length = env.length
  | [] => rfl
  | v :: vs => by unfold wipeE; rw [List.length_set, wipeE_length env vs]
theorem wipeE_some {env : PEnv} {i : Nat} {x : SV} : ∀ {vs : List Nat}, (wipeE env vs)[i]? = some (some x) → env[i]? = some (some x) ∧ i ∉ vs
  | [], h => ⟨h, by simp⟩
  | v :: vs, h => by
    unfold wipeE at h
    by_cases hi : v = i
    · subst hi
      by_cases hv : v < (wipeE env vs).length
      · rw [List.getElem?_set_self hv] at h; cases h
      · rw [List.getElem?_eq_none (by rw [List.length_set]; omega)] at h; cases h
    · rw [List.getElem?_set_ne hi] at h
      obtain ⟨a, b⟩ := wipeE_some (vs := vs) h
      exact ⟨a, fun z => (List.mem_cons.mp z).elim (fun q => hi q.symm) b⟩
theorem wipe_ne {σ : St} {i : Nat} : ∀ {vs : List Nat}, i ∉ vs → (wipe σ vs)[i]? = σ[i]?
  | [], _ => rfl
  | v :: vs, h => by
    unfold wipe
    rw [List.getElem?_set_ne (fun z => h (by rw [z]; exact List.mem_cons_self ..))]
    exact wipe_ne fun z => h (List.mem_cons_of_mem _ z)
theorem wipe_mem {σ : St} {i : Nat} : ∀ {vs : List Nat}, i ∈ vs → i < σ.length → (wipe σ vs)[i]? = some none
  | v :: vs, h, hl => by
    unfold wipe
    by_cases e : v = i
    · subst e
      rw [List.getElem?_set_self (by rw [wipe_length]; exact hl)]
    · rw [List.getElem?_set_ne e]
      exact wipe_mem ((List.mem_cons.mp h).resolve_left fun z => e z.symm) hl
theorem wipe_eq {σ ρ : St} {vs : List Nat} (hl : ρ.length = σ.length) (h : ∀ (i : Nat), i ∉ vs → ρ[i]? = σ[i]?) : wipe ρ vs = wipe σ vs := by
  apply List.ext_getElem?
  intro i
  by_cases hi : i ∈ vs
  · by_cases lt : i < σ.length
    · rw [wipe_mem hi lt, wipe_mem hi (hl ▸ lt)]
    · rw [List.getElem?_eq_none (by rw [wipe_length]; omega), List.getElem?_eq_none (by rw [wipe_length]; omega)]
  · rw [wipe_ne hi, wipe_ne hi, h i hi]
theorem Rel.wipe {O : Addr → Prop} {env : PEnv} {σ : St} {H : Hp} (R : Rel S O env σ H) (vs : List Nat) : Rel S O (wipeE env vs) (L2.wipe σ vs) H :=
  ⟨R.ok, R.fr, R.o0, R.oH, fun i sv e => let ⟨h1, h2⟩ := wipeE_some e; let ⟨v, a, b⟩ := R.slot i sv h1; ⟨v, by rw [wipe_ne h2]; exact a, b⟩,
    fun i j sv sw l hij e1 e2 w1 w2 e3 => by
      obtain ⟨h1, h2⟩ := wipeE_some e1
      obtain ⟨h3, h4⟩ := wipeE_some e2
      rw [wipe_ne h2] at e3
      rw [wipe_ne h4]
      exact R.apart i j sv sw l hij h1 h3 w1 w2 e3, by rw [wipeE_length, wipe_length]; exact R.len⟩
theorem Rel.unwipe {O : Addr → Prop} {env : PEnv} {σ : St} {vs : List Nat} {H : Hp} (R : Rel S O env (L2.wipe σ vs) H) (hl : env.length = σ.length) : Rel S O env σ H :=
  ⟨R.ok, R.fr, R.o0, R.oH, fun i sv e => let ⟨v, a, b⟩ := R.slot i sv e; ⟨v, (wipe_some a).1, b⟩,
    fun i j sv sw l hij e1 e2 w1 w2 e3 e4 => by
      obtain ⟨v, a, b⟩ := R.slot i sv e1
      obtain ⟨w, c, d⟩ := R.slot j sw e2
      have a1 := (wipe_some a).1
      have c1 := (wipe_some c).1
      rw [e3] at a1; rw [e4] at c1
      cases Option.some.inj (Option.some.inj a1); cases Option.some.inj (Option.some.inj c1)
      exact R.apart i j sv sw l hij e1 e2 w1 w2 a c, hl⟩
theorem Rel.release {O : Addr → Prop} {env : PEnv} {σ : St} {H : Hp} (R : Rel S O env σ H) {p : Addr} (hp : S.H0 p = none) (n : ∀ (i : Nat) (sv : SV), env[i]? = some (some sv) → sv.own = true → σ[i]? ≠ some (some (.ref p))) : Rel S (fun a => O a ∧ a ≠ p) env σ H := by
  have le : Le (fz O H) (fz (fun a => O a ∧ a ≠ p) H) := fun a u ⟨h1, h2⟩ => ⟨fun z => h1 z.1, h2⟩
  refine ⟨R.ok, R.fr, fun a h => ⟨R.o0 a h, fun z => ?_⟩, fun a h => R.oH a h.1, fun i sv e => ?_, R.apart, R.len⟩
  · subst z
    obtain ⟨o, q⟩ := R.ok.oH a h
    rw [hp] at q; cases q
  · obtain ⟨v, h1, h2⟩ := R.slot i sv e
    refine ⟨v, h1, ?_⟩
    cases hb : sv.own with
    | true =>
      obtain ⟨l, rfl, a1, a2, a3⟩ := h2.of hb
      exact .mk ⟨a1, fun z => n i sv e hb (z ▸ h1)⟩ a2 (a3.mono le fun _ z => z)
    | false =>
      cases sv with
      | fr x => exact Rep.mono le _ _ h2
      | ol xs => cases hb
      | oK ks xs => cases hb
      | oT ks xs => cases hb
theorem Lt.release {O : Addr → Prop} {env : PEnv} {σ : St} {H : Hp} {O1 env1 H1} (L : Lt S σ O env H O1 env1 H1) {p : Addr} (hp : H p = none) : Lt S σ O env H (fun a => O1 a ∧ a ≠ p) env1 H1 :=
  ⟨L.raw.trans fun a u ⟨h1, h2⟩ => ⟨fun z => h1 z.1, h2⟩, fun a o h1 h2 h3 h4 => let ⟨k1, k2⟩ := L.loose a o h1 h2 h3 h4; ⟨⟨k1, fun z => by subst z; rw [hp] at h4; cases h4⟩, k2⟩, L.own, L.there⟩
/-- a turn's steps, seen from outside the block -/
theorem Lt.under {O : Addr → Prop} {env envA envB : PEnv} {σ σ2 : St} {vs : List Nat} {H H2 : Hp} {O2 : Addr → Prop} (L : Lt S σ2 O envA H O2 envB H2)
    (g : ∀ (i : Nat) (sv : SV), envA[i]? = some (some sv) → sv.own = true → env[i]? = some (some sv) ∧ σ2[i]? = (wipe σ vs)[i]?) (R : Rel S O envA σ2 H) : Lt S σ O env H O2 (wipeE envB vs) H2 :=
  ⟨L.raw, fun a o h1 h2 h3 h4 => L.loose a o h1 h2 (fun i sv e w z => by
      obtain ⟨f1, f2⟩ := g i sv e w
      rw [f2] at z
      exact h3 i sv f1 w (wipe_some z).1) h4,
    fun i sv e w => by
      obtain ⟨f1, f2⟩ := wipeE_some e
      obtain ⟨sw, g1, g2⟩ := L.own i sv f1 w
      exact ⟨sw, (g i sw g1 g2).1, g2⟩, L.there⟩
theorem Lt.poke {O : Addr → Prop} {env env1 : PEnv} {σ : St} {H H1 : Hp} {O1 : Addr → Prop} (L : Lt S σ O env H O1 env1 H1) {p : Addr} (hp : H p = none) (o1 : O1 p) (o : HO) : Lt S σ O env H O1 env1 (upd H1 p o) :=
  ⟨L.raw.trans fun a u ⟨h1, h2⟩ => ⟨h1, by rw [upd_ne (fun z : a = p => by subst z; exact h1 o1)]; exact h2⟩, fun a u h1 h2 h3 h4 => let ⟨k1, k2⟩ := L.loose a u h1 h2 h3 h4; ⟨k1, by rw [upd_ne (ne_of_none h4 hp)]; exact k2⟩, L.own,
    fun a u e => let ⟨v, q⟩ := L.there a u e; ⟨v, by rw [upd_ne (ne_of_none e hp)]; exact q⟩⟩
/-- what no slot knows is changed -/
theorem Rel.poke {O : Addr → Prop} {env : PEnv} {σ : St} {H : Hp} (R : Rel S O env σ H) {p : Addr} (o1 : O p) (n0 : S.H0 p = none) (n : ∀ (i : Nat) (sv : SV), env[i]? = some (some sv) → sv.own = true → σ[i]? ≠ some (some (.ref p))) (o : HO) (no : nt o) : Rel S O env σ (upd H p o) := by
  have le : Le (fz O H) (fz O (upd H p o)) := fun a u ⟨h1, h2⟩ => ⟨h1, h2.ne fun z : a = p => by subst z; exact h1 o1⟩
  have nDp : ∀ a, S.D a → a ≠ p := fun a d q => by
    subst q
    obtain ⟨x, y⟩ := R.ok.oH a (R.ok.dO a d)
    rw [n0] at y; cases y
  refine ⟨R.ok, ⟨fun a u nd z => ?_, fun a d => ?_, R.ok.jst H _ R.fr.j (fun a d => upd_ne (nDp a d)) (R.extStay o1)⟩, R.o0, fun a h => ?_, fun i sv e => ?_, R.apart, R.len⟩
  · rw [upd_ne (fun q : a = p => by subst q; rw [n0] at z; cases z)]
    exact R.fr.same a u nd z
  · rw [upd_ne (nDp a d)]
    exact R.fr.stay a d
  · by_cases q : a = p
    · subst q; exact ⟨o, upd_same, no⟩
    · rw [upd_ne q]; exact R.oH a h
  · obtain ⟨v, h1, h2⟩ := R.slot i sv e
    refine ⟨v, h1, ?_⟩
    cases hb : sv.own with
    | true =>
      obtain ⟨l, rfl, a1, a2, a3⟩ := h2.of hb
      exact .mk a1 a2 (a3.mono le fun u z => by rw [upd_ne (fun q : l = p => by subst q; exact n i sv e hb h1)]; exact z)
    | false =>
      cases sv with
      | fr x => exact Rep.mono le _ _ h2
      | ol xs => cases hb
      | oK ks xs => cases hb
      | oT ks xs => cases hb
def plc (g : FG) (t : FT) (e : FE) (vs : List Nat) (Q : List PV → PEnv → Prop) : List PV → List PV → PEnv → Prop
  | [], acc, env => Q acc env
  | x :: xs, acc, env => g x env fun env1 => t env1 fun b env2 => if b = true then e env2 fun y env3 => plc g t e vs Q xs (acc ++ [y]) (wipeE env3 vs) else plc g t e vs Q xs acc (wipeE env2 vs)
def fLcL (fi : FI) (g : FG) (ix : List Nat) (t : FT) (e : FE) (vs : List Nat) : PEnv → (List PV → PEnv → Prop) → Prop := fun env Q => fi env fun xs env1 => xs.length ≤ sizeLine ∧ (ix.all fun i => vs.contains i) = true ∧ plc g t e vs Q xs [] (wipeE env1 vs)
theorem lc_snd {wi : TI} {g : TG} {tt : TT} {te : TE} {vs : List Nat} {fi fg ix ft fe} [hi : PureI S wi fi] [hg : PureG S g fg ix] [ht : PureT S tt ft] [he : PureE S te fe]
    {O : Addr → Prop} {env : PEnv} {σ : St} {H : Hp} {Q : VK} {Qp : List PV → PEnv → Prop} (R : Rel S O env σ H) (q : fLcL fi fg ix ft fe vs env Qp)
    (k : ∀ D ws acc env' H' O', Rel S O' env' σ H' → Lt S σ O env H O' env' H' → O' D → S.H0 D = none → H D = none → (∀ (i : Nat) (sv : SV), env'[i]? = some (some sv) → sv.own = true → σ[i]? ≠ some (some (.ref D))) → H' D = some (.lst ws) → Reps (fz O' H') acc ws → Qp acc env' → Q (.ref D) H') :
    tLc wi g tt te vs σ H Q := hi.snd R q fun J xs env1 H1 O1 R1 L1 W ⟨hx, hix, q1⟩ D hD => by
  obtain ⟨n, G, Y, w, rfl, hG, hY⟩ := W.ex
  have hsub : ∀ i, i ∉ vs → i ∉ ix := fun i h z => by
    have := List.all_eq_true.mp hix i z
    rw [List.contains_iff_mem] at this
    exact h this
  have n0 := R1.new0 hD
  have nD : ∀ (i : Nat) (sv : SV), env1[i]? = some (some sv) → sv.own = true → σ[i]? ≠ some (some (.ref D)) := fun i sv e ho => R1.ownThere e ho hD
  refine lc_it w (fun i Hc => ∃ env' O' ws acc, Rel S O' env' (wipe σ vs) Hc ∧ Lt S σ O1 env1 H1 O' env' Hc ∧ O' D ∧ Hc D = some (.lst ws) ∧ Reps (fz O' Hc) acc ws ∧ acc.length ≤ i ∧ env'.length = σ.length ∧ plc fg ft fe vs Qp (xs.drop i) acc env') ?_ ?_ ?_ ?_
  · obtain ⟨R2, L2⟩ := R1.hold hD (.lst []) trivial
    refine ⟨_, _, [], [], R2.wipe vs, ⟨L2.raw, L2.loose, fun i sv e ho => L2.own i sv (wipeE_some e).1 ho, L2.there⟩, .inr rfl, upd_same, trivial, Nat.le_refl _, by rw [wipeE_length]; exact R1.len, by simpa using q1⟩
  · rintro i Hc _ ⟨env', O', ws, acc, R', L', _⟩
    exact hG Hc fun a o z => (L'.fz a o z).2
  · rintro i v Hc H2 hi' ⟨env', O', ws, acc, R', L', oD, hDc, rs, hl, hlen, q'⟩ y
    obtain ⟨sm, x, ex, rx⟩ := hY i Hc O' v H2 hi' L'.fz R'.oH y
    have R2 := R'.same sm
    have hD2 := sm _ _ hDc
    have rs2 := Reps.mono (fz_same (O := O') sm) _ _ rs
    have L2 := L'.trans (Lt.same sm)
    obtain ⟨hlt, rfl⟩ := List.getElem?_eq_some_iff.mp ex
    rw [List.drop_eq_getElem_cons hlt] at q'
    refine hg.snd R2 rx q' fun envA σA RA sA gA zA qA => ?_
    have lA : σA.length = σ.length := by rw [← RA.len, zA, hlen]
    have wA : wipe σA vs = wipe σ vs := wipe_eq lA fun j hj => ((sA j (hsub j hj)).1.trans (wipe_ne hj))
    refine ⟨wA, ?_⟩
    have nA : ∀ (i : Nat) (sv : SV), envA[i]? = some (some sv) → sv.own = true → σA[i]? ≠ some (some (.ref D)) := fun i sv e ho z => by
      obtain ⟨g1, g2⟩ := gA i sv e ho
      obtain ⟨sw, g3, g4⟩ := L'.own i sv g1 ho
      rw [g2] at z
      exact nD i sw g3 g4 (wipe_some z).1
    refine ht.snd RA qA fun b env3 H3 O3 R3 L3 q3 => ?_
    cases b with
    | true =>
      refine he.snd R3 q3 fun v4 y env4 H4 O4 R4 L4 r4 q4 => ?_
      have LL := L3.trans L4
      obtain ⟨o4, e4⟩ := LL.loose D _ oD n0 nA hD2
      have n4 : ∀ (i : Nat) (sv : SV), env4[i]? = some (some sv) → sv.own = true → σA[i]? ≠ some (some (.ref D)) := fun i sv e ho => let ⟨sw, f1, f2⟩ := LL.own i sv e ho; nA i sw f1 f2
      have R5 := (R4.poke o4 n0 n4 (.lst (ws ++ [v4])) trivial).wipe vs
      rw [wA] at R5
      have rr : Reps (fz O4 H4) (acc ++ [y]) (ws ++ [v4]) := (Reps.mono LL.fz _ _ rs2).append ⟨r4, trivial⟩
      refine ⟨ws, e4, by rw [← rs.length]; omega, wipeE env4 vs, O4, ws ++ [v4], acc ++ [y], R5, (L2.trans (LL.under gA RA)).poke hD o4 _, o4, upd_same, Reps.mono (fun a u ⟨h1, h2⟩ => ⟨h1, h2.ne fun z : a = D => by subst z; exact h1 o4⟩) _ _ rr, by rw [List.length_append]; exact Nat.succ_le_succ hl, ?_, q4⟩
      rw [wipeE_length, R4.len, lA]
    | false =>
      obtain ⟨o4, e4⟩ := L3.loose D _ oD n0 nA hD2
      have R5 := R3.wipe vs
      rw [wA] at R5
      refine ⟨wipeE env3 vs, O3, ws, acc, R5, L2.trans (L3.under gA RA), o4, e4, Reps.mono L3.fz _ _ rs2, Nat.le_succ_of_le hl, ?_, q3⟩
      rw [wipeE_length, R3.len, lA]
  · rintro Hc ⟨env', O', ws, acc, R', L', oD, hDc, rs, hl, hlen, q'⟩
    rw [List.drop_length] at q'
    exact k D ws acc env' Hc O' (R'.unwipe hlen) (L1.trans L') oD n0 (L1.at hD) (fun i sv e ho => let ⟨sw, f1, f2⟩ := L'.own i sv e ho; nD i sw f1 f2) hDc rs q'
def fLc (fi : FI) (g : FG) (ix : List Nat) (t : FT) (e : FE) (vs : List Nat) : FE := fun env Q => fLcL fi g ix t e vs env fun ys env1 => Q (.lst ys) env1
def fLcO (fi : FI) (g : FG) (ix : List Nat) (t : FT) (e : FE) (vs : List Nat) : FO := fun env Q => fLcL fi g ix t e vs env fun ys env1 => Q (.ol ys) env1
instance {wi : TI} {g : TG} {tt : TT} {te : TE} {vs : List Nat} {fi fg ix ft fe} [hi : PureI S wi fi] [hg : PureG S g fg ix] [ht : PureT S tt ft] [he : PureE S te fe] : PureE S (tLc wi g tt te vs) (fLc fi fg ix ft fe vs) := ⟨fun R q k =>
  lc_snd R q fun D ws acc env1 H1 O1 R1 L1 o1 n0 hD n1 e1 r1 q1 => k _ (.lst acc) env1 H1 _ (R1.release n0 n1) (L1.release hD) ⟨D, ws, rfl, ⟨fun z => z.2 rfl, .of e1⟩, Reps.mono (fun a u ⟨h1, h2⟩ => ⟨fun z => h1 z.1, h2⟩) _ _ r1⟩ q1⟩
instance {wi : TI} {g : TG} {tt : TT} {te : TE} {vs : List Nat} {fi fg ix ft fe} [hi : PureI S wi fi] [hg : PureG S g fg ix] [ht : PureT S tt ft] [he : PureE S te fe] : PureO S (tLc wi g tt te vs) (fLcO fi fg ix ft fe vs) := ⟨fun R q k =>
  lc_snd R q fun D ws acc env1 H1 O1 R1 L1 o1 n0 hD n1 e1 r1 q1 => k _ (.ol acc) env1 H1 _ R1 L1 ⟨D, rfl, o1, n0, ws, e1, r1⟩ (fun _ => ⟨D, rfl, hD, n1⟩) q1⟩
end
end PL

set_option Elab.async false
set_option linter.all false
set_option maxRecDepth 100000
set_option maxHeartbeats 4000000
/-! operators, built-ins, methods, what loops walk -/
namespace PL
open PySem L2
theorem Reps.cut {F : Fz} {xs : List PV} {vs : List V} (r : Reps F xs vs) (a n : Nat) : Reps F ((xs.drop a).take n) ((vs.drop a).take n) := (r.drop a).take n
def cutP (xs : List PV) (lo hi : Option Int) : List PV := (xs.drop (HT.sIx xs.length 0 lo)).take (HT.sIx xs.length xs.length hi - HT.sIx xs.length 0 lo)
theorem Reps.cutV {F : Fz} {xs : List PV} {vs : List V} (r : Reps F xs vs) (lo hi : Option Int) : Reps F (cutP xs lo hi) (L2.cutV vs lo hi) := by
  unfold cutP L2.cutV
  rw [r.length]
  exact r.cut _ _
theorem Reps.atI {F : Fz} {xs : List PV} {vs : List V} {i : Int} {x : PV} (r : Reps F xs vs) (e : L2.atI xs i = some x) : ∃ v, L2.atI vs i = some v ∧ Rep F x v := by
  unfold L2.atI at e ⊢
  rw [r.length] at e
  cases h : ixN vs.length i with
  | none => rw [h] at e; cases e
  | some j => rw [h] at e; exact r.get e
theorem fz_list {K : PySem.W.Frag} {O : Addr → Prop} {H : Hp} {a : Addr} {vs : List V} (h : fz O H a (.lst vs)) : SqL K H a vs := SqL.of h.2.lst
theorem fz_tup {K : PySem.W.Frag} {O : Addr → Prop} {H : Hp} {a : Addr} {vs : List V} (h : fz O H a (.tup vs)) : SqT K H a vs := SqT.of h.2.tup
/-- a new object that stands still -/
theorem rep_new {O : Addr → Prop} {H : Hp} (h : OnH O H) {p : Addr} (hp : H p = none) (o : HO) (n : nf o := by trivial) : Same H (upd H p o) ∧ Le (fz O H) (fz O (upd H p o)) ∧ fz O (upd H p o) p o :=
  ⟨same_upd hp, fz_same (same_upd hp), ⟨fun z => (by obtain ⟨u, e, _⟩ := h p z; rw [hp] at e; cases e), .of upd_same n⟩⟩
section
variable {S : Sit}
/-! ### two values -/
def fII (h : Int → Int → Int) : PV → PV → (PV → Prop) → Prop := fun x y Q => match x, y with
  | .int i, .int j => Q (.int (h i j))
  | _, _ => False
def fIB (h : Int → Int → Bool) : PV → PV → (PV → Prop) → Prop := fun x y Q => match x, y with
  | .int i, .int j => Q (.bl (h i j))
  | _, _ => False
def fIIc (c : Int → Int → Prop) (h : Int → Int → Int) : PV → PV → (PV → Prop) → Prop := fun x y Q => match x, y with
  | .int i, .int j => c i j ∧ Q (.int (h i j))
  | _, _ => False
theorem two_int {x y : PV} {P : Int → Int → Prop} (h : match x, y with | .int i, .int j => P i j | _, _ => False) : ∃ i j, x = .int i ∧ y = .int j ∧ P i j := by
  cases x with
  | int i => cases y with
    | int j => exact ⟨i, j, rfl, rfl, h⟩
    | _ => exact h.elim
  | _ => exact h.elim
instance {h : Int → Int → Int} : R2P S (rI0 fun i j => .int (h i j)) (fII h) := ⟨fun {O H v w x y Q Qp} _ r1 r2 q k => by
  obtain ⟨i, j, rfl, rfl, q⟩ := two_int q
  exact ⟨i, j, r1, r2, k _ (.int _) H (.refl _) (show V.int _ = _ from rfl) q⟩⟩
instance {h : Int → Int → Bool} : R2P S (rI0 fun i j => .bl (h i j)) (fIB h) := ⟨fun {O H v w x y Q Qp} _ r1 r2 q k => by
  obtain ⟨i, j, rfl, rfl, q⟩ := two_int q
  exact ⟨i, j, r1, r2, k _ (.bl _) H (.refl _) (show V.bl _ = _ from rfl) q⟩⟩
instance {c : Int → Int → Prop} {h : Int → Int → Int} : R2P S (rI c fun i j => .int (h i j)) (fIIc c h) := ⟨fun {O H v w x y Q Qp} _ r1 r2 q k => by
  obtain ⟨i, j, rfl, rfl, c, q⟩ := two_int q
  exact ⟨i, j, r1, r2, c, k _ (.int _) H (.refl _) (show V.int _ = _ from rfl) q⟩⟩
def fIU (h : Int → Int) : PV → (PV → Prop) → Prop := fun x Q => match x with
  | .int i => Q (.int (h i))
  | _ => False
instance {h : Int → Int} : R1P S (rU fun i => .int (h i)) (fIU h) := ⟨fun {O H v x Q Qp} _ r1 q k => by
  cases x with
  | int i => exact ⟨i, r1, k _ (.int _) H (.refl _) (show V.int _ = _ from rfl) q⟩
  | _ => exact q.elim⟩
/-- none, bools, ints, texts -/
def PV.flat : PV → Option V
  | .non => some .non
  | .bl b => some (.bl b)
  | .int i => some (.int i)
  | .str x => some (.str x)
  | _ => none
theorem flat_rep {F : Fz} {x : PV} {v w : V} (r : Rep F x v) (e : x.flat = some w) : v = w := by
  cases x with
  | non => cases e; exact r
  | bl b => cases e; exact r
  | int i => cases e; exact r
  | str s => cases e; exact r
  | _ => cases e
def fEqS (neg : Bool) : PV → PV → (PV → Prop) → Prop := fun x y Q => match x.flat, y.flat with
  | some v, some w => scal v w = true ∧ Q (.bl (if neg then !decide (v = w) else decide (v = w)))
  | _, _ => False
instance : R2P S rEq (fEqS false) := ⟨fun {O H v w x y Q Qp} _ r1 r2 q k => by
  unfold fEqS at q
  cases e1 : x.flat with
  | none => rw [e1] at q; exact q.elim
  | some a =>
    cases e2 : y.flat with
    | none => rw [e1, e2] at q; exact q.elim
    | some b =>
      rw [e1, e2] at q
      cases flat_rep r1 e1; cases flat_rep r2 e2
      exact ⟨q.1, k _ (.bl _) H (.refl _) (show V.bl _ = _ from rfl) q.2⟩⟩
instance : R2P S rNe (fEqS true) := ⟨fun {O H v w x y Q Qp} _ r1 r2 q k => by
  unfold fEqS at q
  cases e1 : x.flat with
  | none => rw [e1] at q; exact q.elim
  | some a =>
    cases e2 : y.flat with
    | none => rw [e1, e2] at q; exact q.elim
    | some b =>
      rw [e1, e2] at q
      cases flat_rep r1 e1; cases flat_rep r2 e2
      exact ⟨q.1, k _ (.bl _) H (.refl _) (show V.bl _ = _ from rfl) q.2⟩⟩
def fAddS : PV → PV → (PV → Prop) → Prop := fun x y Q => match x, y with
  | .str a, .str b => a.length + b.length ≤ sizeLine ∧ Q (.str (a ++ b))
  | _, _ => False
theorem two_str {x y : PV} {P : Str → Str → Prop} (h : match x, y with | .str i, .str j => P i j | _, _ => False) : ∃ i j, x = .str i ∧ y = .str j ∧ P i j := by
  cases x with
  | str i => cases y with
    | str j => exact ⟨i, j, rfl, rfl, h⟩
    | _ => exact h.elim
  | _ => exact h.elim
instance : R2P S (fun x y H Q => ∃ i j, x = V.str i ∧ y = V.str j ∧ i.length + j.length ≤ sizeLine ∧ Q (V.str (i ++ j)) H) fAddS := ⟨fun {O H v w x y Q Qp} _ r1 r2 q k => by
  obtain ⟨i, j, rfl, rfl, c, q⟩ := two_str q
  exact ⟨i, j, r1, r2, c, k _ (.str _) H (.refl _) (show V.str _ = _ from rfl) q⟩⟩
def PV.isNon : PV → Bool
  | .non => true
  | .raw v => decide (v = .non)
  | _ => false
def fIsN (neg : Bool) : PV → PV → (PV → Prop) → Prop := fun x y Q => match y with
  | .non => Q (.bl (if neg then !x.isNon else x.isNon))
  | _ => False
theorem isN_rep {F : Fz} {x : PV} {v : V} (r : Rep F x v) : decide (v = .non) = x.isNon := by
  cases x with
  | non => cases (show v = V.non from r); rfl
  | bl b => cases (show v = V.bl b from r); rfl
  | int i => cases (show v = V.int i from r); rfl
  | str s => cases (show v = V.str s from r); rfl
  | raw u => cases (show v = u from r); rfl
  | tup xs => obtain ⟨a, vs, rfl, _⟩ := r; rfl
  | lst xs => obtain ⟨a, vs, rfl, _⟩ := r; rfl
  | dK ks xs => obtain ⟨a, vs, rfl, _⟩ := r; rfl
  | dT ks xs => obtain ⟨a, vs, rfl, _⟩ := r; rfl
  | ins C fs xs => obtain ⟨a, dx, vs, rfl, _⟩ := r; rfl
instance : R2P S (fun x y H Q => y = V.non ∧ Q (V.bl (decide (x = V.non))) H) (fIsN false) := ⟨fun {O H v w x y Q Qp} _ r1 r2 q k => by
  cases y with
  | non =>
    refine ⟨r2, k _ (.bl _) H (.refl _) ?_ q⟩
    show V.bl _ = V.bl _
    rw [isN_rep r1]; rfl
  | _ => exact q.elim⟩
instance : R2P S (fun x y H Q => y = V.non ∧ Q (V.bl (!decide (x = V.non))) H) (fIsN true) := ⟨fun {O H v w x y Q Qp} _ r1 r2 q k => by
  cases y with
  | non =>
    refine ⟨r2, k _ (.bl _) H (.refl _) ?_ q⟩
    show V.bl _ = V.bl _
    rw [isN_rep r1]; rfl
  | _ => exact q.elim⟩
/-- t[i], xs[i] -/
def fIx : PV → PV → (PV → Prop) → Prop := fun x y Q => match x, y with
  | .lst xs, .int i => ∃ z, atI xs i = some z ∧ Q z
  | .tup xs, .int i => ∃ z, atI xs i = some z ∧ Q z
  | _, _ => False
def fIxL : PV → PV → (PV → Prop) → Prop := fun x y Q => match x, y with
  | .lst xs, .int i => ∃ z, atI xs i = some z ∧ Q z
  | _, _ => False
def fIxT : PV → PV → (PV → Prop) → Prop := fun x y Q => match x, y with
  | .tup xs, .int i => ∃ z, atI xs i = some z ∧ Q z
  | _, _ => False
theorem ixL_snd {K : PySem.W.Frag} {O : Addr → Prop} {H : Hp} {v w : V} {x y : PV} {Q : VK} {Qp : PV → Prop} (r1 : Rep (fz O H) x v) (r2 : Rep (fz O H) y w) (q : fIxL x y Qp) (k : ∀ z u H', Same H H' → Rep (fz O H') u z → Qp u → Q z H') : rIxL K v w H Q := by
  unfold fIxL at q
  cases x with
  | lst xs => cases y with
    | int i =>
      obtain ⟨a, vs, rfl, e, rs⟩ := r1
      obtain ⟨z, e1, q⟩ := q
      obtain ⟨u, e2, r3⟩ := rs.atI e1
      exact ⟨a, vs, i, u, rfl, r2, fz_list e, e2, k u z H (.refl _) r3 q⟩
    | _ => exact q.elim
  | _ => exact q.elim
theorem ixT_snd {K : PySem.W.Frag} {O : Addr → Prop} {H : Hp} {v w : V} {x y : PV} {Q : VK} {Qp : PV → Prop} (r1 : Rep (fz O H) x v) (r2 : Rep (fz O H) y w) (q : fIxT x y Qp) (k : ∀ z u H', Same H H' → Rep (fz O H') u z → Qp u → Q z H') : rIxT K v w H Q := by
  unfold fIxT at q
  cases x with
  | tup xs => cases y with
    | int i =>
      obtain ⟨a, vs, rfl, e, rs⟩ := r1
      obtain ⟨z, e1, q⟩ := q
      obtain ⟨u, e2, r3⟩ := rs.atI e1
      exact ⟨a, vs, i, u, rfl, r2, fz_tup e, e2, k u z H (.refl _) r3 q⟩
    | _ => exact q.elim
  | _ => exact q.elim
instance {K : PySem.W.Frag} : R2P S (rIxL K) fIxL := ⟨fun _ r1 r2 q k => ixL_snd r1 r2 q k⟩
instance {K : PySem.W.Frag} : R2P S (rIxT K) fIxT := ⟨fun _ r1 r2 q k => ixT_snd r1 r2 q k⟩
instance {K : PySem.W.Frag} : R2P S (rIx K) fIx := ⟨fun {O H v w x y Q Qp} _ r1 r2 q k => by
  cases x with
  | lst xs => exact .inl (ixL_snd r1 r2 (by cases y <;> exact q) k)
  | tup xs => exact .inr (.inl (ixT_snd r1 r2 (by cases y <;> exact q) k))
  | _ => exact q.elim⟩
/-- a list that an own slot knows, read at a place: it is not made to stand still -/
def peek (env : PEnv) (i : Nat) : Option PV := match env[i]? with
  | some (some sv) => some sv.pv
  | _ => none
theorem Rel.peek {O : Addr → Prop} {env : PEnv} {σ : St} {H : Hp} (R : Rel S O env σ H) {i : Nat} {x : PV} (e : PL.peek env i = some x) :
    ∃ v O', σ[i]? = some (some v) ∧ (∀ a, O' a → O a) ∧ Rep (fz O' H) x v ∧ Le (fz O H) (fz O' H) := by
  unfold PL.peek at e
  cases h : env[i]? with
  | none => rw [h] at e; cases e
  | some o =>
    cases o with
    | none => rw [h] at e; cases e
    | some sv =>
      rw [h] at e
      cases e
      obtain ⟨v, h1, h2⟩ := R.slot i sv h
      cases hb : sv.own with
      | false =>
        cases sv with
        | fr x => exact ⟨v, O, h1, fun _ z => z, h2, .refl _⟩
        | ol xs => cases hb
        | oK ks xs => cases hb
        | oT ks xs => cases hb
      | true =>
        obtain ⟨l, rfl, a1, a2, a3⟩ := h2.of hb
        exact ⟨_, fun a => O a ∧ a ≠ l, h1, fun a z => z.1, a3.rep (fun a o ⟨z1, z2⟩ => ⟨fun z => z1 z.1, z2⟩) (fun z => z.2 rfl) fun _ z => z, fun a o ⟨z1, z2⟩ => ⟨fun z => z1 z.1, z2⟩⟩
/-- its elements stand still -/
theorem Rel.peekL {O : Addr → Prop} {env : PEnv} {σ : St} {H : Hp} (R : Rel S O env σ H) {i : Nat} {xs : List PV} (e : PL.peek env i = some (.lst xs)) :
    ∃ a vs, σ[i]? = some (some (.ref a)) ∧ H a = some (.lst vs) ∧ Reps (fz O H) xs vs := by
  unfold PL.peek at e
  cases h : env[i]? with
  | none => rw [h] at e; cases e
  | some o =>
    cases o with
    | none => rw [h] at e; cases e
    | some sv =>
      rw [h] at e
      obtain ⟨v, h1, h2⟩ := R.slot i sv h
      cases sv with
      | fr x => cases Option.some.inj e; obtain ⟨a, vs, rfl, b, c⟩ := h2; exact ⟨a, vs, h1, b.2.lst, c⟩
      | ol ys => cases Option.some.inj e; obtain ⟨a, rfl, _, _, vs, b, c⟩ := h2; exact ⟨a, vs, h1, b, c⟩
      | oK ks ys => cases Option.some.inj e
      | oT ks ys => cases Option.some.inj e
theorem peek_some {env : PEnv} {i : Nat} {x : PV} (e : peek env i = some x) : ∃ sv, env[i]? = some (some sv) ∧ sv.pv = x := by
  unfold peek at e
  cases h : env[i]? with
  | none => rw [h] at e; cases e
  | some o =>
    cases o with
    | none => rw [h] at e; cases e
    | some sv => rw [h] at e; exact ⟨sv, rfl, Option.some.inj e⟩
theorem Rel.has {O : Addr → Prop} {env : PEnv} {σ : St} {H : Hp} (R : Rel S O env σ H) {i : Nat} (e : (PL.peek env i).isSome = true) : ∃ v, σ[i]? = some (some v) := by
  cases h : PL.peek env i with
  | none => rw [h] at e; cases e
  | some x =>
    obtain ⟨sv, h1, _⟩ := peek_some h
    obtain ⟨v, h2, _⟩ := R.slot i sv h1
    exact ⟨v, h2⟩
def fIxVar (i : Nat) (f : FE) : FE := fun env Q => (peek env i).isSome = true ∧ f env fun y env1 => ∃ xs j z, peek env1 i = some (.lst xs) ∧ y = .int j ∧ atI xs j = some z ∧ Q z env1
instance {K : PySem.W.Frag} {i : Nat} {tb : TE} {f : FE} [h : PureE S tb f] : PureE S (tOp (rIxL K) (tVar i) tb) (fIxVar i f) := ⟨fun {O env σ H Q Qp} R q k => by
  obtain ⟨v, hv⟩ := R.has q.1
  refine ⟨v, hv, h.snd R q.2 fun w y env1 H1 O1 R1 L1 r1 q1 => ?_⟩
  obtain ⟨xs, j, z, e1, rfl, e2, q1⟩ := q1
  obtain ⟨a, vs, s1, e3, rs⟩ := R1.peekL e1
  rw [hv] at s1
  cases Option.some.inj (Option.some.inj s1)
  obtain ⟨u, e4, r3⟩ := rs.atI e2
  exact ⟨a, vs, j, u, rfl, r1, SqL.of e3, e4, k u z env1 H1 O1 R1 L1 r3 q1⟩⟩
/-! ### built-ins -/
class CallP (S : Sit) (r : List V → Hp → VK → Prop) (f : outParam (List PV → (PV → Prop) → Prop)) : Prop where
  snd : ∀ {O : Addr → Prop} {H : Hp} {vs : List V} {xs : List PV} {Q : VK} {Qp : PV → Prop}, OnH O H → Reps (fz O H) xs vs → f xs Qp →
    (∀ z u H', Same H H' → Rep (fz O H') u z → Qp u → Q z H') → r vs H Q
def fCB (f : List PV → (PV → Prop) → Prop) (fa : FA) : FE := fun env Q => fa env fun xs env1 => f xs fun z => Q z env1
instance (priority := low) {r f} {t : TA} {fa : FA} [hr : CallP S r f] [ha : PureA S t fa] : PureE S (tCB r t) (fCB f fa) := ⟨fun R q k =>
  ha.snd R q fun vs xs env1 H1 O1 R1 L1 r1 q1 => hr.snd R1.oH r1 q1 fun z u H3 s r3 q3 => k z u env1 H3 O1 (R1.same s) (L1.trans (.same s)) r3 q3⟩
def one (P : PV → Prop) : List PV → Prop
  | [x] => P x
  | _ => False
def two (P : PV → PV → Prop) : List PV → Prop
  | [x, y] => P x y
  | _ => False
theorem one_rep {F : Fz} {xs : List PV} {vs : List V} {P : PV → Prop} (r : Reps F xs vs) (h : one P xs) : ∃ x v, xs = [x] ∧ vs = [v] ∧ Rep F x v ∧ P x := by
  match xs, vs, r, h with
  | [x], [v], r, h => exact ⟨x, v, rfl, rfl, r.1, h⟩
theorem two_rep {F : Fz} {xs : List PV} {vs : List V} {P : PV → PV → Prop} (r : Reps F xs vs) (h : two P xs) : ∃ x y v w, xs = [x, y] ∧ vs = [v, w] ∧ Rep F x v ∧ Rep F y w ∧ P x y := by
  match xs, vs, r, h with
  | [x, y], [v, w], r, h => exact ⟨x, y, v, w, rfl, rfl, r.1, r.2.1, h⟩
/-- a list or a tuple -/
def PV.seq : PV → Option (List PV)
  | .lst xs => some xs
  | .tup xs => some xs
  | _ => none
theorem seq_rep {K : PySem.W.Frag} {O : Addr → Prop} {H : Hp} {x : PV} {v : V} {xs : List PV} (r : Rep (fz O H) x v) (e : x.seq = some xs) : ∃ a vs, v = .ref a ∧ (SqL K H a vs ∨ SqT K H a vs) ∧ Reps (fz O H) xs vs := by
  cases x with
  | lst ys => cases e; obtain ⟨a, vs, rfl, b, c⟩ := r; exact ⟨a, vs, rfl, .inl (fz_list b), c⟩
  | tup ys => cases e; obtain ⟨a, vs, rfl, b, c⟩ := r; exact ⟨a, vs, rfl, .inr (fz_tup b), c⟩
  | _ => cases e
def fLen : List PV → (PV → Prop) → Prop := fun xs Q => one (fun x => ∃ ys, x.seq = some ys ∧ Q (.int ys.length)) xs
instance {K : PySem.W.Frag} : CallP S (fun xs H Q => ∃ p ys, xs = [V.ref p] ∧ (SqL K H p ys ∨ SqT K H p ys) ∧ Q (V.int ys.length) H) fLen := ⟨fun {O H vs xs Q Qp} _ r q k => by
  obtain ⟨x, v, rfl, rfl, r1, ys, e, q⟩ := one_rep (P := fun x => ∃ ys, x.seq = some ys ∧ Qp (.int ys.length)) r q
  obtain ⟨a, ws, rfl, h, rs⟩ := seq_rep (K := K) r1 e
  exact ⟨a, ws, rfl, h, k _ (.int _) H (.refl _) (by rw [← rs.length]; exact (show V.int _ = _ from rfl)) q⟩⟩
/-- len(x) of a slot: it does not come to stand still -/
def fLenVar (i : Nat) : FE := fun env Q => ∃ xs, peek env i = some (.lst xs) ∧ Q (.int xs.length) env
def fLenV (i : Nat) : FE := fun env Q => match peek env i with
  | some (.lst xs) => Q (.int xs.length) env
  | some (.tup xs) => Q (.int xs.length) env
  | _ => False
theorem Rel.peekT {O : Addr → Prop} {env : PEnv} {σ : St} {H : Hp} (R : Rel S O env σ H) {i : Nat} {xs : List PV} (e : PL.peek env i = some (.tup xs)) :
    ∃ a vs, σ[i]? = some (some (.ref a)) ∧ H a = some (.tup vs) ∧ Reps (fz O H) xs vs := by
  obtain ⟨sv, h, e⟩ := peek_some e
  obtain ⟨v, h1, h2⟩ := R.slot i sv h
  cases sv with
  | fr x => cases e; obtain ⟨a, vs, rfl, b, c⟩ := h2; exact ⟨a, vs, h1, b.2.tup, c⟩
  | ol ys => cases e
  | oK ks ys => cases e
  | oT ks ys => cases e
instance {K : PySem.W.Frag} {i : Nat} : PureE S (tCB (fun xs H Q => ∃ p ys, xs = [V.ref p] ∧ (SqL K H p ys ∨ SqT K H p ys) ∧ Q (V.int ys.length) H) (tCons (tVar i) tNil)) (fLenV i) := ⟨fun {O env σ H Q Qp} R q k => by
  unfold fLenV at q
  cases h : peek env i with
  | none => rw [h] at q; exact q.elim
  | some x =>
    rw [h] at q
    cases x with
    | lst xs =>
      obtain ⟨a, vs, s1, e3, rs⟩ := R.peekL h
      exact ⟨_, s1, a, vs, rfl, .inl (SqL.of e3), k _ (.int _) env H O R .refl (by rw [← rs.length]; exact (show V.int _ = _ from rfl)) q⟩
    | tup xs =>
      obtain ⟨a, vs, s1, e3, rs⟩ := R.peekT h
      exact ⟨_, s1, a, vs, rfl, .inr (SqT.of e3), k _ (.int _) env H O R .refl (by rw [← rs.length]; exact (show V.int _ = _ from rfl)) q⟩
    | _ => exact q.elim⟩
def fTupleOf : List PV → (PV → Prop) → Prop := fun xs Q => one (fun x => ∃ ys, x.seq = some ys ∧ Q (.tup ys)) xs
instance {K : PySem.W.Frag} : CallP S (fun xs H Q => ∃ p ys, xs = [V.ref p] ∧ ((SqL K H p ys ∧ ∀ l, H l = none → Q (V.ref l) (upd H l (.tup ys))) ∨ (SqT K H p ys ∧ Q (V.ref p) H))) fTupleOf := ⟨fun {O H vs xs Q Qp} oh r q k => by
  obtain ⟨x, v, rfl, rfl, r1, ys, e, q1⟩ := one_rep (P := fun x => ∃ ys, x.seq = some ys ∧ Qp (.tup ys)) r q
  cases x with
  | lst zs =>
    cases e; obtain ⟨a, vs, rfl, b, c⟩ := r1
    exact ⟨a, vs, rfl, .inl ⟨fz_list b, fun l hl => let ⟨h1, h2, h3⟩ := rep_new oh hl (.tup vs); k _ (.tup ys) _ h1 ⟨l, vs, rfl, h3, Reps.mono h2 _ _ c⟩ q1⟩⟩
  | tup zs => cases e; obtain ⟨a, vs, rfl, b, c⟩ := r1; exact ⟨a, vs, rfl, .inr ⟨fz_tup b, k _ (.tup ys) H (.refl _) ⟨a, vs, rfl, b, c⟩ q1⟩⟩
  | _ => cases e⟩
/-- a list of ints -/
def intsOf : List PV → Option (List Int)
  | [] => some []
  | .int i :: xs => (intsOf xs).map (i :: ·)
  | _ :: _ => none
theorem intsOf_map : ∀ {xs : List PV} {ns : List Int}, intsOf xs = some ns → xs = ns.map PV.int
  | [], _, e => by cases e; rfl
  | .int i :: xs, ns, e => by
    unfold intsOf at e
    cases h : intsOf xs with
    | none => rw [h] at e; cases e
    | some ms => rw [h] at e; cases e; rw [intsOf_map h]; rfl
theorem intsOf_ints : ∀ (ns : List Int), intsOf (ns.map PV.int) = some ns
  | [] => rfl
  | n :: ns => by show (intsOf (ns.map PV.int)).map (n :: ·) = _; rw [intsOf_ints ns]; rfl
def blsOf : List PV → Option (List Bool)
  | [] => some []
  | .bl i :: xs => (blsOf xs).map (i :: ·)
  | _ :: _ => none
theorem blsOf_map : ∀ {xs : List PV} {ns : List Bool}, blsOf xs = some ns → xs = ns.map PV.bl
  | [], _, e => by cases e; rfl
  | .bl i :: xs, ns, e => by
    unfold blsOf at e
    cases h : blsOf xs with
    | none => rw [h] at e; cases e
    | some ms => rw [h] at e; cases e; rw [blsOf_map h]; rfl
theorem blsOf_bls : ∀ (ns : List Bool), blsOf (ns.map PV.bl) = some ns
  | [] => rfl
  | n :: ns => by show (blsOf (ns.map PV.bl)).map (n :: ·) = _; rw [blsOf_bls ns]; rfl
def fOverI (g : List Int → (PV → Prop) → Prop) : List PV → (PV → Prop) → Prop := fun xs Q => match xs with
  | [.lst ys] => ∃ ns, ys = ns.map PV.int ∧ g ns Q
  | _ => False
theorem overI {K : PySem.W.Frag} {O : Addr → Prop} {H : Hp} {vs : List V} {xs : List PV} {Qp : PV → Prop} {g} (r : Reps (fz O H) xs vs) (q : fOverI g xs Qp) : ∃ a ns, vs = [.ref a] ∧ SqL K H a (ns.map V.int) ∧ g ns Qp := by
  unfold fOverI at q
  match xs, vs, r, q with
  | [.lst ys], [v], r, q =>
    obtain ⟨ns, rfl, q⟩ := q
    obtain ⟨a, vs, rfl, b, c⟩ := r.1
    rw [c.ints] at b
    exact ⟨a, ns, rfl, fz_list b, q⟩
instance {K : PySem.W.Frag} : CallP S (rSum K) (fOverI fun ns Q => Q (.int ns.sum)) := ⟨fun {O H vs xs Q Qp} _ r q k => by
  obtain ⟨a, ns, rfl, h, q⟩ := overI (K := K) r q
  exact ⟨a, ns, rfl, h, k _ (.int _) H (.refl _) (show V.int _ = _ from rfl) q⟩⟩
instance {K : PySem.W.Frag} : CallP S (rMax K) (fOverI fun ns Q => 0 < ns.length ∧ ∀ m, m ∈ ns → (∀ y, y ∈ ns → y ≤ m) → Q (.int m)) := ⟨fun {O H vs xs Q Qp} _ r q k => by
  obtain ⟨a, ns, rfl, h, l, q⟩ := overI (K := K) r q
  exact ⟨a, ns, rfl, h, l, fun m h1 h2 => k _ (.int _) H (.refl _) (show V.int _ = _ from rfl) (q m h1 h2)⟩⟩
instance {K : PySem.W.Frag} : CallP S (rMin K) (fOverI fun ns Q => 0 < ns.length ∧ ∀ m, m ∈ ns → (∀ y, y ∈ ns → m ≤ y) → Q (.int m)) := ⟨fun {O H vs xs Q Qp} _ r q k => by
  obtain ⟨a, ns, rfl, h, l, q⟩ := overI (K := K) r q
  exact ⟨a, ns, rfl, h, l, fun m h1 h2 => k _ (.int _) H (.refl _) (show V.int _ = _ from rfl) (q m h1 h2)⟩⟩
def fOverB (g : List Bool → (PV → Prop) → Prop) : List PV → (PV → Prop) → Prop := fun xs Q => match xs with
  | [.lst ys] => ∃ ns, ys = ns.map PV.bl ∧ g ns Q
  | _ => False
theorem overB {K : PySem.W.Frag} {O : Addr → Prop} {H : Hp} {vs : List V} {xs : List PV} {Qp : PV → Prop} {g} (r : Reps (fz O H) xs vs) (q : fOverB g xs Qp) : ∃ a ns, vs = [.ref a] ∧ SqL K H a (ns.map V.bl) ∧ g ns Qp := by
  unfold fOverB at q
  match xs, vs, r, q with
  | [.lst ys], [v], r, q =>
    obtain ⟨ns, rfl, q⟩ := q
    obtain ⟨a, vs, rfl, b, c⟩ := r.1
    rw [c.bls] at b
    exact ⟨a, ns, rfl, fz_list b, q⟩
instance {K : PySem.W.Frag} : CallP S (rAll K) (fOverB fun ns Q => Q (.bl (ns.all id))) := ⟨fun {O H vs xs Q Qp} _ r q k => by
  obtain ⟨a, ns, rfl, h, q⟩ := overB (K := K) r q
  exact ⟨a, ns, rfl, h, k _ (.bl _) H (.refl _) (show V.bl _ = _ from rfl) q⟩⟩
instance {K : PySem.W.Frag} : CallP S (rAny K) (fOverB fun ns Q => Q (.bl (ns.any id))) := ⟨fun {O H vs xs Q Qp} _ r q k => by
  obtain ⟨a, ns, rfl, h, q⟩ := overB (K := K) r q
  exact ⟨a, ns, rfl, h, k _ (.bl _) H (.refl _) (show V.bl _ = _ from rfl) q⟩⟩
/-- int(i) -/
def fInt1 : List PV → (PV → Prop) → Prop := fun xs Q => match xs with
  | [.int i] => Q (.int i)
  | _ => False
instance : CallP S (fun xs H Q => (∃ i, xs = [V.int i] ∧ Q (V.int i) H) ∨ ∃ k, xs = [V.bl k] ∧ Q (V.int (if k = true then 1 else 0)) H) fInt1 := ⟨fun {O H vs xs Q Qp} _ r q k => by
  unfold fInt1 at q
  match xs, vs, r, q with
  | [.int i], [v], r, q => exact .inl ⟨i, by rw [show v = V.int i from r.1], k _ (.int i) H (.refl _) (show V.int _ = _ from rfl) q⟩⟩
/-! ### attributes -/
def fFld (C : Addr) (f : Str) (fa : FE) : FE := fun env Q => fa env fun x env1 => match x with
  | .ins C' fs xs => C' = C ∧ ∃ z, (fs.zip xs).lookup f = some z ∧ Q z env1
  | _ => False
theorem lookup_zip {F : Fz} {f : Str} : ∀ {fs : List Str} {xs : List PV} {vs : List V} {z : PV}, Reps F xs vs → (fs.zip xs).lookup f = some z → ∃ v, (fs.zip vs).lookup f = some v ∧ Rep F z v
  | [], _, _, _, _, e => by simp at e
  | g :: fs, [], _, _, _, e => by simp at e
  | g :: fs, x :: xs, v :: vs, z, r, e => by
    rw [List.zip_cons_cons, List.lookup_cons] at e ⊢
    cases h : f == g with
    | true => rw [h] at e; cases e; exact ⟨v, rfl, r.1⟩
    | false => rw [h] at e; exact lookup_zip r.2 e
class FldP (K : PySem.W.Frag) (C : Addr) (f : Str) : Prop where
  cl : Cls K C
  na : NoAttr K C f
/-! ### what loops walk -/
def fIt (f : FE) : FI := fun env Q => f env fun x env1 => match x with
  | .lst xs => Q xs env1
  | _ => False
def fItT (f : FE) : FI := fun env Q => f env fun x env1 => match x with
  | .tup xs => Q xs env1
  | _ => False
theorem walkP_list {K : PySem.W.Frag} {F : Fz} {a : Addr} {vs : List V} {xs : List PV} (e : F a (.lst vs)) (r : Reps F xs vs) : WalkP (Itl K a) xs F :=
  ⟨⟨_, _, _, walk_list (K := K) (a := a) (xs := vs), r.length.symm, fun H2 h => SqL.of (h _ _ e).lst, fun i H2 O2 v H3 hi le _ ⟨y1, y2⟩ => by
    subst y1
    obtain ⟨x, h1, h2⟩ := r.geti y2
    exact ⟨.refl _, x, h1, Rep.mono le _ _ h2⟩⟩⟩
theorem walkP_tup {K : PySem.W.Frag} {F : Fz} {a : Addr} {vs : List V} {xs : List PV} (e : F a (.tup vs)) (r : Reps F xs vs) : WalkP (Itt K a) xs F :=
  ⟨⟨_, _, _, walk_tup (K := K) (a := a) (xs := vs), r.length.symm, fun H2 h => SqT.of (h _ _ e).tup, fun i H2 O2 v H3 hi le _ ⟨y1, y2⟩ => by
    subst y1
    obtain ⟨x, h1, h2⟩ := r.geti y2
    exact ⟨.refl _, x, h1, Rep.mono le _ _ h2⟩⟩⟩
instance {K : PySem.W.Frag} {tl : TE} {f : FE} [h : PureE S tl f] : PureI S (iList K tl) (fIt f) := ⟨fun R q k => h.snd R q fun v x env1 H1 O1 R1 L1 r1 q1 => by
  cases x with
  | lst xs =>
    obtain ⟨a, vs, rfl, b, c⟩ := r1
    exact ⟨a, rfl, ⟨vs, fz_list b⟩, k _ xs env1 H1 O1 R1 L1 (walkP_list b c) q1⟩
  | _ => exact q1.elim⟩
instance {K : PySem.W.Frag} {tl : TE} {f : FE} [h : PureE S tl f] : PureI S (iTup K tl) (fItT f) := ⟨fun R q k => h.snd R q fun v x env1 H1 O1 R1 L1 r1 q1 => by
  cases x with
  | tup xs =>
    obtain ⟨a, vs, rfl, b, c⟩ := r1
    exact ⟨a, rfl, ⟨vs, fz_tup b⟩, k _ xs env1 H1 O1 R1 L1 (walkP_tup b c) q1⟩
  | _ => exact q1.elim⟩
def rangeP (lo : Int) (n : Nat) : List PV := (List.range n).map fun i => .int (lo + (i : Nat))
def rangeC (lo c : Int) (n : Nat) : List PV := (List.range n).map fun i => .int (lo + (i : Nat) * c)
theorem walkP_fn {J : It} {n : Nat} {f : Nat → Int} {F : Fz} (w : Walk J n (fun _ => True) (YFn fun i => .int (f i))) : WalkP J ((List.range n).map fun i => .int (f i)) F :=
  ⟨⟨_, _, _, w, by simp, fun _ _ => trivial, fun i H2 O2 v H3 hi le _ ⟨y1, y2⟩ => by
    subst y1; subst y2
    exact ⟨.refl _, .int (f i), by simp [hi], (show V.int _ = V.int _ from rfl)⟩⟩⟩
def fRng1 (f : FA) : FI := fun env Q => f env fun xs env1 => match xs with
  | [.int j] => -(2 ^ 62) ≤ j ∧ j < 2 ^ 62 ∧ Q (rangeP 0 j.toNat) env1
  | _ => False
def fRng2 (f : FA) : FI := fun env Q => f env fun xs env1 => match xs with
  | [.int i, .int j] => (-(2 ^ 62) ≤ i ∧ i < 2 ^ 62 ∧ -(2 ^ 62) ≤ j ∧ j < 2 ^ 62) ∧ Q (rangeP i (j - i).toNat) env1
  | _ => False
def fRng3 (f : FA) : FI := fun env Q => f env fun xs env1 => match xs with
  | [.int i, .int j, .int c] => ∃ n, RgC i j c n ∧ Q (rangeC i c n) env1
  | _ => False
instance {ta : TA} {f : FA} [h : PureA S ta f] : PureI S (iRng1 ta) (fRng1 f) := ⟨fun R q k => h.snd R q fun vs xs env1 H1 O1 R1 L1 r1 q1 => by
  match xs, vs, r1, q1 with
  | [.int j], [v], r1, q1 => exact ⟨j, by rw [show v = V.int j from r1.1], q1.1, q1.2.1, k _ _ env1 H1 O1 R1 L1 (walkP_fn walk_range) q1.2.2⟩⟩
instance {ta : TA} {f : FA} [h : PureA S ta f] : PureI S (iRng2 ta) (fRng2 f) := ⟨fun R q k => h.snd R q fun vs xs env1 H1 O1 R1 L1 r1 q1 => by
  match xs, vs, r1, q1 with
  | [.int i, .int j], [v, w], r1, q1 => exact ⟨i, j, by rw [show v = V.int i from r1.1, show w = V.int j from r1.2.1], q1.1, k _ _ env1 H1 O1 R1 L1 (walkP_fn walk_range) q1.2⟩⟩
instance {ta : TA} {f : FA} [h : PureA S ta f] : PureI S (iRng3 ta) (fRng3 f) := ⟨fun R q k => h.snd R q fun vs xs env1 H1 O1 R1 L1 r1 q1 => by
  match xs, vs, r1, q1 with
  | [.int i, .int j, .int c], [v, w, z], r1, q1 =>
    obtain ⟨n, g, q1⟩ := q1
    exact ⟨i, j, c, n, by rw [show v = V.int i from r1.1, show w = V.int j from r1.2.1, show z = V.int c from r1.2.2.1], g, k _ _ env1 H1 O1 R1 L1 (walkP_fn walk_rangeC) q1⟩⟩
def enumP (xs : List PV) : List PV := (List.range xs.length).map fun i => .tup [.int (i : Nat), xs.getD i .non]
theorem walkP_pair {J : It} {n : Nat} {G : Hp → Prop} {F : Fz} {f g : Nat → Option V} {xs : List PV} (w : Walk J n G (YPair f g)) (hn : n = xs.length) (hG : ∀ H2 : Hp, (∀ a o, F a o → At H2 a o) → G H2)
    (h : ∀ (i : Nat) x y, i < n → f i = some x → g i = some y → ∃ p q, xs[i]? = some (.tup [p, q]) ∧ Rep F p x ∧ Rep F q y) : WalkP J xs F :=
  ⟨⟨n, G, _, w, hn, hG, fun i H2 O2 v H3 hi le oh ⟨T, x, y, e1, e2, e3, e4, e5⟩ => by
    subst e1; subst e3
    obtain ⟨p, q, h1, h2, h3⟩ := h i x y hi e4 e5
    obtain ⟨s1, s2, s3⟩ := rep_new oh e2 (.tup [x, y])
    exact ⟨s1, _, h1, T, [x, y], rfl, s3, Rep.mono (le.trans s2) _ _ h2, Rep.mono (le.trans s2) _ _ h3, trivial⟩⟩⟩
def fEnum (f : FA) : FI := fun env Q => f env fun xs env1 => match xs with
  | [.lst ys] => Q (enumP ys) env1
  | _ => False
theorem enumP_at {xs : List PV} {i : Nat} (h : i < xs.length) : (enumP xs)[i]? = some (.tup [.int (i : Nat), xs[i]]) := by
  unfold enumP
  rw [List.getElem?_map, List.getElem?_range h]
  simp [h]
instance {K : PySem.W.Frag} {ta : TA} {f : FA} [h : PureA S ta f] : PureI S (iEnum K ta) (fEnum f) := ⟨fun R q k => h.snd R q fun vs xs env1 H1 O1 R1 L1 r1 q1 => by
  match xs, vs, r1, q1 with
  | [.lst ys], [v], r1, q1 =>
    obtain ⟨a, ws, rfl, b, c⟩ := r1.1
    refine ⟨a, ws, rfl, fz_list b, k _ _ env1 H1 O1 R1 L1 (walkP_pair (walk_enum (K := K) (a := a) (xs := ws)) (by simp [enumP, c.length]) (fun H2 h => SqL.of (h _ _ b).lst) fun i x y hi e1 e2 => ?_) q1⟩
    cases e1
    have hi' : i < ys.length := by rw [c.length]; exact hi
    obtain ⟨z, h1, h2⟩ := c.geti e2
    refine ⟨.int (i : Nat), ys[i], enumP_at hi', (show V.int _ = V.int _ from rfl), ?_⟩
    rw [List.getElem?_eq_getElem hi'] at h1
    cases h1
    exact h2⟩
def fZip (f : FA) : FI := fun env Q => f env fun xs env1 => match xs with
  | [.lst ys, .lst zs] => Q ((ys.zip zs).map fun p => .tup [p.1, p.2]) env1
  | _ => False
instance {K : PySem.W.Frag} {ta : TA} {f : FA} [h : PureA S ta f] : PureI S (iZip K ta) (fZip f) := ⟨fun R q k => h.snd R q fun vs xs env1 H1 O1 R1 L1 r1 q1 => by
  match xs, vs, r1, q1 with
  | [.lst ys, .lst zs], [v, w], r1, q1 =>
    obtain ⟨a, ws, rfl, b, c⟩ := r1.1
    obtain ⟨a2, ws2, rfl, b2, c2⟩ := r1.2.1
    refine ⟨a, a2, ws, ws2, rfl, fz_list b, fz_list b2, k _ _ env1 H1 O1 R1 L1 (walkP_pair (walk_zip (K := K) (a := a) (b := a2) (xs := ws) (ys := ws2) rfl) (by simp [c.length, c2.length]) (fun H2 h => ⟨SqL.of (h _ _ b).lst, SqL.of (h _ _ b2).lst⟩) fun i x y hi e1 e2 => ?_) q1⟩
    obtain ⟨p, h1, h2⟩ := c.geti e1
    obtain ⟨q, h3, h4⟩ := c2.geti e2
    exact ⟨p, q, by simp [List.getElem?_zip_eq_some, h1, h3], h2, h4⟩⟩
end
end PL

set_option Elab.async false
set_option linter.all false
set_option maxRecDepth 100000
set_option maxHeartbeats 4000000
/-! dicts, lists that grow, slices, fields, calls of defs -/
namespace PL
open PySem L2
/-! ### keys, dicts -/
def PV.key : PV → Option Key
  | .int i => some (.inl i)
  | .str x => some (.inr x)
  | _ => none
def keysOf : List PV → Option (List Key)
  | [] => some []
  | x :: xs => match x.key, keysOf xs with
    | some k, some ks => some (k :: ks)
    | _, _ => none
def kP : Key → PV
  | .inl i => .int i
  | .inr x => .str x
theorem key_rep {F : Fz} {x : PV} {v : V} {k : Key} (r : Rep F x v) (e : x.key = some k) : v = kV k := by
  cases x with
  | int i => cases e; exact r
  | str s => cases e; exact r
  | _ => cases e
theorem kP_rep {F : Fz} (k : Key) : Rep F (kP k) (kV k) := by cases k <;> exact (rfl : _ = _)
theorem kP_key (k : Key) : (kP k).key = some k := by cases k <;> rfl
theorem keys_rep {F : Fz} : ∀ {xs : List PV} {vs : List V} {ks : List Key}, Reps F xs vs → keysOf xs = some ks → vs = ks.map kV
  | [], [], _, _, e => by cases e; rfl
  | x :: xs, v :: vs, ks, r, e => by
    unfold keysOf at e
    cases h1 : x.key with
    | none => rw [h1] at e; cases e
    | some k =>
      cases h2 : keysOf xs with
      | none => rw [h1, h2] at e; cases e
      | some js => rw [h1, h2] at e; cases e; rw [key_rep r.1 h1, keys_rep r.2 h2]; rfl
theorem kPs_rep {F : Fz} : ∀ ks : List Key, Reps F (ks.map kP) (ks.map kV)
  | [] => trivial
  | k :: ks => ⟨kP_rep k, kPs_rep ks⟩
theorem kPs_keys : ∀ ks : List Key, keysOf (ks.map kP) = some ks
  | [] => rfl
  | k :: ks => by show keysOf (kP k :: ks.map kP) = _; unfold keysOf; rw [kP_key, kPs_keys ks]
section
variable {κ : Type} [DecidableEq κ]
def valP : List κ → List PV → κ → Option PV
  | k' :: ks, x :: xs, k => if k' = k then some x else valP ks xs k
  | _, _, _ => none
def putKs (ks : List κ) (k : κ) : List κ := if k ∈ ks then ks else ks ++ [k]
def putXs (ks : List κ) (xs : List PV) (k : κ) (x : PV) : List PV := if k ∈ ks then List.zipWith (fun k' y => if k' = k then x else y) ks xs else xs ++ [x]
theorem val_zip {F : Fz} : ∀ {ks : List κ} {xs : List PV} {vs : List V} (k : κ), Reps F xs vs → ks.length = vs.length → (valP ks xs k = none ∧ valV (ks.zip vs) k = none) ∨ ∃ x v, valP ks xs k = some x ∧ valV (ks.zip vs) k = some v ∧ Rep F x v
  | [], [], [], k, _, _ => .inl ⟨rfl, rfl⟩
  | k' :: ks, x :: xs, v :: vs, k, r, l => by
    by_cases e : k' = k
    · exact .inr ⟨x, v, by simp [valP, e], by simp [valV, e], r.1⟩
    · have := val_zip (ks := ks) k r.2 (by simpa using l)
      simpa [valP, valV, e, List.find?_cons] using this
  | [], _ :: _, _ :: _, _, _, l => by simp at l
  | _ :: _, [], [], _, _, l => by simp at l
theorem put_zip {F : Fz} {ks : List κ} {xs : List PV} {vs : List V} {k : κ} {x : PV} {v : V} (r : Reps F xs vs) (l : ks.length = vs.length) (q : Rep F x v) :
    ∃ ws, putK (ks.zip vs) k v = (putKs ks k).zip ws ∧ (putKs ks k).length = ws.length ∧ Reps F (putXs ks xs k x) ws := by
  have hany : ((ks.zip vs).any fun kv => decide (kv.1 = k)) = decide (k ∈ ks) := by
    clear r q
    induction ks generalizing vs with
    | nil => simp
    | cons k' ks ih =>
      cases vs with
      | nil => simp at l
      | cons w vs =>
        rw [List.zip_cons_cons, List.any_cons, ih (by simpa using l)]
        by_cases e : k' = k
        · simp [e]
        · have : ¬ k = k' := fun z => e z.symm
          simp [e, this]
  unfold putK putKs putXs
  rw [hany]
  by_cases h : k ∈ ks
  · rw [decide_eq_true h, if_pos rfl, if_pos h, if_pos h]
    refine ⟨List.zipWith (fun k' w => if k' = k then v else w) ks vs, ?_, by simp [l], ?_⟩
    · clear hany r h
      induction ks generalizing vs with
      | nil => simp
      | cons k' ks ih =>
        cases vs with
        | nil => simp at l
        | cons w vs =>
          rw [List.zip_cons_cons, List.map_cons, ih (by simpa using l)]
          by_cases e : k' = k <;> simp [e]
    · clear hany h
      induction ks generalizing vs xs with
      | nil =>
        cases xs <;> cases vs <;> first | trivial | (simp at l; done) | exact r.elim
      | cons k' ks ih =>
        cases xs with
        | nil => cases vs with
          | nil => simp at l
          | cons w vs => exact r.elim
        | cons y xs => cases vs with
          | nil => exact r.elim
          | cons w vs =>
            refine ⟨?_, ih r.2 (by simpa using l)⟩
            by_cases e : k' = k
            · show Rep F (if k' = k then x else y) (if k' = k then v else w)
              rw [if_pos e, if_pos e]; exact q
            · show Rep F (if k' = k then x else y) (if k' = k then v else w)
              rw [if_neg e, if_neg e]; exact r.1
  · rw [decide_eq_false h, if_neg Bool.false_ne_true, if_neg h, if_neg h]
    exact ⟨vs ++ [v], by rw [List.zip_append l]; rfl, by simp [l], r.append ⟨q, trivial⟩⟩
end
def PV.tkey : PV → Option (List Key)
  | .tup ys => keysOf ys
  | _ => none
def dget (d y : PV) : Option (Option PV) := match d with
  | .dK ks xs => y.key.map fun k => valP ks xs k
  | .dT ks xs => y.tkey.map fun k => valP ks xs k
  | _ => none
/-- what is at a dict's address -/
def DAt (O : Addr → Prop) (H : Hp) (a : Addr) : PV → Prop
  | .dK ks xs => ∃ vs, At H a (.dK (ks.zip vs)) ∧ ks.length = vs.length ∧ Reps (fz O H) xs vs
  | .dT ks xs => ∃ vs, At H a (.dT (ks.zip vs)) ∧ ks.length = vs.length ∧ Reps (fz O H) xs vs
  | _ => False
theorem dget_snd {O : Addr → Prop} {H : Hp} {a : Addr} {d y : PV} {w : V} {r : Option PV} (h : DAt O H a d) (ry : Rep (fz O H) y w) (e : dget d y = some r) :
    (r = none ∧ DGet H a w none) ∨ ∃ x v, r = some x ∧ DGet H a w (some v) ∧ Rep (fz O H) x v := by
  cases d with
  | dK ks xs =>
    obtain ⟨vs, h1, h2, h3⟩ := h
    replace e : y.key.map (fun k => valP ks xs k) = some r := e
    cases hk : y.key with
    | none => rw [hk] at e; cases e
    | some k =>
      rw [hk] at e; cases e
      cases key_rep ry hk
      rcases val_zip k h3 h2 with ⟨e1, e2⟩ | ⟨x, v, e1, e2, q⟩
      · exact .inl ⟨e1, .inl ⟨_, k, h1.rd, rfl, e2.symm⟩⟩
      · exact .inr ⟨x, v, e1, .inl ⟨_, k, h1.rd, rfl, e2.symm⟩, q⟩
  | dT ks xs =>
    obtain ⟨vs, h1, h2, h3⟩ := h
    cases y with
    | tup ys =>
      replace e : (keysOf ys).map (fun k => valP ks xs k) = some r := e
      cases hk : keysOf ys with
      | none => rw [hk] at e; cases e
      | some k =>
        rw [hk] at e; cases e
        obtain ⟨b, us, rfl, hb, rs⟩ := ry
        rw [keys_rep rs hk] at hb
        rcases val_zip k h3 h2 with ⟨e1, e2⟩ | ⟨x, v, e1, e2, q⟩
        · exact .inl ⟨e1, .inr ⟨_, k, b, h1.rd, rfl, hb.2.tup, e2.symm⟩⟩
        · exact .inr ⟨x, v, e1, .inr ⟨_, k, b, h1.rd, rfl, hb.2.tup, e2.symm⟩, q⟩
    | _ => cases e
  | _ => exact h.elim
theorem rep_dAt {O : Addr → Prop} {H : Hp} {d : PV} {v : V} (r : Rep (fz O H) d v) (hd : (∃ ks xs, d = .dK ks xs) ∨ ∃ ks xs, d = .dT ks xs) : ∃ a, v = .ref a ∧ DAt O H a d ∧ IsD H a := by
  rcases hd with ⟨ks, xs, rfl⟩ | ⟨ks, xs, rfl⟩
  · obtain ⟨a, vs, rfl, h1, h2, h3⟩ := r
    exact ⟨a, rfl, ⟨vs, h1.2, h2, h3⟩, .inl ⟨_, h1.2.rd⟩⟩
  · obtain ⟨a, vs, rfl, h1, h2, h3⟩ := r
    exact ⟨a, rfl, ⟨vs, h1.2, h2, h3⟩, .inr ⟨_, h1.2.rd⟩⟩
theorem dget_dict {d y : PV} {r : Option PV} (e : dget d y = some r) : (∃ ks xs, d = .dK ks xs) ∨ ∃ ks xs, d = .dT ks xs := by
  cases d with
  | dK ks xs => exact .inl ⟨ks, xs, rfl⟩
  | dT ks xs => exact .inr ⟨ks, xs, rfl⟩
  | _ => cases e
section
variable {S : Sit}
theorem Rel.peekD {O : Addr → Prop} {env : PEnv} {σ : St} {H : Hp} (R : Rel S O env σ H) {i : Nat} {d : PV} (e : PL.peek env i = some d) (hd : (∃ ks xs, d = .dK ks xs) ∨ ∃ ks xs, d = .dT ks xs) : ∃ a, σ[i]? = some (some (.ref a)) ∧ DAt O H a d ∧ IsD H a := by
  obtain ⟨sv, h, e⟩ := peek_some e
  obtain ⟨v, h1, h2⟩ := R.slot i sv h
  cases sv with
  | fr x =>
    cases e
    obtain ⟨a, rfl, q1, q2⟩ := rep_dAt h2 hd
    exact ⟨a, h1, q1, q2⟩
  | ol xs => subst e; rcases hd with ⟨_, _, z⟩ | ⟨_, _, z⟩ <;> cases z
  | oK ks xs => cases e; obtain ⟨a, rfl, _, _, vs, q1, q2, q3⟩ := h2; exact ⟨a, h1, ⟨vs, .of q1, q2, q3⟩, .inl ⟨_, .inl q1⟩⟩
  | oT ks xs => cases e; obtain ⟨a, rfl, _, _, vs, q1, q2, q3⟩ := h2; exact ⟨a, h1, ⟨vs, .of q1, q2, q3⟩, .inr ⟨_, .inl q1⟩⟩
def fDGetV (i : Nat) (f : FE) : FE := fun env Q => (peek env i).isSome = true ∧ f env fun y env1 => ∃ d z, peek env1 i = some d ∧ dget d y = some (some z) ∧ Q z env1
instance {i : Nat} {ty : TE} {f : FE} [h : PureE S ty f] : PureE S (tDGet (tVar i) ty) (fDGetV i f) := ⟨fun {O env σ H Q Qp} R q k => by
  obtain ⟨v, hv⟩ := R.has q.1
  refine ⟨v, hv, h.snd R q.2 fun w y env1 H1 O1 R1 L1 r1 q1 => ?_⟩
  obtain ⟨d, z, e1, e2, q1⟩ := q1
  obtain ⟨a, s1, da, _⟩ := R1.peekD e1 (dget_dict e2)
  rw [hv] at s1
  cases Option.some.inj (Option.some.inj s1)
  rcases dget_snd da r1 e2 with ⟨z, _⟩ | ⟨x, u, ex, g, rx⟩
  · cases z
  · cases ex; exact ⟨a, u, rfl, g, k u _ env1 H1 O1 R1 L1 rx q1⟩⟩
def fDGet (fd f : FE) : FE := fun env Q => fd env fun d env1 => f env1 fun y env2 => ∃ z, dget d y = some (some z) ∧ Q z env2
instance (priority := low) {td ty : TE} {fd f : FE} [hd : PureE S td fd] [h : PureE S ty f] : PureE S (tDGet td ty) (fDGet fd f) := ⟨fun R q k =>
  hd.snd R q fun v d env1 H1 O1 R1 L1 r1 q1 => h.snd R1 q1 fun w y env2 H2 O2 R2 L2 r2 q2 => by
    obtain ⟨z, e2, q2⟩ := q2
    obtain ⟨a, rfl, da, _⟩ := rep_dAt (Rep.mono L2.fz _ _ r1) (dget_dict e2)
    rcases dget_snd da r2 e2 with ⟨z, _⟩ | ⟨x, u, ex, g, rx⟩
    · cases z
    · cases ex; exact ⟨a, u, rfl, g, k u _ env2 H2 O2 R2 (L1.trans L2) rx q2⟩⟩
/-- d.get(y, z) -/
def fDGet2V (i : Nat) (f g : FE) : FE := fun env Q => (∃ d, peek env i = some d ∧ ((∃ ks xs, d = .dK ks xs) ∨ ∃ ks xs, d = .dT ks xs)) ∧ f env fun y env1 => g env1 fun z env2 => ∃ d r, peek env2 i = some d ∧ dget d y = some r ∧ Q (r.getD z) env2
instance {i : Nat} {ty tx : TE} {f g : FE} [h : PureE S ty f] [h' : PureE S tx g] : PureE S (tDGet2 (tVar i) ty tx) (fDGet2V i f g) := ⟨fun {O env σ H Q Qp} R q k => by
  obtain ⟨⟨d0, e0, hd0⟩, q⟩ := q
  obtain ⟨a, hv, _, isd⟩ := R.peekD e0 hd0
  refine ⟨_, hv, a, rfl, isd, h.snd R q fun w y env1 H1 O1 R1 L1 r1 q1 => h'.snd R1 q1 fun w2 z env2 H2 O2 R2 L2 r2 q2 => ?_⟩
  obtain ⟨d, r, e1, e2, q2⟩ := q2
  obtain ⟨a', s1, da, _⟩ := R2.peekD e1 (dget_dict e2)
  rw [hv] at s1
  injection s1 with s1; injection s1 with s1; injection s1 with s1; subst s1
  rcases dget_snd da (Rep.mono L2.fz _ _ r1) e2 with ⟨ex, g⟩ | ⟨x, u, ex, g, rx⟩
  · subst ex; exact ⟨none, g, k w2 z env2 H2 O2 R2 (L1.trans L2) r2 q2⟩
  · subst ex; exact ⟨some u, g, k u x env2 H2 O2 R2 (L1.trans L2) rx q2⟩⟩
def fDGet2 (fd f g : FE) : FE := fun env Q => fd env fun d env0 => ((∃ ks xs, d = .dK ks xs) ∨ ∃ ks xs, d = .dT ks xs) ∧ f env0 fun y env1 => g env1 fun z env2 => ∃ r, dget d y = some r ∧ Q (r.getD z) env2
instance (priority := low) {td ty tx : TE} {fd f g : FE} [hd : PureE S td fd] [h : PureE S ty f] [h' : PureE S tx g] : PureE S (tDGet2 td ty tx) (fDGet2 fd f g) := ⟨fun {O env σ H Q Qp} R q k =>
  hd.snd R q fun v d env0 H0 O0 R0 L0 r0 ⟨hdd, q0⟩ => by
    obtain ⟨a, rfl, da, isd⟩ := rep_dAt r0 hdd
    refine ⟨a, rfl, isd, h.snd R0 q0 fun w y env1 H1 O1 R1 L1 r1 q1 => h'.snd R1 q1 fun w2 z env2 H2 O2 R2 L2 r2 q2 => ?_⟩
    obtain ⟨r, e2, q2⟩ := q2
    obtain ⟨a', ea, da, _⟩ := rep_dAt (Rep.mono (L1.trans L2).fz _ _ r0) hdd
    injection ea with ea; subst ea
    rcases dget_snd da (Rep.mono L2.fz _ _ r1) e2 with ⟨ex, g⟩ | ⟨x, u, ex, g, rx⟩
    · subst ex; exact ⟨none, g, k w2 z env2 H2 O2 R2 (L0.trans (L1.trans L2)) r2 q2⟩
    · subst ex; exact ⟨some u, g, k u x env2 H2 O2 R2 (L0.trans (L1.trans L2)) rx q2⟩⟩
/-- y in d, y not in d -/
def fDInV (neg : Bool) (i : Nat) (f : FE) : FE := fun env Q => f env fun y env1 => ∃ d r, peek env1 i = some d ∧ dget d y = some r ∧ Q (.bl (if neg then !r.isSome else r.isSome)) env1
theorem dIn_snd {O : Addr → Prop} {H : Hp} {a : Addr} {d y : PV} {w : V} {r : Option PV} (h : DAt O H a d) (ry : Rep (fz O H) y w) (e : dget d y = some r) : ∃ o : Option V, DGet H a w o ∧ o.isSome = r.isSome := by
  rcases dget_snd h ry e with ⟨ex, g⟩ | ⟨x, u, ex, g, rx⟩
  · subst ex; exact ⟨_, g, rfl⟩
  · subst ex; exact ⟨_, g, rfl⟩
instance {i : Nat} {ty : TE} {f : FE} [h : PureE S ty f] : PureE S (tDIn ty (tVar i)) (fDInV false i f) := ⟨fun {O env σ H Q Qp} R q k =>
  h.snd R q fun w y env1 H1 O1 R1 L1 r1 q1 => by
    obtain ⟨d, r, e1, e2, q1⟩ := q1
    obtain ⟨a, s1, da, _⟩ := R1.peekD e1 (dget_dict e2)
    obtain ⟨o, g, eo⟩ := dIn_snd da r1 e2
    exact ⟨_, s1, a, o, rfl, g, k _ _ env1 H1 O1 R1 L1 (by rw [eo]; exact (rfl : V.bl _ = V.bl _)) q1⟩⟩
instance {i : Nat} {ty : TE} {f : FE} [h : PureE S ty f] : PureE S (tDNotIn ty (tVar i)) (fDInV true i f) := ⟨fun {O env σ H Q Qp} R q k =>
  h.snd R q fun w y env1 H1 O1 R1 L1 r1 q1 => by
    obtain ⟨d, r, e1, e2, q1⟩ := q1
    obtain ⟨a, s1, da, _⟩ := R1.peekD e1 (dget_dict e2)
    obtain ⟨o, g, eo⟩ := dIn_snd da r1 e2
    exact ⟨_, s1, a, o, rfl, g, k _ _ env1 H1 O1 R1 L1 (by rw [eo]; exact (rfl : V.bl _ = V.bl _)) q1⟩⟩
def fDIn (neg : Bool) (f fd : FE) : FE := fun env Q => f env fun y env1 => fd env1 fun d env2 => ∃ r, dget d y = some r ∧ Q (.bl (if neg then !r.isSome else r.isSome)) env2
instance (priority := low) {td ty : TE} {f fd : FE} [h : PureE S ty f] [hd : PureE S td fd] : PureE S (tDIn ty td) (fDIn false f fd) := ⟨fun {O env σ H Q Qp} R q k =>
  h.snd R q fun w y env1 H1 O1 R1 L1 r1 q1 => hd.snd R1 q1 fun v d env2 H2 O2 R2 L2 r2 q2 => by
    obtain ⟨r, e2, q2⟩ := q2
    obtain ⟨a, rfl, da, _⟩ := rep_dAt r2 (dget_dict e2)
    obtain ⟨o, g, eo⟩ := dIn_snd da (Rep.mono L2.fz _ _ r1) e2
    exact ⟨a, o, rfl, g, k _ _ env2 H2 O2 R2 (L1.trans L2) (by rw [eo]; exact (rfl : V.bl _ = V.bl _)) q2⟩⟩
instance (priority := low) {td ty : TE} {f fd : FE} [h : PureE S ty f] [hd : PureE S td fd] : PureE S (tDNotIn ty td) (fDIn true f fd) := ⟨fun {O env σ H Q Qp} R q k =>
  h.snd R q fun w y env1 H1 O1 R1 L1 r1 q1 => hd.snd R1 q1 fun v d env2 H2 O2 R2 L2 r2 q2 => by
    obtain ⟨r, e2, q2⟩ := q2
    obtain ⟨a, rfl, da, _⟩ := rep_dAt r2 (dget_dict e2)
    obtain ⟨o, g, eo⟩ := dIn_snd da (Rep.mono L2.fz _ _ r1) e2
    exact ⟨a, o, rfl, g, k _ _ env2 H2 O2 R2 (L1.trans L2) (by rw [eo]; exact (rfl : V.bl _ = V.bl _)) q2⟩⟩
/-! ### what own slots know is changed -/
theorem Rel.ownAt {O : Addr → Prop} {env : PEnv} {σ : St} {H : Hp} (R : Rel S O env σ H) {i : Nat} {sv : SV} (e : env[i]? = some (some sv)) (ho : sv.own = true) : ∃ l, σ[i]? = some (some (.ref l)) ∧ OwnAt O H l sv := by
  obtain ⟨v, h1, h2⟩ := R.slot i sv e
  obtain ⟨l, rfl, _, _, h⟩ := h2.of ho
  exact ⟨l, h1, h⟩
/-- xs.append(e) -/
def fApp (i : Nat) (f : FE) : FS := fun D env => (∃ xs, env[i]? = some (some (.ol xs))) ∧ f env fun x env1 => ∃ xs, env1[i]? = some (some (.ol xs)) ∧ xs.length < sizeLine ∧ D.nx (env1.set i (some (.ol (xs ++ [x]))))
instance {K : PySem.W.Frag} {i : Nat} {te : TE} {f : FE} [h : PureE S te f] : PureS S (tDrop (tBM K "list" rAppend (tVar i) (tCons te tNil))) (fApp i f) := ⟨fun {O env σ H D De} R q k _ _ _ => by
  obtain ⟨⟨xs0, e0⟩, q⟩ := q
  obtain ⟨l, hs, vs0, h0, _⟩ := R.ownAt e0 rfl
  refine ⟨_, hs, .inl ⟨rfl, vs0, SqL.of h0⟩, h.snd R q fun w x env1 H1 O1 R1 L1 r1 q1 => ?_⟩
  obtain ⟨xs, e1, hl, q1⟩ := q1
  obtain ⟨l', hs', vs, h1, rs⟩ := R1.ownAt e1 rfl
  rw [hs] at hs'
  injection hs' with hs'; injection hs' with hs'; injection hs' with hs'; subst hs'
  obtain ⟨R2, L2⟩ := R1.mut e1 rfl hs (o := .lst (vs ++ [w])) trivial (sw := .ol (xs ++ [x])) rfl fun H' le e => ⟨_, e, (Reps.mono le _ _ rs).append ⟨Rep.mono le _ _ r1, trivial⟩⟩
  exact ⟨l, vs, w, rfl, rfl, h1, by rw [← rs.length]; exact hl, k _ _ _ O1 R2 (L1.trans L2).raw q1⟩⟩
/-- d[y] = z -/
def dputV (sv : SV) (y z : PV) (Q : SV → Prop) : Prop := match sv with
  | .oK ks xs => ∃ k, y.key = some k ∧ ks.length < sizeLine ∧ Q (.oK (putKs ks k) (putXs ks xs k z))
  | .oT ks xs => ∃ ys k, y = .tup ys ∧ keysOf ys = some k ∧ ks.length < sizeLine ∧ Q (.oT (putKs ks k) (putXs ks xs k z))
  | _ => False
def isOD (env : PEnv) (i : Nat) : Prop := (∃ ks xs, env[i]? = some (some (.oK ks xs))) ∨ ∃ ks xs, env[i]? = some (some (.oT ks xs))
theorem dputV_od {sv : SV} {y z : PV} {Q : SV → Prop} (h : dputV sv y z Q) : sv.own = true := by cases sv <;> first | rfl | exact h.elim
def fDPut (i : Nat) (fy fz' : FE) : FS := fun D env => fz' env fun z env1 => (peek env1 i).isSome = true ∧ fy env1 fun y env2 => ∃ sv, env2[i]? = some (some sv) ∧ dputV sv y z fun sv' => D.nx (env2.set i (some sv'))
instance {i : Nat} {ty tv : TE} {fy fz' : FE} [hy : PureE S ty fy] [hz : PureE S tv fz'] : PureS S (sDPut (tVar i) ty tv) (fDPut i fy fz') := ⟨fun {O env σ H D De} R q k _ _ _ =>
  hz.snd R q fun v z env1 H1 O1 R1 L1 r1 ⟨p1, q1⟩ => by
    obtain ⟨u, hu⟩ := R1.has p1
    refine ⟨u, hu, hy.snd R1 q1 fun w y env2 H2 O2 R2 L2 r2 q2 => ?_⟩
    obtain ⟨sv, e2, q2⟩ := q2
    obtain ⟨l, hs, own⟩ := R2.ownAt e2 (dputV_od q2)
    rw [hu] at hs
    cases Option.some.inj (Option.some.inj hs)
    have rz := Rep.mono L2.fz _ _ r1
    cases sv with
    | fr x => exact q2.elim
    | ol xs => exact q2.elim
    | oK ks xs =>
      obtain ⟨kk, ek, hl, q2⟩ := q2
      obtain ⟨vs, h1, h2, h3⟩ := own
      obtain ⟨ws, e5, e6, e7⟩ := put_zip (k := kk) h3 h2 rz
      obtain ⟨R3, L3⟩ := R2.mut e2 rfl hu (o := .dK (putK (ks.zip vs) kk v)) trivial (sw := .oK (putKs ks kk) (putXs ks xs kk z)) rfl fun H' le e => ⟨ws, by rw [e, e5], e6, Reps.mono le _ _ e7⟩
      exact ⟨l, _, rfl, .inl ⟨_, kk, h1, key_rep r2 ek, by rw [List.length_zip, ← h2, Nat.min_self]; exact hl, rfl⟩, k _ _ _ O2 R3 ((L1.trans L2).trans L3).raw q2⟩
    | oT ks xs =>
      obtain ⟨ys, kk, rfl, ek, hl, q2⟩ := q2
      obtain ⟨vs, h1, h2, h3⟩ := own
      obtain ⟨ws, e5, e6, e7⟩ := put_zip (k := kk) h3 h2 rz
      obtain ⟨b, us, rfl, hb, rs⟩ := r2
      rw [keys_rep rs ek] at hb
      obtain ⟨R3, L3⟩ := R2.mut e2 rfl hu (o := .dT (putK (ks.zip vs) kk v)) trivial (sw := .oT (putKs ks kk) (putXs ks xs kk z)) rfl fun H' le e => ⟨ws, by rw [e, e5], e6, Reps.mono le _ _ e7⟩
      exact ⟨l, _, rfl, .inr ⟨_, kk, b, h1, rfl, hb.2.tup, by rw [List.length_zip, ← h2, Nat.min_self]; exact hl, rfl⟩, k _ _ _ O2 R3 ((L1.trans L2).trans L3).raw q2⟩⟩
/-! ### slices -/
abbrev FP := PEnv → (Option Int → PEnv → Prop) → Prop
class PureP (S : Sit) (t : TO) (f : outParam FP) : Prop where
  snd : ∀ {O : Addr → Prop} {env : PEnv} {σ : St} {H : Hp} {Q : Option Int → Hp → Prop} {Qp : Option Int → PEnv → Prop}, Rel S O env σ H → f env Qp →
    (∀ b env' H' O', Rel S O' env' σ H' → Lt S σ O env H O' env' H' → Qp b env' → Q b H') → t σ H Q
def fpNone : FP := fun env Q => Q none env
def fpSome (f : FE) : FP := fun env Q => f env fun x env1 => match x with
  | .int i => Q (some i) env1
  | _ => False
instance : PureP S tNoPart fpNone := ⟨fun {O env σ H Q Qp} R q k => k none env H O R .refl q⟩
instance {t : TE} {f : FE} [h : PureE S t f] : PureP S (tPart t) (fpSome f) := ⟨fun R q k => h.snd R q fun v x env1 H1 O1 R1 L1 r1 q1 => by
  cases x with
  | int i => exact ⟨i, r1, k _ env1 H1 O1 R1 L1 q1⟩
  | _ => exact q1.elim⟩
class SlP (S : Sit) (r : V → Option Int → Option Int → Hp → VK → Prop) (f : outParam (PV → Option Int → Option Int → (PV → Prop) → Prop)) : Prop where
  snd : ∀ {O : Addr → Prop} {H : Hp} {v : V} {x : PV} {lo hi : Option Int} {Q : VK} {Qp : PV → Prop}, OnH O H → Rep (fz O H) x v → f x lo hi Qp →
    (∀ z u H', Same H H' → Rep (fz O H') u z → Qp u → Q z H') → r v lo hi H Q
def fSl (f : PV → Option Int → Option Int → (PV → Prop) → Prop) (fe : FE) (fl fh : FP) : FE := fun env Q => fe env fun x env1 => fl env1 fun lo env2 => fh env2 fun hi env3 => f x lo hi fun z => Q z env3
instance {r f} {te : TE} {tl th : TO} {fe fl fh} [hr : SlP S r f] [h1 : PureE S te fe] [h2 : PureP S tl fl] [h3 : PureP S th fh] : PureE S (tSl r te tl th) (fSl f fe fl fh) := ⟨fun R q k =>
  h1.snd R q fun v x env1 H1 O1 R1 L1 r1 q1 => h2.snd R1 q1 fun lo env2 H2 O2 R2 L2 q2 => h3.snd R2 q2 fun hi env3 H3 O3 R3 L3 q3 =>
    hr.snd R3.oH (Rep.mono (L2.trans L3).fz _ _ r1) q3 fun z u H4 s r4 q4 => k z u env3 H4 O3 (R3.same s) ((L1.trans (L2.trans L3)).trans (.same s)) r4 q4⟩
def fSlL : PV → Option Int → Option Int → (PV → Prop) → Prop := fun x lo hi Q => match x with
  | .lst xs => Q (.lst (cutP xs lo hi))
  | _ => False
def fSlT : PV → Option Int → Option Int → (PV → Prop) → Prop := fun x lo hi Q => match x with
  | .tup xs => Q (.tup (cutP xs lo hi))
  | _ => False
def fSlS : PV → Option Int → Option Int → (PV → Prop) → Prop := fun x lo hi Q => match x with
  | .str z => z.length ≤ sizeLine ∧ Q (.str (cutS z lo hi))
  | _ => False
instance {K : PySem.W.Frag} : SlP S (rSlL K) fSlL := ⟨fun {O H v x lo hi Q Qp} oh r q k => by
  cases x with
  | lst xs =>
    obtain ⟨a, vs, rfl, b, c⟩ := r
    exact ⟨a, vs, rfl, fz_list b, fun p hp => let ⟨h1, h2, h3⟩ := rep_new oh hp (.lst (L2.cutV vs lo hi)); k _ (.lst (cutP xs lo hi)) _ h1 ⟨p, _, rfl, h3, Reps.mono h2 _ _ (c.cutV lo hi)⟩ q⟩
  | _ => exact q.elim⟩
theorem cut_whole {xs : List PV} {lo hi : Option Int} (h : HT.sIx xs.length 0 lo = 0 ∧ HT.sIx xs.length xs.length hi = xs.length) : cutP xs lo hi = xs := by
  unfold cutP
  rw [h.1, h.2]
  simp
instance {K : PySem.W.Frag} : SlP S (rSlA K) fSlT := ⟨fun {O H v x lo hi Q Qp} oh r q k => by
  cases x with
  | tup xs =>
    obtain ⟨a, vs, rfl, b, c⟩ := r
    refine ⟨a, vs, rfl, fz_tup b, fun hw => ?_, fun _ p hp => let ⟨h1, h2, h3⟩ := rep_new oh hp (.tup (L2.cutV vs lo hi)); k _ (.tup (cutP xs lo hi)) _ h1 ⟨p, _, rfl, h3, Reps.mono h2 _ _ (c.cutV lo hi)⟩ q⟩
    rw [← c.length] at hw
    have e := cut_whole hw
    exact k _ (.tup (cutP xs lo hi)) H (.refl _) ⟨a, vs, rfl, b, by rw [e]; exact c⟩ q
  | _ => exact q.elim⟩
instance : SlP S rSlS fSlS := ⟨fun {O H v x lo hi Q Qp} oh r q k => by
  cases x with
  | str z => exact ⟨z, r, q.1, k _ (.str _) H (.refl _) (rfl : V.str _ = V.str _) q.2⟩
  | _ => exact q.elim⟩
/-- t + u, xs + ys -/
def fCatT : PV → PV → (PV → Prop) → Prop := fun x y Q => match x, y with
  | .tup xs, .tup ys => xs.length + ys.length ≤ sizeLine ∧ Q (.tup (xs ++ ys))
  | _, _ => False
def fCatL : PV → PV → (PV → Prop) → Prop := fun x y Q => match x, y with
  | .lst xs, .lst ys => xs.length + ys.length ≤ sizeLine ∧ Q (.lst (xs ++ ys))
  | _, _ => False
instance {K : PySem.W.Frag} : R2P S (rCatA K) fCatT := ⟨fun {O H v w x y Q Qp} oh r1 r2 q k => by
  unfold fCatT at q
  cases x with
  | tup xs => cases y with
    | tup ys =>
      obtain ⟨a, vs, rfl, b, c⟩ := r1
      obtain ⟨a2, vs2, rfl, b2, c2⟩ := r2
      refine ⟨a, a2, vs, vs2, rfl, rfl, fz_tup b, fz_tup b2, by rw [← c.length, ← c2.length]; exact q.1, fun e => ?_, fun _ e => ?_, fun _ _ p hp => let ⟨h1, h2, h3⟩ := rep_new oh hp (.tup (vs ++ vs2)); k _ (.tup (xs ++ ys)) _ h1 ⟨p, _, rfl, h3, Reps.mono h2 _ _ (c.append c2)⟩ q.2⟩
      · subst e
        have : xs = [] := List.length_eq_zero_iff.mp c.length
        subst this
        exact k _ (.tup ys) H (.refl _) ⟨a2, vs2, rfl, b2, c2⟩ q.2
      · subst e
        have : ys = [] := List.length_eq_zero_iff.mp c2.length
        subst this
        exact k _ (.tup (xs ++ [])) H (.refl _) ⟨a, vs, rfl, b, by rw [List.append_nil]; exact c⟩ q.2
    | _ => exact q.elim
  | _ => exact q.elim⟩
instance : R2P S rCat fCatL := ⟨fun {O H v w x y Q Qp} oh r1 r2 q k => by
  unfold fCatL at q
  cases x with
  | lst xs => cases y with
    | lst ys =>
      obtain ⟨a, vs, rfl, b, c⟩ := r1
      obtain ⟨a2, vs2, rfl, b2, c2⟩ := r2
      exact ⟨a, a2, vs, vs2, rfl, rfl, b.2.lst, b2.2.lst, by rw [← c.length, ← c2.length]; exact q.1, fun p hp => let ⟨h1, h2, h3⟩ := rep_new oh hp (.lst (vs ++ vs2)); k _ (.lst (xs ++ ys)) _ h1 ⟨p, _, rfl, h3, Reps.mono h2 _ _ (c.append c2)⟩ q.2⟩
    | _ => exact q.elim
  | _ => exact q.elim⟩
/-! ### fields -/
def fFldK (K : PySem.W.Frag) (f : Str) (fa : FE) : FE := fun env Q => fa env fun x env1 => match x with
  | .ins C fs xs => FldP K C f ∧ ∃ z, (fs.zip xs).lookup f = some z ∧ Q z env1
  | _ => False
instance {K : PySem.W.Frag} {f : Str} {ta : TE} {fa : FE} [ha : PureE S ta fa] : PureE S (tFld K ta f) (fFldK K f fa) := ⟨fun {O env σ H Q Qp} R q k => ha.snd R q fun v x env1 H1 O1 R1 L1 r1 q1 => by
  cases x with
  | ins C fs xs =>
    obtain ⟨hf, z, e, q1⟩ := q1
    obtain ⟨a, dx, vs, rfl, b, l, rs⟩ := r1
    obtain ⟨u, e2, ru⟩ := lookup_zip rs e
    exact ⟨a, C, dx, _, u, rfl, b.2.ins, hf.cl, hf.na, e2, k u z env1 H1 O1 R1 L1 ru q1⟩
  | _ => exact q1.elim⟩
/-! ### calls of defs -/
/-- a promise told by values: f of the arguments, what is wanted of the answer, of errors -/
def spP (f : List PV → (PV → Prop) → (Addr → List (Str × PV) → Prop) → Prop) : Sp := fun vs H Q E => ∃ O xs Qp Ep, OnH O H ∧ Reps (fz O H) xs vs ∧ f xs Qp Ep ∧ (∀ v x H', Same H H' → Rep (fz O H') x v → Qp x → Q v H') ∧
  ∀ C (fs : List Str) ys us d H', Same H H' → H' d = some (.xd (fs.zip us)) → fs.length = us.length → Reps (fz O H') ys us → Ep C (fs.zip ys) → E (.ref C) (some d) H'
class SpP (S : Sit) (sp : Sp) (E : XK) (f : outParam (List PV → (PV → Prop) → Prop)) : Prop where
  snd : ∀ {O : Addr → Prop} {env : PEnv} {σ : St} {H : Hp} {vs : List V} {xs : List PV} {Q : VK} {Qp : PV → Prop}, Rel S O env σ H → Reps (fz O H) xs vs → f xs Qp →
    (∀ v x H', Rel S O env σ H' → Lt S σ O env H O env H' → Rep (fz O H') x v → Qp x → Q v H') → sp vs H Q E
def fCall (f : List PV → (PV → Prop) → Prop) (fa : FA) : FE := fun env Q => fa env fun xs env1 => f xs fun z => Q z env1
instance {sp : Sp} {E : XK} {f} {t : TA} {fa : FA} [hs : SpP S sp E f] [ha : PureA S t fa] : PureE S (tCall sp [] E t) (fCall f fa) := ⟨fun R q k =>
  ha.snd R q fun vs xs env1 H1 O1 R1 L1 r1 q1 => by
    rw [List.append_nil]
    exact hs.snd R1 r1 q1 fun v x H2 R2 L2 r2 q2 => k v x env1 H2 O1 R2 (L1.trans L2) r2 q2⟩
instance {f} : SpP S (spP f) S.E (fun xs Q => f xs Q S.Ep) := ⟨fun {O env σ H vs xs Q Qp} R r q k => ⟨O, xs, Qp, S.Ep, R.oH, r, q, fun v x H' s r' q' => k v x H' (R.same s) (.same s) r' q', fun C fs ys us d H' s e l r' q' =>
  R.ok.eok C fs ys us d H' (R.same s).fr e l (Reps.mono (R.same s).ret _ _ r') q'⟩⟩
/-- of a def that raises nothing -/
instance {f} : SpP S (spP f) E0 (fun xs Q => f xs Q fun _ _ => False) := ⟨fun {O env σ H vs xs Q Qp} R r q k => ⟨O, xs, Qp, fun _ _ => False, R.oH, r, q, fun v x H' s r' q' => k v x H' (R.same s) (.same s) r' q', fun C fs ys us d H' s e l r' q' => q'.elim⟩⟩
/-- a def's start -/
def startP (n : Nat) (xs : List PV) : PEnv := xs.map (fun x => some (.fr x)) ++ List.replicate (n - xs.length) none
theorem rel_start {K : PySem.W.Frag} {O : Addr → Prop} {H : Hp} {N : List Str} {xs : List PV} {vs : List V} {E : XK} {Ep} (oh : OnH O H) (r : Reps (fz O H) xs vs)
    (ke : ∀ C (fs : List Str) ys us d H', Same H H' → H' d = some (.xd (fs.zip us)) → fs.length = us.length → Reps (fz O H') ys us → Ep C (fs.zip ys) → E (.ref C) (some d) H') :
    Rel ⟨K, H, O, fun _ => False, fun _ => True, E, Ep⟩ O (startP N.length xs) (L2.start N vs) H := by
  refine ⟨⟨fun a h => let ⟨o, e, _⟩ := oh a h; ⟨o, e⟩, fun a h => h.elim, fun _ _ _ _ _ => trivial, fun C fs ys us d H' fr e l r' q => ke C fs ys us d H' (fun a o z => fr.same a o (fun z => z) z) e l r' q⟩, ⟨fun a o _ e => e, fun a h => h.elim, trivial⟩, fun a h => h, oh, fun i sv e => ?_, fun i j sv sw l hij e1 e2 w1 w2 => ?_, by simp [startP, L2.start, r.length]⟩
  · have hi : i < xs.length := by
      refine Nat.lt_of_not_le fun h => ?_
      unfold startP at e
      rw [List.getElem?_append_right (by simpa using h)] at e
      rw [List.getElem?_replicate] at e
      split at e <;> cases e
    unfold startP at e
    rw [List.getElem?_append_left (by simpa using hi), List.getElem?_map, List.getElem?_eq_getElem hi] at e
    cases e
    obtain ⟨v, h1, h2⟩ := r.get (List.getElem?_eq_getElem hi)
    refine ⟨v, ?_, h2⟩
    unfold L2.start
    rw [List.getElem?_append_left (by simp [← r.length, hi]), List.getElem?_map, h1]
    rfl
  · have : sv.own = false := by
      unfold startP at e1
      rcases Nat.lt_or_ge i xs.length with hi | hi
      · rw [List.getElem?_append_left (by simpa using hi), List.getElem?_map, List.getElem?_eq_getElem hi] at e1
        cases e1; rfl
      · rw [List.getElem?_append_right (by simpa using hi), List.getElem?_replicate] at e1
        split at e1 <;> cases e1
    rw [this] at w1; cases w1
/-- THE END of a def's proof: its reading holds where its value is the promised one -/
theorem def_end (K : PySem.W.Frag) {N : List Str} {t : TS} {fs : (Addr → List (Str × PV) → Prop) → FS} {f : List PV → (PV → Prop) → (Addr → List (Str × PV) → Prop) → Prop} {vs : List V} {H : Hp} {Q : VK} {E : XK} (h : spP f vs H Q E)
    (inst : ∀ S : Sit, S.K = K → S.E = E → PureS S t (fs S.Ep))
    (k : ∀ xs Qp Ep, f xs Qp Ep → fs Ep { nx := fun _ => Qp .non, rt := Qp } (startP N.length xs)) : t { nx := fun _ H' => Q .non H', rt := Q } (L2.start N vs) H := by
  obtain ⟨O, xs, Qp, Ep, oh, r, q, kq, ke⟩ := h
  have R := rel_start (K := K) (N := N) oh r ke
  exact (inst _ rfl rfl).snd R (k xs Qp Ep q) (fun env' σ' H' O' R' _ q' => kq _ .non H' (fun a o e => R'.fr.same a o (fun z => z) e) (rfl : V.non = V.non) q') (fun v x H' _ fr _ r' q' => kq v x H' (fun a o e => fr.same a o (fun z => z) e) r' q') (fun _ _ _ _ _ _ z => z.elim) (fun _ _ _ _ _ _ z => z.elim)
end
end PL

set_option Elab.async false
set_option linter.all false
set_option maxRecDepth 100000
set_option maxHeartbeats 4000000
/-! sorted of data: lists, tuples; of any length -/
namespace L2
open PySem PySem.Spec PyProof.Rows PySem.W
section
variable {X : Cx} {pins : List (Addr × Obj)} {σ : St} {H : Hp} {s : Shared}
/-- values with the data that they are -/
def rel2 : Value → V × PyData → Prop := fun v b => RelV b.1 v
theorem each_rel : ∀ {vs : List V} {us : List Value} {ds : List PyData}, Vals vs us → vs.length = ds.length → EachIs rel2 us (vs.zip ds)
  | [], _, [], .nil, _ => .nil
  | v :: vs, _, d :: ds, .cons r t, l => .cons r (each_rel t (by simpa using l))
theorem each_vals : ∀ {us : List Value} {bs : List (V × PyData)}, EachIs rel2 us bs → Vals (bs.map Prod.fst) us
  | _, _, .nil => .nil
  | _, _, .cons r t => .cons r (each_vals t)
theorem dpAll_len {K : PySem.W.Frag} {H : Hp} : ∀ {vs : List V} {ds : List PyData}, DpAll K H vs ds → vs.length = ds.length
  | _, _, .nil => rfl
  | _, _, .cons _ t => by simp [dpAll_len t]
theorem each_reads (I : Inv X pins σ H s) : ∀ {vs : List V} {us : List Value} {ds : List PyData}, Vals vs us → DpAll X.K H vs ds → EachIs (fun v b => ∃ as, Reads s.heap v (Prod.snd b) as) us (vs.zip ds)
  | [], _, [], .nil, .nil => .nil
  | v :: vs, _, d :: ds, .cons r t, .cons h q => .cons (Dp.reads I d _ _ h r) (each_reads I t q)
/-- the sorted list -/
noncomputable def sortVD (vs : List V) (ds : List PyData) : List V := ((vs.zip ds).mergeSort (PySem.W.dataLe false Prod.snd)).map Prod.fst
theorem map_snd_zip : ∀ {vs : List V} {ds : List PyData}, vs.length = ds.length → (vs.zip ds).map Prod.snd = ds
  | [], [], _ => rfl
  | v :: vs, d :: ds, l => by rw [List.zip_cons_cons, List.map_cons, map_snd_zip (by simpa using l)]
/-- what is left once the items are collected: a new list of them is made and sorted -/
theorem sort_new {A : Around} {vs : List V} {us : List Value} {ds : List PyData} {Q : Fin → Shared → Prop} {E : Value → Shared → Prop} (I : Inv X pins σ H s) (r : Vals vs us) (d : DpAll X.K H vs ds) (hal : AllAlike ds) (hk : Sortable ds) (hl : vs.length ≤ sizeLine) (hu : ∀ d ∈ ds, A.units + 1 + d.depth < cLine)
    (h : ∀ p s', Inv X pins σ (upd H p (.lst (sortVD vs ds))) s' → H p = none → Q (.done (.ret (.ref p))) s') :
    wpAny (model X.prog X.w) A (do
      let l ← newList us
      let _ ← holding [l] (call (.builtin "list.sort") [l])
      pure (.done (.ret l))) Q E s := by
  have hlen := dpAll_len d
  have hul : us.length ≤ sizeLine := by rw [← r.length]; exact hl
  refine wpAny_bind (wpAny_newList ?_ hul)
  have hoL : (s.heap.push (seqObj "list" us.toArray 0)).get? s.heap.objs.size = some (seqObj "list" us.toArray 0) := Heap.get?_push_size _ rfl
  show wpAny _ _ _ _ _ { s with heap := s.heap.push (seqObj "list" us.toArray 0) }
  have old : ∀ b o, s.heap.get? b = some o → (sortingHeap (s.heap.push (seqObj "list" us.toArray 0)) s.heap.objs.size us).get? b = some o := fun b o e =>
    sortingHeap_old (Nat.ne_of_lt (Heap.lt_size e)) (Heap.get?_push_of_some _ e)
  have er : EachIs (fun v b => ∃ as, Reads (sortingHeap (s.heap.push (seqObj "list" us.toArray 0)) s.heap.objs.size us) v (Prod.snd b) as) us (vs.zip ds) :=
    (each_reads I r d).mono fun _ _ ⟨as, q⟩ => ⟨as, PyProof.Rows.Reads.keeps old q⟩
  have e := each_rel r hlen
  have hal' : AllAlike ((vs.zip ds).map Prod.snd) := by rw [map_snd_zip hlen]; exact hal
  have hk' : Sortable ((vs.zip ds).map Prod.snd) := by rw [map_snd_zip hlen]; exact hk
  refine wpAny_bind (wpAny_holding (wpAny_call_entry PyProof.Rows.slot_list_sort ⟨_, hoL, rfl⟩ PyProof.Rows.entry_list_sort
    (list_sort_vals (s := { s with heap := s.heap.push (seqObj "list" us.toArray 0) }) (κ := dataKind (sortingHeap (s.heap.push (seqObj "list" us.toArray 0)) s.heap.objs.size us) ((vs.zip ds).map Prod.snd)) hoL
      (SortsAt.data (s := { s with heap := sortingHeap (s.heap.push (seqObj "list" us.toArray 0)) s.heap.objs.size us }) (each_map (R := fun v d => ∃ as, Reads (sortingHeap (s.heap.push (seqObj "list" us.toArray 0)) s.heap.objs.size us) v d as) Prod.snd er) hal' hk' (by rw [map_snd_zip hlen]; exact hu)) hul ⟨.none, rfl, ?_⟩) (PyProof.Rows.args_list_sort _)))
  have eo := sortVals_data false e er hal'
  generalize sortVals (dataKind (sortingHeap (s.heap.push (seqObj "list" us.toArray 0)) s.heap.objs.size us) ((vs.zip ds).map Prod.snd)) false us us = out at eo ⊢
  obtain ⟨e', he'⟩ := PyProof.Rows.sortedHeap_at (vs := us) (out := out.toArray) hoL
  have rv : Vals (sortVD vs ds) out := each_vals eo
  have hlo : (sortVD vs ds).length ≤ sizeLine := by
    unfold sortVD
    rw [List.length_map, List.length_mergeSort, List.length_zip, ← hlen, Nat.min_self]
    exact hl
  refine wpAny_pure (h s.heap.objs.size _ (I.laid (t' := s.toks) (fun b u e => ?_) (Nat.le_refl _) ⟨hlo, out, e', rv, he'⟩) (I.hok.fresh (Nat.le_refl _)))
  have hb : b < s.heap.objs.size := Heap.lt_size e
  rw [PyProof.Rows.sortedHeap_old (Nat.ne_of_lt hb) (by rw [size_push']; exact Nat.lt_succ_of_lt hb)]
  exact Heap.get?_push_of_some _ e
/-- sorted(xs), xs a list or a tuple of data -/
noncomputable def rSortD (K : PySem.W.Frag) : List V → Hp → VK → Prop := fun vs H Q => ∃ (a : Addr) (ys : List V) (ds : List PyData), vs = [V.ref a] ∧ (SqL K H a ys ∨ SqT K H a ys) ∧ DpAll K H ys ds ∧ AllAlike ds ∧ Sortable ds ∧ (∀ d ∈ ds, d.depth ≤ 60) ∧
  ∀ p, H p = none → Q (.ref p) (upd H p (.lst (sortVD ys ds)))
theorem call_sortD (hu : X.A.units + 64 < cLine) : CallR X (.builtin "sorted") (rSortD X.K) := by
  intro pins s σ H xs us Q I r h
  obtain ⟨a, ys, ds, rfl, hs, hd, hal, hk, h60, q⟩ := h
  obtain ⟨u, rfl, rx⟩ := vals1 r
  cases rx
  have key : ∀ {T : String} {o : Obj} {its : List Value} {n : Nat}, (T = "list" ∨ T = "tuple") → s.heap.get? a = some o → o.cls = .type T → o.data = .seq its.toArray n → Vals ys its → its.length ≤ sizeLine → wpAny (model X.prog X.w) X.A (call (.builtin "sorted") [.ref a]) (EP X pins σ Q) X.xe s := fun {T o its n} hT ho hc hdt rv hz => by
    refine Calls.call_function_entry PyProof.Rows.kind_sorted PyProof.Rows.plain_sorted PyProof.Rows.entry_sorted (PyProof.Rows.args_sorted1 _) ?_
    unfold Builtin.«sorted»
    refine wpAny_bind (m := checkCount "sorted" 1 1 _) (wpAny_pure ?_)
    refine wpAny_bind (wpAny_collect_seq a hT ho hc hdt (fun h' kp => ?_) (by rw [List.size_toArray]; exact hz))
    have I1 : Inv X pins σ H { s with heap := h' } := I.kept (t' := s.toks) kp
    refine sort_new (A := X.A.in1) I1 (by simpa using rv) hd hal hk (by rw [rv.length]; exact hz) (fun d hd => ?_) fun p s' I2 hp => ⟨_, rfl, .ref p, _, I2, rfl, q p hp⟩
    show X.A.units + 1 + 1 + d.depth < cLine
    have := h60 d hd
    omega
  rcases hs with hq | hq
  · obtain ⟨its, r', pl, hz⟩ := I.list hq
    obtain ⟨o, ho, hc, n, hdt⟩ := pl.isList
    exact key (.inl rfl) ho hc hdt r' (by rw [← r'.length]; exact hz)
  · obtain ⟨its, r', ⟨o, ho, hc, n, hdt⟩, hz⟩ := I.tuple hq
    exact key (.inr rfl) ho hc hdt r' (by rw [← r'.length]; exact hz)
/-- a key as a datum -/
def kD : Key → PyData
  | .inl i => .int i
  | .inr x => .str x
theorem kD_dp {K : PySem.W.Frag} {H : Hp} : ∀ ks : List Key, DpAll K H (ks.map kV) (ks.map kD)
  | [] => .nil
  | .inl i :: ks => .cons (.int i) (kD_dp ks)
  | .inr x :: ks => .cons (.str x) (kD_dp ks)
theorem isKeys_dp {K : PySem.W.Frag} {H : Hp} {kvs : List (List Key × V)} {bs : List Addr} (h : IsKeys H kvs bs) : DpAll K H (bs.map V.ref) (kvs.map fun kv => .tuple (kv.1.map kD)) := by
  unfold IsKeys at h
  induction h with
  | nil => exact .nil
  | cons r t ih => exact .cons (.tup (SqT.of r) (kD_dp _)) ih
/-- sorted(d), d a dict whose keys are tuples -/
noncomputable def rSortDT : List V → Hp → VK → Prop := fun vs H Q => ∃ (a : Addr) (kvs : List (List Key × V)), vs = [V.ref a] ∧ Rd H a (.dT kvs) ∧ AllAlike (kvs.map fun kv => PyData.tuple (kv.1.map kD)) ∧ Sortable (kvs.map fun kv => PyData.tuple (kv.1.map kD)) ∧ (∀ kv ∈ kvs, (PyData.tuple (kv.1.map kD)).depth ≤ 60) ∧
  ∀ p bs, H p = none → IsKeys H kvs bs → Q (.ref p) (upd H p (.lst (sortVD (bs.map V.ref) (kvs.map fun kv => PyData.tuple (kv.1.map kD)))))
theorem call_sortDT (calm : X.calm = true) (hu : X.A.units + 64 < cLine) : CallR X (.builtin "sorted") rSortDT := by
  intro pins s σ H xs us Q I r h
  obtain ⟨d, kvs, rfl, hd, hal, hk, h60, q⟩ := h
  obtain ⟨u, rfl, rx⟩ := r.one
  cases rx
  obtain ⟨z, hs, ks, pr, o, es, ep, ho, hx, hdt, he, hn⟩ := (show ObjOk X.prog X.w H s.heap d (.dT kvs) from hd.ok I.hok)
  have l1 : es.size = ks.length := size_of_entries he
  have l2 : kvs.length = ks.length := Paired.length pr
  refine Calls.call_function_entry PyProof.Rows.kind_sorted PyProof.Rows.plain_sorted PyProof.Rows.entry_sorted (PyProof.Rows.args_sorted1 _) ?_
  unfold Builtin.«sorted»
  refine wpAny_bind (m := checkCount "sorted" 1 1 _) (wpAny_pure ?_)
  refine wpAny_bind (PySem.W.kdu_collect (A := X.A.in1) (kdl_raw hs hx hdt) (I.ok.hd calm) ho (by omega) fun h' tk acc kp it => ?_)
  have eb : acc.toList = (ks.map fun x => x.2.1).map Value.ref := by
    have hl : acc.toList.length = ks.length := by rw [Array.length_toList, it.1]; exact l1
    apply List.ext_getElem?
    intro j
    rw [List.map_map, List.getElem?_map]
    rcases Nat.lt_or_ge j acc.toList.length with hj | hj
    · obtain ⟨en, hen, hv⟩ := it.2 j _ (by rw [← Array.getElem?_toList]; exact List.getElem?_eq_getElem hj)
      have qe := entry_at he j
      rw [hen, List.getElem?_eq_getElem (by omega)] at qe
      rw [List.getElem?_eq_getElem hj, List.getElem?_eq_getElem (show j < ks.length by omega), hv, Option.some.inj qe]
      rfl
    · rw [List.getElem?_eq_none hj, List.getElem?_eq_none (by omega)]
      rfl
  have I1 : Inv X pins σ H { s with heap := h', toks := tk } := I.kept kp
  have hik := isKeys_of pr
  refine sort_new (A := X.A.in1) I1 (vs := (ks.map fun x => x.2.1).map V.ref) (by rw [eb]; exact vals_refs _) (isKeys_dp hik) hal hk (by rw [List.length_map, List.length_map]; omega) (fun e hm => ?_) fun p s' I2 hp => ⟨_, rfl, .ref p, _, I2, rfl, q p _ hp hik⟩
  obtain ⟨kv, hkv, rfl⟩ := List.mem_map.mp hm
  show X.A.units + 1 + 1 + _ < cLine
  have := h60 kv hkv
  omega
end
end L2

set_option Elab.async false
set_option linter.all false
set_option maxRecDepth 100000
set_option maxHeartbeats 4000000
/-! starred items; a dict display with one key that is a tuple; comb -/
namespace L2
open PySem PySem.Spec PyProof.Rows PySem.W
section
variable {X : Cx} {pins : List (Addr × Obj)} {σ : St} {H : Hp} {s : Shared}
theorem star_lst {a : Addr} {xs : List V} {E : Value → Shared → Prop} {Q : List Value → Shared → Prop} (I : Inv X pins σ H s) (h : SqL X.K H a xs) (hQ : ∀ us s', Inv X pins σ H s' → Vals xs us → Q us s') :
    StarOf (model X.prog X.w) X.A E (.ref a) Q s := by
  obtain ⟨its, r, pl, hz⟩ := I.list h
  obtain ⟨o, ho, hc, n, hd⟩ := pl.isList
  have hT : s.TypeIs (.ref a) "list" := ⟨o, ho, hc⟩
  have hl := r.length
  unfold StarOf notIterableAtAll
  refine wpAny_bind (wpAny_specialOf hT PySem.F.slot_list_iter.lookup (wpAny_pure ⟨rfl, ?_⟩))
  refine wpAny_collect_seq a (.inl rfl) ho hc hd (fun h' hk => ?_) (by rw [List.size_toArray]; omega)
  have e : its.toArray.toList = its := by simp
  rw [e]
  exact hQ its _ (I.kept (t' := s.toks) hk) r
/-- the items of a list or a tuple among an expression's items -/
def tStar (K : PySem.W.Frag) (te : TE) (t : TA) : TA := fun σ H Q => te σ H fun x H1 => ∃ a ys, x = .ref a ∧ (SqL K H1 a ys ∨ SqT K H1 a ys) ∧ t σ H1 fun xs H2 => Q (ys ++ xs) H2
theorem pa_star {e : Expr} {es : List Expr} {p : Pos} {te : TE} {t : TA} (ha : PE X e te) (hr : PA X es t) (hs : starEach (.Starred e p :: es) X.env = (true, eval e X.env) :: starEach es X.env := by rfl) : PA X (.Starred e p :: es) (tStar X.K te t) := by
  refine ⟨fun pos pins s σ H Q I h => ?_⟩
  rw [hs]
  show wpAny _ _ (spliced ((true, (do let v ← eval e X.env; standAt pos; pure v)) :: backTo pos (starEach es X.env))) _ _ s
  refine ks_spliced (thn (ha.run pins s σ H _ I h) fun u s1 ⟨x, H1, I1, r1, a, ys, ex, hq, q1⟩ => ?_)
  subst ex
  cases r1
  have fin : ∀ us s', Inv X pins σ H1 s' → Vals ys us → wpAny (model X.prog X.w) X.A (spliced (backTo pos (starEach es X.env))) (fun vs s₃ => AP X pins σ Q (us ++ vs) s₃) X.xe s' := fun us s2 I2 rv =>
    thn (hr.run pos pins s2 σ H1 _ I2 q1) fun ws s3 ⟨xs, H2, I3, r3, q3⟩ => ⟨ys ++ xs, H2, I3, rv.append r3, q3⟩
  rcases hq with hq | hq
  · exact star_lst I1 hq fin
  · exact star_tup I1 hq fin
/-- comb(a, b) -/
def rComb : List V → Hp → VK → Prop := fun vs H Q => ∃ a b : Int, vs = [.int a, .int b] ∧ 0 ≤ a ∧ 0 ≤ b ∧ a ≤ 18000 ∧ Q (.int (mcComb a b)) H
theorem cr_comb : CallR X (.builtin "math.comb") rComb := by
  intro pins s σ H vs us Q I r h
  obtain ⟨a, b, rfl, h1, h2, h3, q⟩ := h
  obtain ⟨t, u, rfl⟩ := Vals.int2 r
  exact mc_comb h1 h2 (by omega) (.inr h3) fun _ => ⟨.int _, H, I.tok _, ⟨_, rfl⟩, q⟩
/-- {k: v}, k a tuple -/
def tDispT (tk tv : TE) : TE := fun σ H Q => ∀ p, H p = none → tk σ (upd H p (.dT [])) fun x H1 => tv σ H1 fun y H2 => H2 p = some (.dT []) ∧ ∃ ks b, x = .ref b ∧ H2 b = some (.tup (ks.map kV)) ∧ Q (.ref p) (upd H2 p (.dT [(ks, y)]))
theorem pe_dispT {k v : Expr} {tk tv : TE} {pos : Pos} (hu : X.A.units + 1 < cLine) (hk : PE X k tk) (hv : PE X v tv) : PE X (.Dict [some k] [v] pos) (tDispT tk tv) := by
  refine ⟨fun pins s σ H Q I q => ?_⟩
  have hn := I.hok.fresh (Nat.le_refl s.heap.objs.size)
  have I1 := I.laid (a := s.heap.objs.size) (o := .dT []) (h' := s.heap.push { cls := .type "dict", data := .dict #[] }) (t' := s.toks) (fun _ _ q => Heap.get?_push_of_some _ q) (Nat.le_refl _) (dt_empty s.heap I.big)
  refine wpAny_Dict_any rfl rfl (fun z => nomatch z) (by show 1 ≤ 15; decide) ?_
  refine pairTrees_cons_walk (thn (hk.run pins _ σ _ _ I1 (q _ hn)) fun u s1 ⟨x, H1, I2, rx, q1⟩ => thn (hv.run pins s1 σ H1 _ I2 q1) fun w s2 ⟨y, H2, I3, ry, q2⟩ => pairTrees_nil_walk ?_)
  obtain ⟨e, ks, b, rfl, eb, q3⟩ := q2
  cases (show u = Value.ref b from rx)
  obtain ⟨z, hd, xs, rel, dd⟩ := dt_of I3.hok e
  cases rel
  unfold storeAll
  rw [List.forIn_cons]
  refine wpAny_bind (wpAny_bind (wpAny_dictSet_heap (hsz := Nat.zero_le _) (show X.A.units < cLine by omega) (key_of I3.hok eb) dd fun h' dd' hs => wpAny_pure ?_))
  show wpAny _ _ (forIn ([] : List (PySem.Value × PySem.Value)) PUnit.unit _) _ _ _
  rw [List.forIn_nil]
  refine wpAny_pure ⟨.ref s.heap.objs.size, _, ?_, rfl, q3⟩
  obtain ⟨q', es, ep, hq, h2, h3, h4, _, h5⟩ := dd'
  have r2 : KT (upd H2 s.heap.objs.size (.dT [(ks, y)])) (putK ([] : List (List Key × V)) ks y) _ := (KT.put (xs := []) (kvs := []) (H := H2) .nil ks eb ry).keeps fun c ys ec => by
    rw [upd_ne (ne_of ec e (fun z => nomatch z))]
    exact ec
  exact d_write I3 (by rw [e]; exact True.intro) hs ⟨q', hq⟩ ⟨by show 1 ≤ sizeLine; decide, hd, _, r2, q', es, ep, hq, h2, h3, h4, h5⟩
end
end L2

set_option Elab.async false
set_option linter.all false
set_option maxRecDepth 100000
set_option maxHeartbeats 2000000
/-! zip of a list and a tuple, in any order -/
namespace ZM
open PySem
open PySem.Sem (wp)
/-- a tuple (true) or a list, and its iterator -/
def SqAt : Bool → Heap → Addr → Array Value → Prop
  | true, h, l, xs => h.IsTuple l xs
  | false, h, l, xs => h.IsList l xs
def ItAt : Bool → Heap → Addr → Addr → Nat → Prop
  | true, h, i, l, n => h.IsTupleIter i l n
  | false, h, i, l, n => h.IsListIter i l n
theorem SqAt.extBut {k : Bool} {g g' : Heap} {c l : Addr} {xs : Array Value} (e : SqAt k g l xs) (x : Heap.ExtBut c g g') (n : l ≠ c) : SqAt k g' l xs := by
  cases k with
  | true => exact Heap.IsTuple.extBut (show g.IsTuple l xs from e) x n
  | false => exact Heap.IsList.extBut (show g.IsList l xs from e) x n
theorem ItAt.extBut {k : Bool} {g g' : Heap} {c i l : Addr} {m : Nat} (e : ItAt k g i l m) (x : Heap.ExtBut c g g') (n : i ≠ c) : ItAt k g' i l m := by
  cases k with
  | true => exact Heap.IsTupleIter.extBut (show g.IsTupleIter i l m from e) x n
  | false => exact Heap.IsListIter.extBut (show g.IsListIter i l m from e) x n
theorem ItAt.at {k : Bool} {g g' : Heap} {i l : Addr} {m : Nat} (e : ItAt k g i l m) (x : ∀ o, g.get? i = some o → g'.get? i = some o) : ItAt k g' i l m := by
  cases k with
  | true => exact Heap.IsTupleIter.at (show g.IsTupleIter i l m from e) x
  | false => exact Heap.IsListIter.at (show g.IsListIter i l m from e) x
theorem ItAt.ob {k : Bool} {g : Heap} {i l : Addr} {m : Nat} (e : ItAt k g i l m) : ∃ o, g.get? i = some o ∧ ∀ v, o.data ≠ .cell v := by
  cases k with
  | true => obtain ⟨o, e1, _, d⟩ := (show g.IsTupleIter i l m from e); exact ⟨o, e1, fun v q => by rw [d] at q; cases q⟩
  | false => obtain ⟨o, e1, _, d⟩ := (show g.IsListIter i l m from e); exact ⟨o, e1, fun v q => by rw [d] at q; cases q⟩
theorem ItAt.lt {k : Bool} {g : Heap} {i l : Addr} {m : Nat} (e : ItAt k g i l m) : i < g.objs.size := by
  obtain ⟨o, q, _⟩ := e.ob
  exact Heap.lt_size q
section
variable {prog : Program} {w : World} {A : Around} {E : Value → Shared → Prop} {s : Shared}
theorem nextAt_item {k : Bool} {it l : Addr} {i : Nat} {items : Array Value} {x : Value} {R : Value → Shared → Prop} (e : ItAt k s.heap it l i) (f : SqAt k s.heap l items) (g : items[i]? = some x)
    (c : ∀ h', ItAt k h' it l (i + 1) → Heap.SameBut it s.heap h' → R x { s with heap := h' }) : wpAny (model prog w) A (Builtin.SmallTypes.nextOf (.ref it)) R E s := by
  cases k with
  | true => exact RZ.nextOf_tuple_item e f g c
  | false => exact wpAny_nextOf_list_item e f g c
theorem nextAt_end {k : Bool} {it l : Addr} {i : Nat} {items : Array Value} {R : Value → Shared → Prop} (cl : A.handled = none) (e : ItAt k s.heap it l i) (f : SqAt k s.heap l items) (g : items[i]? = none)
    (c : ∀ h' e, Heap.ExtBut it s.heap h' → (∃ o, h'.get? e = some o ∧ o.cls = .type "StopIteration") → E (.ref e) { s with heap := h' }) : wpAny (model prog w) A (Builtin.SmallTypes.nextOf (.ref it)) R E s := by
  cases k with
  | true => exact RZ.nextOf_tuple_end cl e f g c
  | false => exact wpAny_nextOf_list_end cl e f g c
theorem zipM_item {k k' : Bool} {zz tI tO j1 j2 m1 m2 : Addr} {n1 n2 : Nat} {vs ws : Array Value} {p q c0 d0 : Value} {R : Value → Shared → Prop} (DD : ZipApart zz tI tO j1 j2 m1 m2)
    (qz : IsZip s.heap zz tI tO .none) (qI : IsPair s.heap tI (.ref j1) (.ref j2)) (qO : IsPair s.heap tO c0 d0)
    (w1 : ItAt k s.heap j1 m1 n1) (w2 : ItAt k' s.heap j2 m2 n2) (u1 : SqAt k s.heap m1 vs) (u2 : SqAt k' s.heap m2 ws) (px : vs[n1]? = some p) (py : ws[n2]? = some q)
    (kQ : ∀ g', IsZip g' zz tI tO (rawInt s.heap.objs.size) → IsPair g' tO p q → ItAt k g' j1 m1 (n1 + 1) → ItAt k' g' j2 m2 (n2 + 1) → IsPair g' s.heap.objs.size p q → g'.objs.size = s.heap.objs.size + 1 →
      (∀ c o, c ≠ zz → c ≠ tO → c ≠ j1 → c ≠ j2 → s.heap.get? c = some o → g'.get? c = some o) → R (.ref s.heap.objs.size) { s with heap := g' }) :
    wpAny (model prog w) A (Builtin.«zip.__next__» ⟨[.ref zz], []⟩) (fun fin s' => ∃ v, fin = .done (.ret v) ∧ R v s') E s := by
  show wpAny _ _ (field (.ref zz) 2 >>= _) _ _ _
  refine wpAny_bind (wpAny_field qz rfl (x := .bool false) rfl ?_)
  show wpAny _ _ (field (.ref zz) 3 >>= _) _ _ _
  refine wpAny_bind (wpAny_field qz rfl (x := .ref tI) rfl ?_)
  refine wpAny_bind (wpAny_seqItems qI rfl ?_)
  show wpAny _ _ (Builtin.SmallTypes.ownedTupleIsFree (.ref zz) >>= _) _ _ _
  refine wpAny_bind ?_
  (unfold Builtin.SmallTypes.ownedTupleIsFree)
  refine wpAny_bind (wpAny_field qz rfl (x := .none) rfl (wpAny_pure ?_))
  simp only [if_true]
  refine wpAny_bind (wpAny_rule ?_)
  refine wpAny_bind (wpAny_field qz rfl (x := .ref tO) rfl ?_)
  refine wpAny_bind (wpAny_setField_rec qz (by simp) fun g₁ qz₁ s₁ => ?_)
  replace qz₁ : IsZip g₁ zz tI tO .ellipsis := qz₁
  refine wpAny_bind ?_
  simp only [List.forIn_cons, List.forIn_nil, List.zipIdx_nil, List.zipIdx_cons]

  refine wpAny_bind (wpAny_bind (wpAny_onRaise ?_))
  show wpAny _ _ (Builtin.SmallTypes.nextOf (.ref j1) >>= _) _ _ _
  refine wpAny_bind (nextAt_item (w1.extBut s₁.extBut DD.i1z) (u1.extBut s₁.extBut DD.l1z) px fun g₂ w1₂ s₂ => wpAny_pure ?_)
  have qO₂ : IsPair g₂ tO c0 d0 := s₂.extBut _ _ DD.TOi1 (s₁.extBut _ _ DD.TOz qO)
  refine wpAny_bind (wpAny_seqItems qO₂ rfl ?_)
  refine wpAny_bind (wpAny_updateSeq_pair qO₂ fun g₃ qO₃ s₃ => ?_)
  replace qO₃ : IsPair g₃ tO p d0 := qO₃
  refine wpAny_bind (wpAny_letGo (wpAny_pure ?_))

  refine wpAny_bind (wpAny_bind (wpAny_onRaise ?_))
  show wpAny _ _ (Builtin.SmallTypes.nextOf (.ref j2) >>= _) _ _ _
  refine wpAny_bind (nextAt_item (((w2.extBut s₁.extBut DD.i2z).extBut s₂.extBut DD.i12.symm).extBut s₃.extBut DD.TOi2.symm)
    (((u2.extBut s₁.extBut DD.l2z).extBut s₂.extBut DD.l2i1).extBut s₃.extBut DD.l2TO) py fun g₄ w2₄ s₄ => wpAny_pure ?_)
  have qO₄ : IsPair g₄ tO p d0 := s₄.extBut _ _ DD.TOi2 qO₃
  refine wpAny_bind (wpAny_seqItems qO₄ rfl ?_)
  refine wpAny_bind (wpAny_updateSeq_pair qO₄ fun g₅ qO₅ s₅ => ?_)
  replace qO₅ : IsPair g₅ tO p q := qO₅
  refine wpAny_bind (wpAny_letGo (wpAny_pure (wpAny_pure ?_)))

  refine wpAny_bind (wpAny_seqItems qO₅ rfl ?_)
  refine wpAny_bind (wpAny_newTuple ?_)
  have sz : g₅.objs.size = s.heap.objs.size := by rw [s₅.1, s₄.1, s₃.1, s₂.1, s₁.1]
  have qz₅ : IsZip g₅ zz tI tO .ellipsis := s₅.extBut _ _ DD.TOz.symm (s₄.extBut _ _ DD.i2z.symm (s₃.extBut _ _ DD.TOz.symm (s₂.extBut _ _ DD.i1z.symm qz₁)))
  have k₅ : ∀ c o, c ≠ zz → c ≠ tO → c ≠ j1 → c ≠ j2 → s.heap.get? c = some o → g₅.get? c = some o := fun c o c1 c2 c3 c4 e =>
    s₅.extBut _ _ c2 (s₄.extBut _ _ c4 (s₃.extBut _ _ c2 (s₂.extBut _ _ c3 (s₁.extBut _ _ c1 e))))
  have w1₅ : ItAt k g₅ j1 m1 (n1 + 1) := ((w1₂.extBut s₃.extBut DD.TOi1.symm).extBut s₄.extBut DD.i12).extBut s₅.extBut DD.TOi1.symm
  have w2₅ : ItAt k' g₅ j2 m2 (n2 + 1) := w2₄.extBut s₅.extBut DD.TOi2.symm
  have ltz : zz < g₅.objs.size := Heap.lt_size qz₅
  have ltO : tO < g₅.objs.size := Heap.lt_size qO₅
  have lt1 : j1 < g₅.objs.size := w1₅.lt
  have lt2 : j2 < g₅.objs.size := w2₅.lt
  show wpAny _ _ (Builtin.SmallTypes.ownedTupleHandOut (.ref zz) (.ref g₅.objs.size) >>= _) _ _ _
  refine wpAny_bind ?_
  (unfold Builtin.SmallTypes.ownedTupleHandOut)
  have qz₆ : IsZip (g₅.push { cls := .type "tuple", data := .seq #[p, q] }) zz tI tO .ellipsis := Heap.get?_push_of_some _ qz₅
  refine wpAny_bind (wpAny_setField_rec qz₆ (by simp) fun g₇ qz₇ s₇ => ?_)
  replace qz₇ : IsZip g₇ zz tI tO (rawInt g₅.objs.size) := qz₇
  refine wpAny_setField_rec qz₇ (by simp) fun g₈ qz₈ s₈ => ?_
  replace qz₈ : IsZip g₈ zz tI tO (rawInt g₅.objs.size) := qz₈
  have keep : ∀ c o, c ≠ zz → g₅.get? c = some o → g₈.get? c = some o := fun c o c1 e => s₈.extBut _ _ c1 (s₇.extBut _ _ c1 (Heap.get?_push_of_some _ e))
  have qT₈ : IsPair g₈ g₅.objs.size p q := s₈.extBut _ _ (Nat.ne_of_gt ltz) (s₇.extBut _ _ (Nat.ne_of_gt ltz) (Heap.get?_push_size _ rfl))
  have qz8 : g₈.objs.size = g₅.objs.size + 1 := by rw [s₈.1, s₇.1, Heap.size_push]
  rw [sz] at qz₈ qT₈ qz8
  refine wpAny_pure ⟨_, rfl, ?_⟩
  show R (.ref g₅.objs.size) _
  rw [sz]
  exact kQ g₈ qz₈ (keep _ _ DD.TOz qO₅) (w1₅.at fun o e => keep _ o DD.i1z e) (w2₅.at fun o e => keep _ o DD.i2z e) qT₈ qz8 fun c o c1 c2 c3 c4 e => keep c o c1 (k₅ c o c1 c2 c3 c4 e)

theorem zipM_end {k k' : Bool} {zz tI tO j1 j2 m1 m2 : Addr} {n1 n2 : Nat} {vs ws : Array Value} {c0 d0 : Value} {R : Fin → Shared → Prop} (cl : A.handled = none) (DD : ZipApart zz tI tO j1 j2 m1 m2)
    (qz : IsZip s.heap zz tI tO .none) (qI : IsPair s.heap tI (.ref j1) (.ref j2)) (qO : IsPair s.heap tO c0 d0)
    (w1 : ItAt k s.heap j1 m1 n1) (w2 : ItAt k' s.heap j2 m2 n2) (u1 : SqAt k s.heap m1 vs) (u2 : SqAt k' s.heap m2 ws) (fin : vs[n1]? = none ∨ ws[n2]? = none)
    (kE : ∀ g' e, (∀ c o, c ≠ zz → c ≠ tO → c ≠ j1 → c ≠ j2 → s.heap.get? c = some o → g'.get? c = some o) → (∃ o, g'.get? e = some o ∧ o.cls = .type "StopIteration") → E (.ref e) { s with heap := g' }) :
    wpAny (model prog w) A (Builtin.«zip.__next__» ⟨[.ref zz], []⟩) R E s := by
  show wpAny _ _ (field (.ref zz) 2 >>= _) _ _ _
  refine wpAny_bind (wpAny_field qz rfl (x := .bool false) rfl ?_)
  show wpAny _ _ (field (.ref zz) 3 >>= _) _ _ _
  refine wpAny_bind (wpAny_field qz rfl (x := .ref tI) rfl ?_)
  refine wpAny_bind (wpAny_seqItems qI rfl ?_)
  show wpAny _ _ (Builtin.SmallTypes.ownedTupleIsFree (.ref zz) >>= _) _ _ _
  refine wpAny_bind ?_
  (unfold Builtin.SmallTypes.ownedTupleIsFree)
  refine wpAny_bind (wpAny_field qz rfl (x := .none) rfl (wpAny_pure ?_))
  simp only [if_true]
  refine wpAny_bind (wpAny_rule ?_)
  refine wpAny_bind (wpAny_field qz rfl (x := .ref tO) rfl ?_)
  refine wpAny_bind (wpAny_setField_rec qz (by simp) fun g₁ qz₁ s₁ => ?_)
  replace qz₁ : IsZip g₁ zz tI tO .ellipsis := qz₁
  refine wpAny_bind ?_
  simp only [List.forIn_cons, List.forIn_nil, List.zipIdx_nil, List.zipIdx_cons]
  refine wpAny_bind (wpAny_bind (wpAny_onRaise ?_))
  show wpAny _ _ (Builtin.SmallTypes.nextOf (.ref j1) >>= _) _ _ _
  cases px : vs[n1]? with
  | none =>
    refine wpAny_bind (nextAt_end cl (w1.extBut s₁.extBut DD.i1z) (u1.extBut s₁.extBut DD.l1z) px fun g₂ e s₂ ne => ?_)
    obtain ⟨oe, eoe, ece⟩ := ne
    have qz₂ : IsZip g₂ zz tI tO .ellipsis := s₂ _ _ DD.i1z.symm qz₁
    have nez : e ≠ zz := fun p => by subst p; rw [qz₂] at eoe; cases eoe; simp at ece
    refine wpAny_setField_rec qz₂ (by simp) fun g₃ _ s₃ => kE g₃ e (fun c o c1 _ c3 _ p => s₃.extBut _ _ c1 (s₂ _ _ c3 (s₁.extBut _ _ c1 p))) ⟨oe, s₃.extBut _ _ nez eoe, ece⟩
  | some p =>
    have py : ws[n2]? = none := by rcases fin with h | h; rw [px] at h; cases h; exact h
    refine wpAny_bind (nextAt_item (w1.extBut s₁.extBut DD.i1z) (u1.extBut s₁.extBut DD.l1z) px fun g₂ w1₂ s₂ => wpAny_pure ?_)
    have qO₂ : IsPair g₂ tO c0 d0 := s₂.extBut _ _ DD.TOi1 (s₁.extBut _ _ DD.TOz qO)
    refine wpAny_bind (wpAny_seqItems qO₂ rfl ?_)
    refine wpAny_bind (wpAny_updateSeq_pair qO₂ fun g₃ qO₃ s₃ => ?_)
    refine wpAny_bind (wpAny_letGo (wpAny_pure ?_))
    refine wpAny_bind (wpAny_bind (wpAny_onRaise ?_))
    show wpAny _ _ (Builtin.SmallTypes.nextOf (.ref j2) >>= _) _ _ _
    refine wpAny_bind (nextAt_end cl (((w2.extBut s₁.extBut DD.i2z).extBut s₂.extBut DD.i12.symm).extBut s₃.extBut DD.TOi2.symm)
      (((u2.extBut s₁.extBut DD.l2z).extBut s₂.extBut DD.l2i1).extBut s₃.extBut DD.l2TO) py fun g₄ e s₄ ne => ?_)
    obtain ⟨oe, eoe, ece⟩ := ne
    have qz₄ : IsZip g₄ zz tI tO .ellipsis := s₄ _ _ DD.i2z.symm (s₃.extBut _ _ DD.TOz.symm (s₂.extBut _ _ DD.i1z.symm qz₁))
    have nez : e ≠ zz := fun p => by subst p; rw [qz₄] at eoe; cases eoe; simp at ece
    refine wpAny_setField_rec qz₄ (by simp) fun g₅ _ s₅ => kE g₅ e (fun c o c1 c2 c3 c4 p => s₅.extBut _ _ c1 (s₄ _ _ c4 (s₃.extBut _ _ c2 (s₂.extBut _ _ c3 (s₁.extBut _ _ c1 p))))) ⟨oe, s₅.extBut _ _ nez eoe, ece⟩

theorem nextM_item {k k' : Bool} {zz tI tO j1 j2 m1 m2 : Addr} {n1 n2 : Nat} {vs ws : Array Value} {p q c0 d0 : Value} {R : Option Value → Shared → Prop} (DD : ZipApart zz tI tO j1 j2 m1 m2)
    (qz : IsZip s.heap zz tI tO .none) (qI : IsPair s.heap tI (.ref j1) (.ref j2)) (qO : IsPair s.heap tO c0 d0)
    (w1 : ItAt k s.heap j1 m1 n1) (w2 : ItAt k' s.heap j2 m2 n2) (u1 : SqAt k s.heap m1 vs) (u2 : SqAt k' s.heap m2 ws) (px : vs[n1]? = some p) (py : ws[n2]? = some q)
    (kQ : ∀ g', IsZip g' zz tI tO (rawInt s.heap.objs.size) → IsPair g' tO p q → ItAt k g' j1 m1 (n1 + 1) → ItAt k' g' j2 m2 (n2 + 1) → IsPair g' s.heap.objs.size p q → g'.objs.size = s.heap.objs.size + 1 →
      (∀ c o, c ≠ zz → c ≠ tO → c ≠ j1 → c ≠ j2 → s.heap.get? c = some o → g'.get? c = some o) → R (some (.ref s.heap.objs.size)) { s with heap := g' }) :
    wpAny (model prog w) A (pyNext (.ref zz)) R E s := by
  have eT : s.TypeIs (.ref zz) "zip" := ⟨_, qz, rfl⟩
  unfold pyNext
  exact wpAny_bind (wpAny_attempt (wpAny_callSpecial?_slot (name := Str.ofString "__next__") eT F.slot_zip_next
    (wpAny_call_entry F.slot_zip_next eT F.entry_zip_next
      (zipM_item DD qz qI qO w1 w2 u1 u2 px py fun g' a1 a2 a3 a4 a5 a6 a7 => wpAny_pure (kQ g' a1 a2 a3 a4 a5 a6 a7)) (F.args_zip_next_1 _))))

theorem nextM_end {k k' : Bool} {zz tI tO j1 j2 m1 m2 : Addr} {n1 n2 : Nat} {vs ws : Array Value} {c0 d0 : Value} {R : Option Value → Shared → Prop} (cl : A.handled = none) (DD : ZipApart zz tI tO j1 j2 m1 m2)
    (qz : IsZip s.heap zz tI tO .none) (qI : IsPair s.heap tI (.ref j1) (.ref j2)) (qO : IsPair s.heap tO c0 d0)
    (w1 : ItAt k s.heap j1 m1 n1) (w2 : ItAt k' s.heap j2 m2 n2) (u1 : SqAt k s.heap m1 vs) (u2 : SqAt k' s.heap m2 ws) (fin : vs[n1]? = none ∨ ws[n2]? = none)
    (kQ : ∀ g', (∀ c o, c ≠ zz → c ≠ tO → c ≠ j1 → c ≠ j2 → s.heap.get? c = some o → g'.get? c = some o) → R none { s with heap := g' }) : wpAny (model prog w) A (pyNext (.ref zz)) R E s := by
  have eT : s.TypeIs (.ref zz) "zip" := ⟨_, qz, rfl⟩
  unfold pyNext
  refine wpAny_bind (wpAny_attempt (wpAny_callSpecial?_slot (name := Str.ofString "__next__") eT F.slot_zip_next
    (wpAny_call_entry F.slot_zip_next eT F.entry_zip_next (zipM_end cl DD qz qI qO w1 w2 u1 u2 fin fun g' e kk ne => ?_) (F.args_zip_next_1 _))))
  obtain ⟨o, eo, ec⟩ := ne
  refine wpAny_bind (wpAny_isInstance (T := "StopIteration") (b := true) ⟨o, eo, ec⟩ isSubtype_stop ?_)
  exact wpAny_pure (kQ _ kk)
end


abbrev itO : Bool → Addr → Obj
  | true, l => { cls := .type "tuple_iterator", data := .fields #[.ref l, .int 0 0] }
  | false, l => { cls := .type "list_iterator", data := .fields #[.ref l, .int 0 0] }
abbrev mH1 (k : Bool) (g : Heap) (m1 : Addr) : Heap := g.push (itO k m1)
abbrev mH2 (k k' : Bool) (g : Heap) (m1 m2 : Addr) : Heap := (mH1 k g m1).push (itO k' m2)
abbrev mH3 (k k' : Bool) (g : Heap) (m1 m2 : Addr) : Heap := (mH2 k k' g m1 m2).push { cls := .type "tuple", data := .seq #[.ref g.objs.size, .ref (mH1 k g m1).objs.size] }
abbrev mH4 (k k' : Bool) (g : Heap) (m1 m2 : Addr) : Heap := (mH3 k k' g m1 m2).push { cls := .type "tuple", data := .seq #[.none, .none] }
abbrev mH5 (k k' : Bool) (g : Heap) (m1 m2 : Addr) : Heap := (mH4 k k' g m1 m2).push { cls := .type "zip", data := .fields #[.none, .bool false, .bool false, .ref (mH2 k k' g m1 m2).objs.size, .ref (mH3 k k' g m1 m2).objs.size] }
theorem new_lt (m1 m2 : Addr) (vs ws : Array Value) :
    Meets (Builtin.«zip.__new__» ⟨[.type "zip", .ref m1, .ref m2], []⟩) (fun _ R s => s.heap.IsList m1 vs ∧ s.heap.IsTuple m2 ws ∧ R (.ok (.ret (.ref (mH4 false true s.heap m1 m2).objs.size))) { s with heap := mH5 false true s.heap m1 m2 }) :=
  .of_wp fun prog w A R s h => by
    obtain ⟨hp, g, d, tk, os⟩ := s
    obtain ⟨e1, e2, h⟩ := h
    have sub := sub_zip
    have q1 : Heap.IsList (Shared.heap ⟨hp, g, d, tk, os⟩) m1 vs := e1
    have q2 : Heap.IsTuple (Shared.heap ⟨hp.push { cls := .type "list_iterator", data := .fields #[.ref m1, .int 0 0] }, g, d, tk, os⟩) m2 ws := Heap.IsTuple.push e2 _
    wp_walk using wpAny_pyIter_list q1, wpAny_pyIter_tuple q2
    exact ⟨_, rfl, h⟩
theorem new_tl (m1 m2 : Addr) (vs ws : Array Value) :
    Meets (Builtin.«zip.__new__» ⟨[.type "zip", .ref m1, .ref m2], []⟩) (fun _ R s => s.heap.IsTuple m1 vs ∧ s.heap.IsList m2 ws ∧ R (.ok (.ret (.ref (mH4 true false s.heap m1 m2).objs.size))) { s with heap := mH5 true false s.heap m1 m2 }) :=
  .of_wp fun prog w A R s h => by
    obtain ⟨hp, g, d, tk, os⟩ := s
    obtain ⟨e1, e2, h⟩ := h
    have sub := sub_zip
    have q1 : Heap.IsTuple (Shared.heap ⟨hp, g, d, tk, os⟩) m1 vs := e1
    have q2 : Heap.IsList (Shared.heap ⟨hp.push { cls := .type "tuple_iterator", data := .fields #[.ref m1, .int 0 0] }, g, d, tk, os⟩) m2 ws := Heap.IsList.push e2 _
    wp_walk using wpAny_pyIter_tuple q1, wpAny_pyIter_list q2
    exact ⟨_, rfl, h⟩
section
variable {prog : Program} {w : World} {A : Around} {E : Value → Shared → Prop} {s : Shared}
theorem call_zipM {k : Bool} {m1 m2 : Addr} {vs ws : Array Value} {R : Value → Shared → Prop} (u1 : SqAt k s.heap m1 vs) (u2 : SqAt (!k) s.heap m2 ws)
    (h : ∀ g', IsZip g' (s.heap.objs.size + 4) (s.heap.objs.size + 2) (s.heap.objs.size + 3) .none → IsPair g' (s.heap.objs.size + 2) (.ref s.heap.objs.size) (.ref (s.heap.objs.size + 1)) → IsPair g' (s.heap.objs.size + 3) .none .none → ItAt k g' s.heap.objs.size m1 0 → ItAt (!k) g' (s.heap.objs.size + 1) m2 0 → g'.objs.size = s.heap.objs.size + 5 → (∀ c o, s.heap.get? c = some o → g'.get? c = some o) → R (.ref (s.heap.objs.size + 4)) { s with heap := g' }) :
    wpAny (model prog w) A (call (.type "zip") [.ref m1, .ref m2]) R E s := by
  have fin : R (.ref (mH4 k (!k) s.heap m1 m2).objs.size) { s with heap := mH5 k (!k) s.heap m1 m2 } := by
    have z1 : (mH1 k s.heap m1).objs.size = s.heap.objs.size + 1 := Heap.size_push ..
    have z2 : (mH2 k (!k) s.heap m1 m2).objs.size = s.heap.objs.size + 2 := by rw [Heap.size_push, z1]
    have z3 : (mH3 k (!k) s.heap m1 m2).objs.size = s.heap.objs.size + 3 := by rw [Heap.size_push, z2]
    have z4 : (mH4 k (!k) s.heap m1 m2).objs.size = s.heap.objs.size + 4 := by rw [Heap.size_push, z3]
    have z5 : (mH5 k (!k) s.heap m1 m2).objs.size = s.heap.objs.size + 5 := by rw [Heap.size_push, z4]
    have f5 : (mH5 k (!k) s.heap m1 m2).get? (mH4 k (!k) s.heap m1 m2).objs.size = some _ := Heap.get?_push_size _ rfl
    have f4 : (mH5 k (!k) s.heap m1 m2).get? (mH3 k (!k) s.heap m1 m2).objs.size = some _ := Heap.get?_push_of_some _ (Heap.get?_push_size _ rfl)
    have f3 : (mH5 k (!k) s.heap m1 m2).get? (mH2 k (!k) s.heap m1 m2).objs.size = some _ := Heap.get?_push_of_some _ (Heap.get?_push_of_some _ (Heap.get?_push_size _ rfl))
    have f2 : (mH5 k (!k) s.heap m1 m2).get? (mH1 k s.heap m1).objs.size = some _ := Heap.get?_push_of_some _ (Heap.get?_push_of_some _ (Heap.get?_push_of_some _ (Heap.get?_push_size _ (by cases k <;> rfl))))
    have f1 : (mH5 k (!k) s.heap m1 m2).get? s.heap.objs.size = some _ := Heap.get?_push_of_some _ (Heap.get?_push_of_some _ (Heap.get?_push_of_some _ (Heap.get?_push_of_some _ (Heap.get?_push_size _ (by cases k <;> rfl)))))
    rw [z2, z3, z4] at f5
    rw [z1, z2] at f3
    rw [z3] at f4
    rw [z1] at f2
    rw [z4]
    exact h _ f5 f3 f4 (by cases k <;> exact ⟨_, f1, rfl, rfl⟩) (by cases k <;> exact ⟨_, f2, rfl, rfl⟩) z5 fun c o x => Heap.get?_push_of_some _ (Heap.get?_push_of_some _ (Heap.get?_push_of_some _ (Heap.get?_push_of_some _ (Heap.get?_push_of_some _ x))))
  cases k with
  | true => exact callType_new F.called_zip (by decide) (F.typeCall_zip_2 _ _) (F.newCall_zip_2 _ _) (fun obj => F.args_object_init_3 obj _ _) F.entry_zip_new (new_tl m1 m2 vs ws) ⟨u1, u2, ⟨_, Heap.get?_push_size _ rfl, rfl⟩, fin⟩
  | false => exact callType_new F.called_zip (by decide) (F.typeCall_zip_2 _ _) (F.newCall_zip_2 _ _) (fun obj => F.args_object_init_3 obj _ _) F.entry_zip_new (new_lt m1 m2 vs ws) ⟨u1, u2, ⟨_, Heap.get?_push_size _ rfl, rfl⟩, fin⟩
end
end ZM

set_option Elab.async false
set_option linter.all false
set_option maxRecDepth 100000
set_option maxHeartbeats 2000000
/-! zip of a list and a tuple: the rule -/
namespace ZM
open PySem PySem.Spec PyProof.Rows L2
/-- the sequences at a and b as they stand at each turn, the items in new pairs -/
def SqV (k : Bool) (K : PySem.W.Frag) (H : Hp) (a : Addr) (xs : List V) : Prop := match k with
  | true => SqT K H a xs
  | false => SqL K H a xs
theorem sqv_at {X : Cx} {pins : List (Addr × Obj)} {σ : L2.St} {H : Hp} {s : Shared} {k : Bool} {a : Addr} {xs : List V} (I : Inv X pins σ H s) (h : SqV k X.K H a xs) : ∃ its : List PySem.Value, Vals xs its ∧ SqAt k s.heap a its.toArray ∧ its.length ≤ sizeLine := by
  cases k with
  | true =>
    obtain ⟨its, r, p, z⟩ := I.tuple h
    exact ⟨its, r, (show s.heap.IsTuple a its.toArray from p), by rw [← r.length]; exact z⟩
  | false =>
    obtain ⟨its, r, p, z⟩ := I.list h
    exact ⟨its, r, p.isList, by rw [← r.length]; exact z⟩
theorem sqv_inj {X : Cx} {pins : List (Addr × Obj)} {σ : L2.St} {H : Hp} {s : Shared} {k : Bool} {a : Addr} {xs ys : List V} (I : Inv X pins σ H s) (h : SqV k X.K H a xs) (h' : SqV k X.K H a ys) : xs = ys := by
  cases k with
  | true => exact I.tuple_inj h h'
  | false => exact I.list_inj h h'
def ItzM (k k' : Bool) (K : PySem.W.Frag) (c0 d0 : Addr) : It :=
  ⟨fun i H => ∃ (vs ws : List V) (p q : V), SqV k K H c0 vs ∧ SqV k' K H d0 ws ∧ vs[i]? = some p ∧ ws[i]? = some q,
    fun i H v H' => ∃ T p q, v = .ref T ∧ H T = none ∧ H' = upd H T (.tup [p, q]) ∧ (∀ vs, SqV k K H c0 vs → vs[i]? = some p) ∧ ∀ ws, SqV k' K H d0 ws → ws[i]? = some q,
    fun i H => ∃ vs ws : List V, SqV k K H c0 vs ∧ SqV k' K H d0 ws ∧ (vs.length ≤ i ∨ ws.length ≤ i)⟩
theorem turn_zipM {k k' : Bool} {P : Program} {w : World} {K : PySem.W.Frag} {elts : List Expr} {kk : Nat} {tpos : Pos} {c0 d0 zz tI tO j1 j2 : Addr} (DD : ZipApart zz tI tO j1 j2 c0 d0) :
    Turn P w K (.Tuple elts kk tpos) (ItzM k k' K c0 d0) [zz, tI, tO, j1, j2] zz (fun i h => IsZip h zz tI tO .none ∧ IsPair h tI (.ref j1) (.ref j2) ∧ (∃ p q, IsPair h tO p q) ∧ ItAt k h j1 c0 i ∧ ItAt k' h j2 d0 i) where
  mem := by simp
  obj := fun i h st c ec => by
    obtain ⟨qz, qI, ⟨p, q, qO⟩, w1, w2⟩ := st
    have e' : c = zz ∨ c = tI ∨ c = tO ∨ c = j1 ∨ c = j2 := by simpa using ec
    rcases e' with q | q | q | q | q
    · rw [q]; exact ⟨_, qz, fun v q => nomatch q⟩
    · rw [q]; exact ⟨_, qI, fun v q => nomatch q⟩
    · rw [q]; exact ⟨_, qO, fun v q => nomatch q⟩
    · rw [q]; exact w1.ob
    · rw [q]; exact w2.ob
  keep := fun i h g' st kp => by
    obtain ⟨qz, qI, ⟨p, q, qO⟩, w1, w2⟩ := st
    exact ⟨kp zz (by simp) _ qz, kp tI (by simp) _ qI, ⟨p, q, kp tO (by simp) _ qO⟩, w1.at fun o q => kp j1 (by simp) o q, w2.at fun o q => kp j2 (by simp) o q⟩
  item := by
    intro X hP hw hK ec i pins s σ H E I hf st hg
    subst hP hw hK
    obtain ⟨qz, qI, ⟨x0, y0, qO⟩, w1, w2⟩ := st
    obtain ⟨vs, ws, p, q, hqx, hqy, px, py⟩ := hg
    obtain ⟨its, rv, pp, _⟩ := sqv_at I hqx
    obtain ⟨its2, rv2, p2, _⟩ := sqv_at I hqy
    obtain ⟨u, hu, ru⟩ := rv.get px
    obtain ⟨u2, hu2, ru2⟩ := rv2.get py
    have hzl : zz < s.heap.objs.size := Heap.lt_size qz
    refine nextM_item DD qz qI qO w1 w2 pp p2 (p := u) (q := u2) (by simpa using hu) (by simpa using hu2) fun g' z' TO' h1' h2' eT sz kk => ?_
    refine ⟨_, rfl, wpAny_letOwnedTupleGo_zip (s := { s with heap := g' }) z' fun h'' z'' sb => ?_⟩
    have hT2 : h''.get? s.heap.objs.size = some { cls := .type "tuple", data := .seq #[u, u2] } := (sb.2 _ (Nat.ne_of_gt hzl)).trans eT
    have new : ObjOk X.prog X.w (upd H s.heap.objs.size (.tup [p, q])) h'' s.heap.objs.size (.tup [p, q]) :=
      ⟨by show 2 ≤ sizeLine; decide, [u, u2], .cons ru (.cons ru2 .nil), ⟨_, hT2, rfl, _, rfl⟩⟩
    have I1 : Inv X pins σ (upd H s.heap.objs.size (.tup [p, q])) { s with heap := h'' } :=
      I.turnedNew (t' := s.toks) (ch := [zz, tI, tO, j1, j2]) (fun c o hb q => (sb.2 c (fun q' => hb (by simp [q']))).trans (kk c o (fun q' => hb (by simp [q'])) (fun q' => hb (by simp [q'])) (fun q' => hb (by simp [q'])) (fun q' => hb (by simp [q'])) q)) hf (Nat.le_refl _) new
    refine ⟨.ref s.heap.objs.size, _, I1, rfl, ⟨_, p, q, rfl, I.hok.fresh (Nat.le_refl _), rfl, fun l hl => by rw [sqv_inj I hl hqx]; exact px, fun l hl => by rw [sqv_inj I hl hqy]; exact py⟩, ⟨z'', ?_, ⟨u, u2, ?_⟩, ?_, ?_⟩, fun c hcm => ?_⟩
    · exact (sb.2 _ DD.TIz).trans (kk _ _ DD.TIz DD.TITO DD.TIi1 DD.TIi2 qI)
    · exact (sb.2 _ DD.TOz).trans TO'
    · exact h1'.at fun o q => (sb.2 _ DD.i1z).trans q
    · exact h2'.at fun o q => (sb.2 _ DD.i2z).trans q
    · have hlt : c < s.heap.objs.size := by
        have e' : c = zz ∨ c = tI ∨ c = tO ∨ c = j1 ∨ c = j2 := by simpa using hcm
        rcases e' with q | q | q | q | q
        · rw [q]; exact hzl
        · rw [q]; exact Heap.lt_size qI
        · rw [q]; exact Heap.lt_size qO
        · rw [q]; exact w1.lt
        · rw [q]; exact w2.lt
      rw [upd_ne (Nat.ne_of_lt hlt)]
      exact (hf c hcm).1
  done := by
    intro X hP hw hK ec i pins s σ H E I hf st hg
    subst hP hw hK
    obtain ⟨qz, qI, ⟨x0, y0, qO⟩, w1, w2⟩ := st
    obtain ⟨vs, ws, hqx, hqy, fin⟩ := hg
    obtain ⟨its, rv, pp, _⟩ := sqv_at I hqx
    obtain ⟨its2, rv2, p2, _⟩ := sqv_at I hqy
    have m1 := rv.length
    have m2 := rv2.length
    have ne : its.toArray[i]? = none ∨ its2.toArray[i]? = none := by
      rcases fin with q | q
      · exact .inl (by simp; omega)
      · exact .inr (by simp; omega)
    exact nextM_end (I.ok.hd ec) DD qz qI qO w1 w2 pp p2 ne fun g' kk => ⟨rfl, I.turnedL (t' := s.toks) (ch := [zz, tI, tO, j1, j2]) (fun c o hb q =>
      kk c o (fun q' => hb (by simp [q'])) (fun q' => hb (by simp [q'])) (fun q' => hb (by simp [q'])) (fun q' => hb (by simp [q'])) q) hf⟩
  self := fun A i s R E st h => wpAny_pyIter_zip st.1 h


def iZipM (k : Bool) (K : PySem.W.Frag) (ta : TA) : TI := fun σ H R => ta σ H fun vs H1 => ∃ a b xs ys, vs = [.ref a, .ref b] ∧ SqV k K H1 a xs ∧ SqV (!k) K H1 b ys ∧ R (ItzM k (!k) K a b) H1
theorem pi_zipM (k : Bool) {X : Cx} {e e2 : Expr} {ta : TA} {p pos tpos : Pos} {elts : List Expr} {kk : Nat} (hg : Gl X "zip") (hm : X.mg "zip" = none) (ha : PA X [e, e2] ta)
    (st : starEach [e, e2] X.env = (false, eval e X.env) :: starEach [e2] X.env := by rfl) (pl : (backTo pos (starEach [e2] X.env)).any (·.1) = false := by rfl) :
    PI X (.Tuple elts kk tpos) (.Call (.Name "zip" p) [e, e2] [] pos) (iZipM k X.K ta) := by
  refine ⟨fun pins s σ H R I h => ?_⟩
  refine Call_ (ld_blt I hg hm PyProof.Rows.boot_zip (PyProof.Rows.callWith_type1 (thn (ha.run pos pins s σ H _ I h) fun us s1 ⟨vs, H1, I1, r1, q1⟩ => ?_) st pl))
  obtain ⟨a, b, xs, ys, rfl, e1, e2, q⟩ := q1
  cases r1 with
  | cons r rr =>
    cases rr with
    | cons r' rr =>
      cases rr
      cases r
      cases r'
      obtain ⟨its, rv, p1, _⟩ := sqv_at I1 e1
      obtain ⟨its2, rv2, p2, _⟩ := sqv_at I1 e2
      have la : a < s1.heap.objs.size := by
        cases k with
        | true => obtain ⟨o, ho, _⟩ := (show s1.heap.IsTuple a its.toArray from p1); exact Heap.lt_size ho
        | false => obtain ⟨o, ho, _⟩ := (show s1.heap.IsList a its.toArray from p1); exact Heap.lt_size ho
      have lb : b < s1.heap.objs.size := by
        cases k with
        | false => obtain ⟨o, ho, _⟩ := (show s1.heap.IsTuple b its2.toArray from p2); exact Heap.lt_size ho
        | true => obtain ⟨o, ho, _⟩ := (show s1.heap.IsList b its2.toArray from p2); exact Heap.lt_size ho
      refine call_zipM p1 p2 fun g' qz qI qO w1 w2 sz kp => wpAny_pyIter_zip qz ?_
      have I2 : Inv X pins σ H1 { s1 with heap := g' } := I1.kept (t' := s1.toks) kp
      refine ⟨_, [s1.heap.objs.size + 4, s1.heap.objs.size + 2, s1.heap.objs.size + 3, s1.heap.objs.size, s1.heap.objs.size + 1], _, _, H1, rfl, I2, turn_zipM (PySem.W.ktu_apart s1.heap.objs.size a b la lb), ⟨qz, qI, ⟨_, _, qO⟩, w1, w2⟩, fun c hc => ?_, q⟩
      have le : s1.heap.objs.size ≤ c := by
        simp only [List.mem_cons, List.not_mem_nil, or_false] at hc
        rcases hc with q | q | q | q | q <;> (rw [q]; first | exact Nat.le_refl _ | exact Nat.le_add_right _ _)
      exact I1.fpOk le (I1.hok.fresh le)
theorem walk_zipM {k : Bool} {K : PySem.W.Frag} {a b : Addr} {xs ys : List V} {n : Nat} (hn : n = min xs.length ys.length) : Walk (ItzM k (!k) K a b) n (fun H => SqV k K H a xs ∧ SqV (!k) K H b ys) (YPair (fun i => xs[i]?) (fun i => ys[i]?)) := by
  subst hn
  refine ⟨fun i _ hi q => ?_, fun _ q => ⟨xs, ys, q.1, q.2, by omega⟩, fun i H v H' _ q y => ?_⟩
  · have l1 : i < xs.length := by omega
    have l2 : i < ys.length := by omega
    exact ⟨xs, ys, xs[i], ys[i], q.1, q.2, by simp [l1], by simp [l2]⟩
  · obtain ⟨T, x, z, g1, g2, g3, g4, g5⟩ := y
    exact ⟨T, x, z, g1, g2, g3, g4 xs q.1, g5 ys q.2⟩
end ZM
namespace PL
open PySem L2
def fZipM (f : FA) : FI := fun env Q => f env fun xs env1 => match xs with
  | [.lst ys, .tup zs] => Q ((ys.zip zs).map fun p => .tup [p.1, p.2]) env1
  | _ => False
def fZipM' (f : FA) : FI := fun env Q => f env fun xs env1 => match xs with
  | [.tup ys, .lst zs] => Q ((ys.zip zs).map fun p => .tup [p.1, p.2]) env1
  | _ => False
instance {S : Sit} {K : PySem.W.Frag} {ta : TA} {f : FA} [h : PureA S ta f] : PureI S (ZM.iZipM false K ta) (fZipM f) := ⟨fun R q k => h.snd R q fun vs xs env1 H1 O1 R1 L1 r1 q1 => by
  match xs, vs, r1, q1 with
  | [.lst ys, .tup zs], [v, w], r1, q1 =>
    obtain ⟨a, ws, rfl, b, c⟩ := r1.1
    obtain ⟨a2, ws2, rfl, b2, c2⟩ := r1.2.1
    refine ⟨a, a2, ws, ws2, rfl, fz_list b, fz_tup b2, k _ _ env1 H1 O1 R1 L1 (walkP_pair (ZM.walk_zipM (K := K) (k := false) (a := a) (b := a2) (xs := ws) (ys := ws2) rfl) (by simp [c.length, c2.length]) (fun H2 h => ⟨SqL.of (h _ _ b).lst, SqT.of (h _ _ b2).tup⟩) fun i x y hi e1 e2 => ?_) q1⟩
    obtain ⟨p, h1, h2⟩ := c.geti e1
    obtain ⟨q, h3, h4⟩ := c2.geti e2
    exact ⟨p, q, by simp [List.getElem?_zip_eq_some, h1, h3], h2, h4⟩⟩
instance {S : Sit} {K : PySem.W.Frag} {ta : TA} {f : FA} [h : PureA S ta f] : PureI S (ZM.iZipM true K ta) (fZipM' f) := ⟨fun R q k => h.snd R q fun vs xs env1 H1 O1 R1 L1 r1 q1 => by
  match xs, vs, r1, q1 with
  | [.tup ys, .lst zs], [v, w], r1, q1 =>
    obtain ⟨a, ws, rfl, b, c⟩ := r1.1
    obtain ⟨a2, ws2, rfl, b2, c2⟩ := r1.2.1
    refine ⟨a, a2, ws, ws2, rfl, fz_tup b, fz_list b2, k _ _ env1 H1 O1 R1 L1 (walkP_pair (ZM.walk_zipM (K := K) (k := true) (a := a) (b := a2) (xs := ws) (ys := ws2) rfl) (by simp [c.length, c2.length]) (fun H2 h => ⟨SqT.of (h _ _ b).tup, SqL.of (h _ _ b2).lst⟩) fun i x y hi e1 e2 => ?_) q1⟩
    obtain ⟨p, h1, h2⟩ := c.geti e1
    obtain ⟨q, h3, h4⟩ := c2.geti e2
    exact ⟨p, q, by simp [List.getElem?_zip_eq_some, h1, h3], h2, h4⟩⟩
end PL

set_option Elab.async false
set_option linter.all false
set_option maxRecDepth 100000
set_option maxHeartbeats 4000000
/-! data; sorted; starred items; comb; a display with a tuple for its key -/
namespace PL
open PySem L2
mutual
def PV.dat : PV → PyData
  | .non => .none
  | .bl b => .bool b
  | .int i => .int i
  | .str x => .str x
  | .tup xs => .tuple (dats xs)
  | .lst xs => .list (dats xs)
  | _ => .none
def dats : List PV → List PyData
  | [] => []
  | x :: xs => x.dat :: dats xs
end
mutual
def PV.isDat : PV → Bool
  | .non => true
  | .bl _ => true
  | .int _ => true
  | .str _ => true
  | .tup xs => allDat xs
  | .lst xs => allDat xs
  | _ => false
def allDat : List PV → Bool
  | [] => true
  | x :: xs => x.isDat && allDat xs
end
theorem isDat_tup (xs : List PV) : (PV.tup xs).isDat = allDat xs := by rw [PV.isDat]
theorem isDat_lst (xs : List PV) : (PV.lst xs).isDat = allDat xs := by rw [PV.isDat]
theorem allDat_cons (x : PV) (xs : List PV) : allDat (x :: xs) = (x.isDat && allDat xs) := by rw [allDat]
theorem dat_tup (xs : List PV) : (PV.tup xs).dat = .tuple (dats xs) := by rw [PV.dat]
theorem dat_lst (xs : List PV) : (PV.lst xs).dat = .list (dats xs) := by rw [PV.dat]
theorem dats_cons (x : PV) (xs : List PV) : dats (x :: xs) = x.dat :: dats xs := by rw [dats]
mutual
theorem dat_dp {K : PySem.W.Frag} {O : Addr → Prop} {H : Hp} : ∀ (x : PV) (v : V), Rep (fz O H) x v → x.isDat = true → Dp K H v x.dat
  | .non, v, r, _ => by rw [show v = V.non from r, PV.dat]; exact .non
  | .bl b, v, r, _ => by rw [show v = V.bl b from r, PV.dat]; exact .bl b
  | .int b, v, r, _ => by rw [show v = V.int b from r, PV.dat]; exact .int b
  | .str b, v, r, _ => by rw [show v = V.str b from r, PV.dat]; exact .str b
  | .tup xs, v, r, h => by
    rw [isDat_tup] at h
    rw [dat_tup]
    obtain ⟨a, vs, rfl, f, q⟩ := r
    exact .tup (fz_tup f) (dats_dp xs vs q h)
  | .lst xs, v, r, h => by
    rw [isDat_lst] at h
    rw [dat_lst]
    obtain ⟨a, vs, rfl, f, q⟩ := r
    exact .lst (fz_list f) (dats_dp xs vs q h)
  | .raw _, v, r, h => by simp [PV.isDat] at h
  | .dK _ _, v, r, h => by simp [PV.isDat] at h
  | .dT _ _, v, r, h => by simp [PV.isDat] at h
  | .ins _ _ _, v, r, h => by simp [PV.isDat] at h
theorem dats_dp {K : PySem.W.Frag} {O : Addr → Prop} {H : Hp} : ∀ (xs : List PV) (vs : List V), Reps (fz O H) xs vs → allDat xs = true → DpAll K H vs (dats xs)
  | [], [], _, _ => by rw [dats]; exact .nil
  | x :: xs, v :: vs, r, h => by
    rw [allDat_cons] at h
    rw [dats_cons]
    have h' := Bool.and_eq_true_iff.mp h
    exact .cons (dat_dp x v r.1 h'.1) (dats_dp xs vs r.2 h'.2)
  | [], _ :: _, r, _ => r.elim
  | _ :: _, [], r, _ => r.elim
end
theorem dats_map : ∀ xs : List PV, dats xs = xs.map PV.dat
  | [] => by rw [dats]; rfl
  | x :: xs => by rw [List.map_cons, ← dats_map xs, dats_cons]
/-- what can be sorted -/
def SortOk (xs : List PV) : Prop := allDat xs = true ∧ PySem.W.AllAlike (dats xs) ∧ PySem.W.Sortable (dats xs) ∧ ∀ d ∈ dats xs, d.depth ≤ 60
noncomputable def sortP (xs : List PV) : List PV := xs.mergeSort (PySem.W.dataLe false PV.dat)
theorem reps_of {F : Fz} : ∀ (L : List (V × PV)), (∀ p ∈ L, Rep F p.2 p.1) → Reps F (L.map Prod.snd) (L.map Prod.fst)
  | [], _ => trivial
  | p :: L, h => ⟨h p (List.mem_cons_self ..), reps_of L fun q hq => h q (List.mem_cons_of_mem _ hq)⟩
theorem reps_zip {F : Fz} : ∀ {xs : List PV} {vs : List V}, Reps F xs vs → ∀ p ∈ vs.zip xs, Rep F p.2 p.1
  | [], [], _, p, h => by cases h
  | x :: xs, v :: vs, r, p, h => by
    rcases List.mem_cons.mp h with rfl | h
    · exact r.1
    · exact reps_zip r.2 p h
theorem zip_snd : ∀ {xs : List PV} {vs : List V}, xs.length = vs.length → (vs.zip xs).map Prod.snd = xs ∧ vs.zip (dats xs) = (vs.zip xs).map fun p => (p.1, p.2.dat)
  | [], [], _ => ⟨rfl, rfl⟩
  | x :: xs, v :: vs, l => by
    obtain ⟨a, b⟩ := zip_snd (xs := xs) (vs := vs) (by simpa using l)
    exact ⟨by rw [List.zip_cons_cons, List.map_cons, a], by rw [dats_cons, List.zip_cons_cons, b]; rfl⟩
theorem Reps.sorted {F : Fz} {xs : List PV} {vs : List V} (r : Reps F xs vs) : Reps F (sortP xs) (sortVD vs (dats xs)) := by
  obtain ⟨e1, e2⟩ := zip_snd r.length
  have h1 : sortVD vs (dats xs) = ((vs.zip xs).mergeSort (PySem.W.dataLe false fun p => p.2.dat)).map Prod.fst := by
    unfold sortVD
    rw [e2, ← List.map_mergeSort (f := fun p : V × PV => (p.1, p.2.dat)) (r := PySem.W.dataLe false fun p : V × PV => p.2.dat) (fun _ _ _ _ => rfl), List.map_map]
    rfl
  have h2 : sortP xs = ((vs.zip xs).mergeSort (PySem.W.dataLe false fun p => p.2.dat)).map Prod.snd := by
    unfold sortP
    rw [List.map_mergeSort (f := Prod.snd) (r := PySem.W.dataLe false fun p : V × PV => p.2.dat) (s := PySem.W.dataLe false PV.dat) (fun _ _ _ _ => rfl), e1]
  rw [h1, h2]
  exact reps_of _ fun p hp => reps_zip r p (List.mem_mergeSort.mp hp)
section
variable {S : Sit}
def fSorted : List PV → (PV → Prop) → Prop := fun xs Q => one (fun x => ∃ ys, x.seq = some ys ∧ SortOk ys ∧ Q (.lst (sortP ys))) xs
instance {K : PySem.W.Frag} : CallP S (rSortD K) fSorted := ⟨fun {O H vs xs Q Qp} oh r q k => by
  obtain ⟨x, v, rfl, rfl, r1, ys, e, ⟨g1, g2, g3, g4⟩, q⟩ := one_rep r q
  obtain ⟨a, ws, rfl, h, rs⟩ := seq_rep (K := K) r1 e
  exact ⟨a, ws, _, rfl, h, dats_dp ys ws rs g1, g2, g3, g4, fun p hp => let ⟨h1, h2, h3⟩ := rep_new oh hp (.lst (sortVD ws (dats ys))); k _ (.lst (sortP ys)) _ h1 ⟨p, _, rfl, h3, Reps.mono h2 _ _ rs.sorted⟩ q⟩⟩
/-- the keys of a dict with tuple keys -/
def tkP (k : List Key) : PV := .tup (k.map kP)
theorem kD_dat : ∀ k : List Key, dats (k.map kP) = k.map kD
  | [] => by rw [List.map_nil, dats]; rfl
  | .inl i :: k => by rw [List.map_cons, dats_cons, kD_dat k]; rfl
  | .inr i :: k => by rw [List.map_cons, dats_cons, kD_dat k]; rfl
theorem tkP_dats (ks : List (List Key)) : dats (ks.map tkP) = ks.map fun k => PyData.tuple (k.map kD) := by
  rw [dats_map, List.map_map]
  apply List.map_congr_left
  intro k _
  show (PV.tup (k.map kP)).dat = _
  rw [dat_tup, kD_dat]
theorem tkeys_rep {O : Addr → Prop} {H : Hp} (oh : OnH O H) : ∀ {ks : List (List Key)} {vs : List V} {bs : List Addr}, ks.length = vs.length → IsKeys H (ks.zip vs) bs → Reps (fz O H) (ks.map tkP) (bs.map V.ref)
  | [], [], _, _, h => by
    cases h
    exact trivial
  | k :: ks, v :: vs, _, l, h => by
    rw [List.zip_cons_cons] at h
    cases h with
    | @cons a b as bs r t =>
      refine ⟨⟨b, k.map kV, rfl, ⟨fun z => ?_, .of r⟩, kPs_rep k⟩, tkeys_rep oh (by simpa using l) t⟩
      obtain ⟨o, e, n⟩ := oh b z
      rw [r] at e; cases e; exact n
def fSortedT : List PV → (PV → Prop) → Prop := fun xs Q => one (fun x => ∃ ks ys, x = .dT ks ys ∧ SortOk (ks.map tkP) ∧ Q (.lst (sortP (ks.map tkP)))) xs
instance : CallP S rSortDT fSortedT := ⟨fun {O H vs xs Q Qp} oh r q k => by
  obtain ⟨x, v, rfl, rfl, r1, ks, ys, rfl, ⟨g1, g2, g3, g4⟩, q⟩ := one_rep r q
  obtain ⟨a, ws, rfl, h, l, rs⟩ := r1
  have e1 : (ks.zip ws).map (fun kv => PyData.tuple (kv.1.map kD)) = ks.map fun k => PyData.tuple (k.map kD) := by
    rw [show (fun kv : List Key × V => PyData.tuple (kv.1.map kD)) = (fun k => PyData.tuple (k.map kD)) ∘ Prod.fst from rfl, ← List.map_map, List.map_fst_zip (by omega)]
  rw [tkP_dats] at g2 g3 g4
  refine ⟨a, _, rfl, h.2.rd, by rw [e1]; exact g2, by rw [e1]; exact g3, fun kv hkv => g4 _ (by rw [← e1]; exact List.mem_map.mpr ⟨kv, hkv, rfl⟩), fun p bs hp ik => ?_⟩
  have rk := tkeys_rep oh l ik
  obtain ⟨h1, h2, h3⟩ := rep_new oh hp (.lst (sortVD (bs.map V.ref) ((ks.zip ws).map fun kv => PyData.tuple (kv.1.map kD))))
  refine k _ (.lst (sortP (ks.map tkP))) _ h1 ⟨p, _, rfl, h3, Reps.mono h2 _ _ ?_⟩ q
  rw [e1, ← tkP_dats]
  exact rk.sorted⟩
def fStar (f : FE) (g : FA) : FA := fun env Q => f env fun x env1 => ∃ ys, x.seq = some ys ∧ g env1 fun xs env2 => Q (ys ++ xs) env2
instance {K : PySem.W.Frag} {te : TE} {t : TA} {f : FE} {g : FA} [h1 : PureE S te f] [h2 : PureA S t g] : PureA S (tStar K te t) (fStar f g) := ⟨fun R q k => h1.snd R q fun v x env1 H1 O1 R1 L1 r1 ⟨ys, e, q1⟩ => by
  obtain ⟨a, ws, rfl, h, rs⟩ := seq_rep (K := K) r1 e
  exact ⟨a, ws, rfl, h, h2.snd R1 q1 fun vs xs env2 H2 O2 R2 L2 r2 q2 => k _ _ env2 H2 O2 R2 (L1.trans L2) ((Reps.mono L2.fz _ _ rs).append r2) q2⟩⟩
def fComb : List PV → (PV → Prop) → Prop := fun xs Q => match xs with
  | [.int a, .int b] => 0 ≤ a ∧ 0 ≤ b ∧ a ≤ 18000 ∧ Q (.int (PySem.W.mcComb a b))
  | _ => False
instance : CallP S rComb fComb := ⟨fun {O H vs xs Q Qp} oh r q k => by
  unfold fComb at q
  match xs, vs, r, q with
  | [.int a, .int b], [v, w], r, q => exact ⟨a, b, by rw [show v = V.int a from r.1, show w = V.int b from r.2.1], q.1, q.2.1, q.2.2.1, k _ (.int _) H (.refl _) (show V.int _ = V.int _ from rfl) q.2.2.2⟩⟩
def fDispL (fk fv : FE) : PEnv → (List Key → PV → PEnv → Prop) → Prop := fun env Q => fk env fun y env1 => fv env1 fun z env2 => ∃ k, y.tkey = some k ∧ Q k z env2
theorem disp_snd {tk tv : TE} {fk fv : FE} [hk : PureE S tk fk] [hv : PureE S tv fv] {O : Addr → Prop} {env : PEnv} {σ : St} {H : Hp} {Q : VK} {Qp : List Key → PV → PEnv → Prop} (R : Rel S O env σ H) (q : fDispL fk fv env Qp)
    (k : ∀ p ks z w env' H' O', Rel S O' env' σ H' → Lt S σ O env H O' env' H' → O' p → S.H0 p = none → H p = none → (∀ (i : Nat) (sv : SV), env'[i]? = some (some sv) → sv.own = true → σ[i]? ≠ some (some (.ref p))) → H' p = some (.dT [(ks, w)]) → Rep (fz O' H') z w → Qp ks z env' → Q (.ref p) H') : tDispT tk tv σ H Q := fun p hp => by
  obtain ⟨R1, L1⟩ := R.hold hp (.dT []) trivial
  refine hk.snd R1 q fun v y env2 H2 O2 R2 L2 r2 q2 => hv.snd R2 q2 fun w z env3 H3 O3 R3 L3 r3 ⟨ks, ek, q3⟩ => ?_
  have n0 := R.new0 hp
  have n1 : ∀ (i : Nat) (sv : SV), env[i]? = some (some sv) → sv.own = true → σ[i]? ≠ some (some (.ref p)) := fun i sv e ho => R.ownThere e ho hp
  have LL := L2.trans L3
  obtain ⟨o3, e3⟩ := LL.loose p _ (.inr rfl) n0 n1 upd_same
  have n3 : ∀ (i : Nat) (sv : SV), env3[i]? = some (some sv) → sv.own = true → σ[i]? ≠ some (some (.ref p)) := fun i sv e ho => let ⟨sw, f1, f2⟩ := LL.own i sv e ho; n1 i sw f1 f2
  cases y with
  | tup ys =>
    obtain ⟨b, us, rfl, hb, rs⟩ := Rep.mono L3.fz _ _ r2
    rw [keys_rep rs (show keysOf ys = some ks from ek)] at hb
    refine ⟨e3, ks, b, rfl, hb.2.tup, k p ks z w env3 _ O3 (R3.poke o3 n0 n3 _ trivial) ((L1.trans LL).poke hp o3 _) o3 n0 hp n3 upd_same (Rep.mono (fun a u ⟨h1, h2⟩ => ⟨h1, h2.ne fun z : a = p => by subst z; exact h1 o3⟩) _ _ r3) q3⟩
  | _ => cases ek
def fDispT (fk fv : FE) : FE := fun env Q => fDispL fk fv env fun k z env1 => Q (.dT [k] [z]) env1
def fDispTO (fk fv : FE) : FO := fun env Q => fDispL fk fv env fun k z env1 => Q (.oT [k] [z]) env1
instance {tk tv : TE} {fk fv : FE} [hk : PureE S tk fk] [hv : PureE S tv fv] : PureE S (tDispT tk tv) (fDispT fk fv) := ⟨fun R q kk =>
  disp_snd R q fun p ks z w env1 H1 O1 R1 L1 o1 n0 hp n1 e1 r1 q1 => kk _ (.dT [ks] [z]) env1 H1 _ (R1.release n0 n1) (L1.release hp) ⟨p, [w], rfl, ⟨fun z => z.2 rfl, .of e1⟩, rfl, Rep.mono (fun a u ⟨h1, h2⟩ => ⟨fun z => h1 z.1, h2⟩) _ _ r1, trivial⟩ q1⟩
instance {tk tv : TE} {fk fv : FE} [hk : PureE S tk fk] [hv : PureE S tv fv] : PureO S (tDispT tk tv) (fDispTO fk fv) := ⟨fun R q kk =>
  disp_snd R q fun p ks z w env1 H1 O1 R1 L1 o1 n0 hp n1 e1 r1 q1 => kk _ (.oT [ks] [z]) env1 H1 _ R1 L1 ⟨p, rfl, o1, n0, [w], e1, rfl, r1, trivial⟩ (fun _ => ⟨p, rfl, hp, n1⟩) q1⟩
end
end PL

set_option Elab.async false
set_option linter.all false
set_option maxRecDepth 100000
set_option maxHeartbeats 4000000
/-! comprehensions with two clauses -/
namespace PL
open PySem L2
/-- one step, what is at D aside -/
structure LtD (D : Addr) (S : Sit) (σ : St) (O : Addr → Prop) (env : PEnv) (H : Hp) (O' : Addr → Prop) (env' : PEnv) (H' : Hp) : Prop where
  raw : Le (fzr O H) (fzr O' H')
  loose : ∀ (a : Addr) (o : HO), a ≠ D → O a → S.H0 a = none → (∀ (i : Nat) (sv : SV), env[i]? = some (some sv) → sv.own = true → σ[i]? ≠ some (some (.ref a))) → H a = some o → O' a ∧ H' a = some o
  own : ∀ (i : Nat) (sv : SV), env'[i]? = some (some sv) → sv.own = true → ∃ sw, env[i]? = some (some sw) ∧ sw.own = true
  there : ∀ a o, a ≠ D → H a = some o → ∃ o', H' a = some o'
section
variable {S : Sit} {D : Addr} {σ : St} {O O1 O2 : Addr → Prop} {env env1 env2 : PEnv} {H H1 H2 : Hp}
theorem Lt.toD (L : Lt S σ O env H O1 env1 H1) : LtD D S σ O env H O1 env1 H1 := ⟨L.raw, fun a o _ => L.loose a o, L.own, fun a o _ => L.there a o⟩
theorem LtD.trans (a : LtD D S σ O env H O1 env1 H1) (b : LtD D S σ O1 env1 H1 O2 env2 H2) : LtD D S σ O env H O2 env2 H2 :=
  ⟨a.raw.trans b.raw, fun x o n h1 h2 h3 h4 => let ⟨k1, k2⟩ := a.loose x o n h1 h2 h3 h4; b.loose x o n k1 h2 (fun i sv e1 e2 => let ⟨sw, f1, f2⟩ := a.own i sv e1 e2; h3 i sw f1 f2) k2,
    fun i sv e1 e2 => let ⟨sw, f1, f2⟩ := b.own i sv e1 e2; a.own i sw f1 f2, fun x o n e => let ⟨o1, e1⟩ := a.there x o n e; b.there x o1 n e1⟩
theorem LtD.poke (L : LtD D S σ O env H O1 env1 H1) (o1 : O1 D) (o : HO) : LtD D S σ O env H O1 env1 (upd H1 D o) :=
  ⟨L.raw.trans fun a u ⟨h1, h2⟩ => ⟨h1, by rw [upd_ne (fun z : a = D => by subst z; exact h1 o1)]; exact h2⟩, fun a u n h1 h2 h3 h4 => let ⟨k1, k2⟩ := L.loose a u n h1 h2 h3 h4; ⟨k1, by rw [upd_ne n]; exact k2⟩, L.own,
    fun a u n e => let ⟨v, q⟩ := L.there a u n e; ⟨v, by rw [upd_ne n]; exact q⟩⟩
theorem LtD.under {envA envB : PEnv} {σ2 : St} {vs : List Nat} (L : LtD D S σ2 O envA H O2 envB H2)
    (g : ∀ (i : Nat) (sv : SV), envA[i]? = some (some sv) → sv.own = true → env[i]? = some (some sv) ∧ σ2[i]? = (wipe σ vs)[i]?) : LtD D S σ O env H O2 (wipeE envB vs) H2 :=
  ⟨L.raw, fun a o n h1 h2 h3 h4 => L.loose a o n h1 h2 (fun i sv e w z => by
      obtain ⟨f1, f2⟩ := g i sv e w
      rw [f2] at z
      exact h3 i sv f1 w (wipe_some z).1) h4,
    fun i sv e w => by
      obtain ⟨f1, f2⟩ := wipeE_some e
      obtain ⟨sw, g1, g2⟩ := L.own i sv f1 w
      exact ⟨sw, (g i sw g1 g2).1, g2⟩, L.there⟩
theorem LtD.wiped (L : LtD D S σ O env H O1 env1 H1) (vs : List Nat) : LtD D S σ O env H O1 (wipeE env1 vs) H1 := ⟨L.raw, L.loose, fun i sv e w => L.own i sv (wipeE_some e).1 w, L.there⟩
theorem Lt.addD (L : Lt S σ O env H O1 env1 H1) (hd : H D = none) (M : LtD D S σ O1 env1 H1 O2 env2 H2) : Lt S σ O env H O2 env2 H2 :=
  ⟨L.raw.trans M.raw, fun x o h1 h2 h3 h4 => let ⟨k1, k2⟩ := L.loose x o h1 h2 h3 h4; M.loose x o (ne_of_none h4 hd) k1 h2 (fun i sv e1 e2 => let ⟨sw, f1, f2⟩ := L.own i sv e1 e2; h3 i sw f1 f2) k2,
    fun i sv e1 e2 => let ⟨sw, f1, f2⟩ := M.own i sv e1 e2; L.own i sw f1 f2, fun x o e => let ⟨o1, e1⟩ := L.there x o e; M.there x o1 (ne_of_none e hd) e1⟩
end
section
variable {S : Sit}
theorem lc_turn {g : TG} {tt : TT} {te : TE} {fg ix ft fe} [hg : PureG S g fg ix] [ht : PureT S tt ft] [he : PureE S te fe] {σ : St} {vs : List Nat} (hsub : ∀ i, i ∉ vs → i ∉ ix) {O : Addr → Prop} {env : PEnv} {H : Hp} {v : V} {x : PV} {D : Addr} {ws : List V} {acc : List PV} {K1 : List PV → PEnv → Prop} {Nx : Hp → Prop}
    (R : Rel S O env (wipe σ vs) H) (hlen : env.length = σ.length) (oD : O D) (n0 : S.H0 D = none) (nD : ∀ (i : Nat) (sv : SV), env[i]? = some (some sv) → sv.own = true → σ[i]? ≠ some (some (.ref D))) (hD : H D = some (.lst ws)) (rs : Reps (fz O H) acc ws) (rx : Rep (fz O H) x v) (hz : acc.length < sizeLine)
    (q : fg x env fun env1 => ft env1 fun b env2 => if b = true then fe env2 fun y env3 => K1 (acc ++ [y]) (wipeE env3 vs) else K1 acc (wipeE env2 vs))
    (k : ∀ env' O' H' ws' acc', Rel S O' env' (wipe σ vs) H' → LtD D S σ O env H O' env' H' → O' D → H' D = some (.lst ws') → Reps (fz O' H') acc' ws' → acc'.length ≤ acc.length + 1 → env'.length = σ.length →
      (∀ (i : Nat) (sv : SV), env'[i]? = some (some sv) → sv.own = true → σ[i]? ≠ some (some (.ref D))) → K1 acc' env' → Nx H') :
    g v (wipe σ vs) H fun σ2 H2 => wipe σ2 vs = wipe σ vs ∧ tt σ2 H2 fun b H3 => if b = true then te σ2 H3 fun y H4 => ∃ acc, H4 D = some (.lst acc) ∧ acc.length < sizeLine ∧ Nx (upd H4 D (.lst (acc ++ [y]))) else Nx H3 := by
  refine hg.snd R rx q fun envA σA RA sA gA zA qA => ?_
  have lA : σA.length = σ.length := by rw [← RA.len, zA, hlen]
  have wA : wipe σA vs = wipe σ vs := wipe_eq lA fun j hj => ((sA j (hsub j hj)).1.trans (wipe_ne hj))
  refine ⟨wA, ?_⟩
  have nA : ∀ (i : Nat) (sv : SV), envA[i]? = some (some sv) → sv.own = true → σA[i]? ≠ some (some (.ref D)) := fun i sv e ho z => by
    obtain ⟨g1, g2⟩ := gA i sv e ho
    rw [g2] at z
    exact nD i sv g1 ho (wipe_some z).1
  have back : ∀ {O3 env3 H3}, Lt S σA O envA H O3 env3 H3 → ∀ (i : Nat) (sv : SV), (wipeE env3 vs)[i]? = some (some sv) → sv.own = true → σ[i]? ≠ some (some (.ref D)) := fun {O3 env3 H3} L i sv e ho => by
    obtain ⟨f1, f2⟩ := wipeE_some e
    obtain ⟨sw, g1, g2⟩ := L.own i sv f1 ho
    exact nD i sw (gA i sw g1 g2).1 g2
  refine ht.snd RA qA fun b env3 H3 O3 R3 L3 q3 => ?_
  cases b with
  | true =>
    refine he.snd R3 q3 fun v4 y env4 H4 O4 R4 L4 r4 q4 => ?_
    have LL := L3.trans L4
    obtain ⟨o4, e4⟩ := LL.loose D _ oD n0 nA hD
    have n4 : ∀ (i : Nat) (sv : SV), env4[i]? = some (some sv) → sv.own = true → σA[i]? ≠ some (some (.ref D)) := fun i sv e ho => let ⟨sw, f1, f2⟩ := LL.own i sv e ho; nA i sw f1 f2
    have R5 := (R4.poke o4 n0 n4 (.lst (ws ++ [v4])) trivial).wipe vs
    rw [wA] at R5
    have rr : Reps (fz O4 H4) (acc ++ [y]) (ws ++ [v4]) := (Reps.mono LL.fz _ _ rs).append ⟨r4, trivial⟩
    refine ⟨ws, e4, by rw [← rs.length]; exact hz, k (wipeE env4 vs) O4 _ (ws ++ [v4]) (acc ++ [y]) R5 ((LL.toD.under gA).poke o4 _) o4 upd_same (Reps.mono (fun a u ⟨h1, h2⟩ => ⟨h1, h2.ne fun z : a = D => by subst z; exact h1 o4⟩) _ _ rr) (by rw [List.length_append]; exact Nat.le_refl _) ?_ (back LL) q4⟩
    rw [wipeE_length, R4.len, lA]
  | false =>
    obtain ⟨o4, e4⟩ := L3.loose D _ oD n0 nA hD
    have R5 := R3.wipe vs
    rw [wA] at R5
    refine k (wipeE env3 vs) O3 H3 ws acc R5 (L3.toD.under gA) o4 e4 (Reps.mono L3.fz _ _ rs) (Nat.le_succ _) ?_ (back L3) q3
    rw [wipeE_length, R3.len, lA]
def plci (g : FG) (t : FT) (e : FE) (vs : List Nat) (Q : List PV → PEnv → Prop) : List PV → List PV → PEnv → Prop := plc g t e vs Q
def plc2 (g : FG) (t : FT) (fi1 : FI) (g1 : FG) (t1 : FT) (e : FE) (vs vs1 : List Nat) (Q : List PV → PEnv → Prop) : List PV → List PV → PEnv → Prop
  | [], acc, env => Q acc env
  | x :: xs, acc, env => g x env fun env1 => t env1 fun b env2 => if b = true then fi1 env2 fun ys env3 => acc.length + ys.length ≤ sizeLine ∧ plc g1 t1 e vs1 (fun acc2 env4 => plc2 g t fi1 g1 t1 e vs vs1 Q xs acc2 (wipeE env4 vs)) ys acc (wipeE env3 vs1) else plc2 g t fi1 g1 t1 e vs vs1 Q xs acc (wipeE env2 vs)
def fLc2L (fi : FI) (g : FG) (ix : List Nat) (t : FT) (fi1 : FI) (g1 : FG) (ix1 : List Nat) (t1 : FT) (e : FE) (vs vs1 : List Nat) : PEnv → (List PV → PEnv → Prop) → Prop := fun env Q => fi env fun xs env1 =>
  (ix.all fun i => vs.contains i) = true ∧ (ix1.all fun i => vs1.contains i) = true ∧ (vs1.all fun i => vs.contains i) = true ∧ plc2 g t fi1 g1 t1 e vs vs1 Q xs [] (wipeE env1 vs)
theorem wipe_wipe {σ : St} {vs vs1 : List Nat} (h : ∀ i ∈ vs1, i ∈ vs) : wipe (wipe σ vs1) vs = wipe σ vs := wipe_eq (wipe_length σ vs1) fun i hi => wipe_ne fun z => hi (h i z)
theorem lc2_snd {wi wi1 : TI} {g g1 : TG} {tt tt1 : TT} {te : TE} {vs vs1 : List Nat} {fi fg ix ft fi1 fg1 ix1 ft1 fe} [hi : PureI S wi fi] [hg : PureG S g fg ix] [ht : PureT S tt ft] [hi1 : PureI S wi1 fi1] [hg1 : PureG S g1 fg1 ix1] [ht1 : PureT S tt1 ft1] [he : PureE S te fe]
    {O : Addr → Prop} {env : PEnv} {σ : St} {H : Hp} {Q : VK} {Qp : List PV → PEnv → Prop} (R : Rel S O env σ H) (q : fLc2L fi fg ix ft fi1 fg1 ix1 ft1 fe vs vs1 env Qp)
    (k : ∀ D ws acc env' H' O', Rel S O' env' σ H' → Lt S σ O env H O' env' H' → O' D → S.H0 D = none → H D = none → (∀ (i : Nat) (sv : SV), env'[i]? = some (some sv) → sv.own = true → σ[i]? ≠ some (some (.ref D))) → H' D = some (.lst ws) → Reps (fz O' H') acc ws → Qp acc env' → Q (.ref D) H') :
    tLc2 wi g tt wi1 g1 tt1 te vs vs1 σ H Q := hi.snd R q fun J xs env1 H1 O1 R1 L1 W ⟨hix, hix1, hvs, q1⟩ D hD => by
  obtain ⟨n, G, Y, w, rfl, hG, hY⟩ := W.ex
  have sub : ∀ {l m : List Nat}, (l.all fun i => m.contains i) = true → ∀ i, i ∉ m → i ∉ l := fun {l m} h i hm z => by
    have := List.all_eq_true.mp h i z
    rw [List.contains_iff_mem] at this
    exact hm this
  have hsub := sub hix
  have hsub1 := sub hix1
  have hvs' : ∀ i ∈ vs1, i ∈ vs := fun i hi => by
    have := List.all_eq_true.mp hvs i hi
    rwa [List.contains_iff_mem] at this
  have n0 := R1.new0 hD
  have nD : ∀ (i : Nat) (sv : SV), env1[i]? = some (some sv) → sv.own = true → σ[i]? ≠ some (some (.ref D)) := fun i sv e ho => R1.ownThere e ho hD
  let Pv : Nat → Hp → Prop := fun i Hc => ∃ env' O' ws acc, Rel S O' env' (wipe σ vs) Hc ∧ Lt S σ O1 env1 H1 O' env' Hc ∧ O' D ∧ Hc D = some (.lst ws) ∧ Reps (fz O' Hc) acc ws ∧ env'.length = σ.length ∧ (∀ (i : Nat) (sv : SV), env'[i]? = some (some sv) → sv.own = true → σ[i]? ≠ some (some (.ref D))) ∧ plc2 fg ft fi1 fg1 ft1 fe vs vs1 Qp (xs.drop i) acc env'
  refine ⟨fun i m Hc => m = xs.length - i ∧ i ≤ xs.length ∧ Pv i Hc, ⟨xs.length, by simp, Nat.zero_le _, ?_⟩, ?_⟩
  · obtain ⟨R2, L2⟩ := R1.hold hD (.lst []) trivial
    refine ⟨wipeE env1 vs, _, [], [], R2.wipe vs, ⟨L2.raw, L2.loose, fun i sv e ho => L2.own i sv (wipeE_some e).1 ho, L2.there⟩, .inr rfl, upd_same, trivial, by rw [wipeE_length]; exact R1.len, fun i sv e ho => nD i sv (wipeE_some e).1 ho, by simpa using q1⟩
  · rintro i m Hc ⟨rfl, hle, env', O', ws, acc, R', L', oD, hDc, rs, hlen, nD', q'⟩
    have hGc := hG Hc fun a o z => (L'.fz a o z).2
    by_cases lt : i < xs.length
    · refine .inr ⟨w.goes i Hc lt hGc, Pv (i + 1), fun H' p => ⟨xs.length - (i + 1), by omega, rfl, lt, p⟩, fun v H2 y => ?_⟩
      obtain ⟨sm, x, ex, rx⟩ := hY i Hc O' v H2 lt L'.fz R'.oH (w.yields i Hc v H2 lt hGc y)
      have R2 := R'.same sm
      have hD2 := sm _ _ hDc
      have rs2 := Reps.mono (fz_same (O := O') sm) _ _ rs
      have L2 := L'.trans (Lt.same sm)
      obtain ⟨hlt, rfl⟩ := List.getElem?_eq_some_iff.mp ex
      rw [List.drop_eq_getElem_cons hlt] at q'
      refine hg.snd R2 rx q' fun envA σA RA sA gA zA qA => ?_
      have lA : σA.length = σ.length := by rw [← RA.len, zA, hlen]
      have wA : wipe σA vs = wipe σ vs := wipe_eq lA fun j hj => ((sA j (hsub j hj)).1.trans (wipe_ne hj))
      refine ⟨wA, ?_⟩
      have nA : ∀ (i : Nat) (sv : SV), envA[i]? = some (some sv) → sv.own = true → σA[i]? ≠ some (some (.ref D)) := fun i sv e ho z => by
        obtain ⟨g1, g2⟩ := gA i sv e ho
        rw [g2] at z
        exact nD' i sv g1 ho (wipe_some z).1
      refine ht.snd RA qA fun b env3 H3 O3 R3 L3 q3 => ?_
      cases b with
      | false =>
        obtain ⟨o4, e4⟩ := L3.loose D _ oD n0 nA hD2
        have R5 := R3.wipe vs
        rw [wA] at R5
        refine ⟨wipeE env3 vs, O3, ws, acc, R5, L2.trans (L3.under gA RA), o4, e4, Reps.mono L3.fz _ _ rs2, by rw [wipeE_length, R3.len, lA], fun i sv e ho => ?_, q3⟩
        obtain ⟨f1, f2⟩ := wipeE_some e
        obtain ⟨sw, g1, g2⟩ := L3.own i sv f1 ho
        exact nD' i sw (gA i sw g1 g2).1 g2
      | true =>
        refine hi1.snd R3 q3 fun J1 ys env4 H4 O4 R4 L4 W1 ⟨hsz, q4⟩ => ?_
        obtain ⟨n1, G1, Y1, w1, rfl, hG1, hY1⟩ := W1.ex
        have LL := L3.trans L4
        obtain ⟨o4, e4⟩ := LL.loose D _ oD n0 nA hD2
        have n4 : ∀ (i : Nat) (sv : SV), env4[i]? = some (some sv) → sv.own = true → σA[i]? ≠ some (some (.ref D)) := fun i sv e ho => let ⟨sw, f1, f2⟩ := LL.own i sv e ho; nA i sw f1 f2
        have l4 : env4.length = σA.length := R4.len
        let Pi : Nat → Hp → Prop := fun j Hd => ∃ env5 O5 ws5 acc5, Rel S O5 env5 (wipe σA vs1) Hd ∧ LtD D S σA O4 env4 H4 O5 env5 Hd ∧ O5 D ∧ Hd D = some (.lst ws5) ∧ Reps (fz O5 Hd) acc5 ws5 ∧ acc5.length ≤ acc.length + j ∧ env5.length = σA.length ∧
          (∀ (i : Nat) (sv : SV), env5[i]? = some (some sv) → sv.own = true → σA[i]? ≠ some (some (.ref D))) ∧ plc fg1 ft1 fe vs1 (fun acc2 env6 => plc2 fg ft fi1 fg1 ft1 fe vs vs1 Qp (xs.drop (i + 1)) acc2 (wipeE env6 vs)) (ys.drop j) acc5 env5
        refine ⟨fun j m Hd => m = ys.length - j ∧ j ≤ ys.length ∧ Pi j Hd, ⟨ys.length, by simp, Nat.zero_le _, wipeE env4 vs1, O4, ws, acc, R4.wipe vs1, (Lt.refl (S := S) (σ := σA) (O := O4) (env := env4) (H := H4)).toD.wiped vs1, o4, e4, Reps.mono LL.fz _ _ rs2, Nat.le_refl _, by rw [wipeE_length]; exact R4.len, fun i sv e ho => n4 i sv (wipeE_some e).1 ho, by simpa using q4⟩, ?_⟩
        rintro j m1 Hd ⟨rfl, hjle, env5, O5, ws5, acc5, R5, L5, o5, e5, rs5, hl5, len5, n5, q5⟩
        have hGd := hG1 Hd fun a o z => (L5.raw.fz a o z).2
        by_cases ltj : j < ys.length
        · refine .inr ⟨w1.goes j Hd ltj hGd, Pi (j + 1), fun H' p => ⟨ys.length - (j + 1), by omega, rfl, ltj, p⟩, fun v1 H6 y1 => ?_⟩
          obtain ⟨sm1, x1, ex1, rx1⟩ := hY1 j Hd O5 v1 H6 ltj L5.raw.fz R5.oH (w1.yields j Hd v1 H6 ltj hGd y1)
          obtain ⟨hlt1, rfl⟩ := List.getElem?_eq_some_iff.mp ex1
          rw [List.drop_eq_getElem_cons hlt1] at q5
          exact lc_turn hsub1 (R5.same sm1) len5 o5 n0 n5 (sm1 _ _ e5) (Reps.mono (fz_same (O := O5) sm1) _ _ rs5) rx1 (by omega) q5 fun env7 O7 H7 ws7 acc7 R7 L7 o7 e7 rs7 hl7 len7 n7 q7 =>
            ⟨env7, O7, ws7, acc7, R7, (L5.trans (Lt.same sm1).toD).trans L7, o7, e7, rs7, by omega, len7, n7, q7⟩
        · have ej : j = ys.length := by omega
          subst ej
          rw [List.drop_length] at q5
          have R6 := R5.wipe vs
          rw [wipe_wipe hvs', wA] at R6
          refine .inl ⟨w1.stops Hd hGd, wipeE env5 vs, O5, ws5, acc5, R6, L2.addD hD ((LL.toD.trans L5).under gA), o5, e5, rs5, by rw [wipeE_length, len5, lA], fun i sv e ho => ?_, q5⟩
          obtain ⟨f1, f2⟩ := wipeE_some e
          obtain ⟨sw, g1, g2⟩ := L5.own i sv f1 ho
          obtain ⟨sx, g3, g4⟩ := LL.own i sw g1 g2
          exact nD' i sx (gA i sx g3 g4).1 g4
    · have e : i = xs.length := by omega
      subst e
      rw [List.drop_length] at q'
      exact .inl ⟨w.stops Hc hGc, k D ws acc env' Hc O' (R'.unwipe hlen) (L1.trans L') oD n0 (L1.at hD) nD' hDc rs q'⟩
def fLc2 (fi : FI) (g : FG) (ix : List Nat) (t : FT) (fi1 : FI) (g1 : FG) (ix1 : List Nat) (t1 : FT) (e : FE) (vs vs1 : List Nat) : FE := fun env Q => fLc2L fi g ix t fi1 g1 ix1 t1 e vs vs1 env fun ys env1 => Q (.lst ys) env1
def fLc2O (fi : FI) (g : FG) (ix : List Nat) (t : FT) (fi1 : FI) (g1 : FG) (ix1 : List Nat) (t1 : FT) (e : FE) (vs vs1 : List Nat) : FO := fun env Q => fLc2L fi g ix t fi1 g1 ix1 t1 e vs vs1 env fun ys env1 => Q (.ol ys) env1
instance {wi wi1 : TI} {g g1 : TG} {tt tt1 : TT} {te : TE} {vs vs1 : List Nat} {fi fg ix ft fi1 fg1 ix1 ft1 fe} [hi : PureI S wi fi] [hg : PureG S g fg ix] [ht : PureT S tt ft] [hi1 : PureI S wi1 fi1] [hg1 : PureG S g1 fg1 ix1] [ht1 : PureT S tt1 ft1] [he : PureE S te fe] : PureE S (tLc2 wi g tt wi1 g1 tt1 te vs vs1) (fLc2 fi fg ix ft fi1 fg1 ix1 ft1 fe vs vs1) := ⟨fun R q k =>
  lc2_snd R q fun D ws acc env1 H1 O1 R1 L1 o1 n0 hD n1 e1 r1 q1 => k _ (.lst acc) env1 H1 _ (R1.release n0 n1) (L1.release hD) ⟨D, ws, rfl, ⟨fun z => z.2 rfl, .of e1⟩, Reps.mono (fun a u ⟨h1, h2⟩ => ⟨fun z => h1 z.1, h2⟩) _ _ r1⟩ q1⟩
instance {wi wi1 : TI} {g g1 : TG} {tt tt1 : TT} {te : TE} {vs vs1 : List Nat} {fi fg ix ft fi1 fg1 ix1 ft1 fe} [hi : PureI S wi fi] [hg : PureG S g fg ix] [ht : PureT S tt ft] [hi1 : PureI S wi1 fi1] [hg1 : PureG S g1 fg1 ix1] [ht1 : PureT S tt1 ft1] [he : PureE S te fe] : PureO S (tLc2 wi g tt wi1 g1 tt1 te vs vs1) (fLc2O fi fg ix ft fi1 fg1 ix1 ft1 fe vs vs1) := ⟨fun R q k =>
  lc2_snd R q fun D ws acc env1 H1 O1 R1 L1 o1 n0 hD n1 e1 r1 q1 => k _ (.ol acc) env1 H1 _ R1 L1 ⟨D, rfl, o1, n0, ws, e1, r1⟩ (fun _ => ⟨D, rfl, hD, n1⟩) q1⟩
end
end PL

set_option Elab.async false
set_option linter.all false
set_option maxRecDepth 100000
set_option maxHeartbeats 4000000
/-! chains, methods of texts, the end of a def once more, loops over a dict -/
namespace PL
open PySem L2
/-- what is wanted of errors is just this -/
class EIs (S : Sit) (E : XK) : Prop where
  eq : S.E = E
section
variable {S : Sit}
instance {f} {E : XK} [h : EIs S E] : SpP S (spP f) E (fun xs Q => f xs Q S.Ep) := ⟨fun {O env σ H vs xs Q Qp} R r q k => ⟨O, xs, Qp, S.Ep, R.oH, r, q, fun v x H' s r' q' => k v x H' (R.same s) (.same s) r' q', fun C fs ys us d H' s e l r' q' => by
  rw [← h.eq]
  exact R.ok.eok C fs ys us d H' (R.same s).fr e l (Reps.mono (R.same s).ret _ _ r') q'⟩⟩
theorem spP_len {f : List PV → (PV → Prop) → (Addr → List (Str × PV) → Prop) → Prop} {vs : List V} {H : Hp} {Q : VK} {E : XK} {n : Nat} (h : spP f vs H Q E) (k : ∀ xs Qp Ep, f xs Qp Ep → xs.length = n) : vs.length = n := by
  obtain ⟨O, xs, Qp, Ep, oh, r, q, _⟩ := h
  rw [← r.length]
  exact k xs Qp Ep q
theorem def_end2 (K : PySem.W.Frag) {N : List Str} {t : TS} {f : List PV → (PV → Prop) → (Addr → List (Str × PV) → Prop) → Prop} {vs : List V} {H : Hp} {Q : VK} {E : XK} (h : spP f vs H Q E)
    (k : ∀ (S : Sit) xs Qp, S.K = K → EIs S E → f xs Qp S.Ep → ∃ fs, PureS S t fs ∧ fs { nx := fun _ => Qp .non, rt := Qp } (startP N.length xs)) : t { nx := fun _ H' => Q .non H', rt := Q } (L2.start N vs) H := by
  obtain ⟨O, xs, Qp, Ep, oh, r, q, kq, ke⟩ := h
  have R := rel_start (K := K) (N := N) oh r ke
  obtain ⟨fs, i, z⟩ := k ⟨K, H, O, fun _ => False, fun _ => True, E, Ep⟩ xs Qp rfl ⟨rfl⟩ q
  exact i.snd R z (fun env' σ' H' O' R' _ q' => kq _ .non H' (fun a o e => R'.fr.same a o (fun z => z) e) (rfl : V.non = V.non) q') (fun v x H' _ fr _ r' q' => kq v x H' (fun a o e => fr.same a o (fun z => z) e) r' q') (fun _ _ _ _ _ _ z => z.elim) (fun _ _ _ _ _ _ z => z.elim)
/-! ### chains -/
def fChain (f f' : PV → PV → (PV → Prop) → Prop) (fa fb fc : FE) : FE := fun env Q => fa env fun x env1 => fb env1 fun y env2 => f x y fun z => match z with
  | .bl c => if c = true then fc env2 fun w env3 => f' y w fun u => Q u env3 else Q (.bl false) env2
  | _ => False
instance {r r' : R2} {f f'} {ta tb tc : TE} {fa fb fc : FE} [hr : R2P S r f] [hr' : R2P S r' f'] [ha : PureE S ta fa] [hb : PureE S tb fb] [hc : PureE S tc fc] : PureE S (tChain r r' ta tb tc) (fChain f f' fa fb fc) := ⟨fun R q k =>
  ha.snd R q fun v x env1 H1 O1 R1 L1 r1 q1 => hb.snd R1 q1 fun w y env2 H2 O2 R2 L2 r2 q2 => hr.snd R2.oH (Rep.mono L2.fz _ _ r1) r2 q2 fun z u H3 s r3 q3 => by
    cases u with
    | bl c =>
      refine ⟨c, r3, ?_⟩
      have R3 := R2.same s
      have L3 := (L1.trans L2).trans (.same s)
      cases c with
      | true =>
        rw [if_pos rfl]
        exact hc.snd R3 q3 fun w3 y3 env4 H4 O4 R4 L4 r4 q4 => hr'.snd R4.oH (Rep.mono ((Lt.same (S := S) (σ := _) (env := env2) s).trans L4).fz _ _ r2) r4 q4 fun z5 u5 H5 s5 r5 q5 => k z5 u5 env4 H5 O4 (R4.same s5) ((L3.trans L4).trans (.same s5)) r5 q5
      | false => exact k _ (.bl false) env2 H3 O2 R3 L3 (rfl : V.bl _ = V.bl _) q3
    | _ => exact q3.elim⟩
/-! ### texts -/
def fFmtB (fa : FE) : FE := fun env Q => fa env fun x env1 => match x with
  | .int i => ∃ n : Nat, i = (n : Int) ∧ (binText n).length ≤ sizeLine ∧ Q (.str (binText n)) env1
  | _ => False
instance {ta : TE} {fa : FE} [ha : PureE S ta fa] : PureE S (tFmtB ta) (fFmtB fa) := ⟨fun R q k => ha.snd R q fun v x env1 H1 O1 R1 L1 r1 q1 => by
  cases x with
  | int i =>
    obtain ⟨n, rfl, hn, q1⟩ := q1
    exact ⟨n, r1, hn, k _ (.str _) env1 H1 O1 R1 L1 (rfl : V.str _ = V.str _) q1⟩
  | _ => exact q1.elim⟩
class StrM (S : Sit) (r : V → List V → Hp → VK → Prop) (f : outParam (Str → List PV → (PV → Prop) → Prop)) : Prop where
  snd : ∀ {O : Addr → Prop} {H : Hp} {a : Str} {vs : List V} {xs : List PV} {Q : VK} {Qp : PV → Prop}, OnH O H → Reps (fz O H) xs vs → f a xs Qp →
    (∀ z u H', Same H H' → Rep (fz O H') u z → Qp u → Q z H') → r (.str a) vs H Q
def fM1 (f : Str → List PV → (PV → Prop) → Prop) (fo fe : FE) : FE := fun env Q => fo env fun x env1 => match x with
  | .str a => fe env1 fun y env2 => f a [y] fun z => Q z env2
  | _ => False
instance {r f} {to te : TE} {fo fe : FE} [hr : StrM S r f] [h1 : PureE S to fo] [h2 : PureE S te fe] : PureE S (tM1 r to te) (fM1 f fo fe) := ⟨fun R q k => h1.snd R q fun v x env1 H1 O1 R1 L1 r1 q1 => by
  cases x with
  | str a =>
    refine ⟨⟨a, r1⟩, h2.snd R1 q1 fun w y env2 H2 O2 R2 L2 r2 q2 => ?_⟩
    rw [show v = V.str a from r1]
    exact hr.snd (xs := [y]) R2.oH ⟨r2, trivial⟩ q2 fun z u H3 s r3 q3 => k z u env2 H3 O2 (R2.same s) ((L1.trans L2).trans (.same s)) r3 q3
  | _ => exact q1.elim⟩
def sMI (h : Str → Str → Int) : Str → List PV → (PV → Prop) → Prop := fun a xs Q => match xs with
  | [.str b] => Q (.int (h a b))
  | _ => False
def sMB (h : Str → Str → Bool) : Str → List PV → (PV → Prop) → Prop := fun a xs Q => match xs with
  | [.str b] => Q (.bl (h a b))
  | _ => False
instance {h : Str → Str → Int} : StrM S (fun x xs H Q => ∃ a b, x = V.str a ∧ xs = [V.str b] ∧ Q (V.int (h a b)) H) (sMI h) := ⟨fun {O H a vs xs Q Qp} _ r q k => by
  unfold sMI at q
  match xs, vs, r, q with
  | [.str b], [v], r, q => exact ⟨a, b, rfl, by rw [show v = V.str b from r.1], k _ (.int _) H (.refl _) (rfl : V.int _ = V.int _) q⟩⟩
instance {h : Str → Str → Bool} : StrM S (fun x xs H Q => ∃ a b, x = V.str a ∧ xs = [V.str b] ∧ Q (V.bl (h a b)) H) (sMB h) := ⟨fun {O H a vs xs Q Qp} _ r q k => by
  unfold sMB at q
  match xs, vs, r, q with
  | [.str b], [v], r, q => exact ⟨a, b, rfl, by rw [show v = V.str b from r.1], k _ (.bl _) H (.refl _) (rfl : V.bl _ = V.bl _) q⟩⟩
/-! ### loops over the keys of a dict that a slot knows -/
theorem Sit.Ok.nD {S : Sit} (ok : S.Ok) {d : Addr} (n0 : S.H0 d = none) : ∀ a, S.D a → a ≠ d := fun a z q => by
  subst q
  obtain ⟨x, y⟩ := ok.oH a (ok.dO a z)
  rw [n0] at y; cases y
/-- one place that stands still is told otherwise -/
theorem Rel.tell {O : Addr → Prop} {env : PEnv} {σ : St} {H : Hp} (R : Rel S O env σ H) {d : Addr} {o : HO} (n0 : S.H0 d = none) (nO : ¬ O d) (le : Le (fz O H) (fz O (upd H d o))) : Rel S O env σ (upd H d o) := by
  refine ⟨R.ok, ⟨fun a o n e => ?_, fun a z => ?_, R.ok.jst H _ R.fr.j (fun a z => upd_ne (R.ok.nD n0 a z)) (le_ext nO le)⟩, R.o0, fun a h => ?_, fun i sv e => ?_, R.apart, R.len⟩
  · rw [upd_ne (fun q : a = d => by subst q; rw [n0] at e; cases e)]
    exact R.fr.same a o n e
  · rw [upd_ne (R.ok.nD n0 a z)]
    exact R.fr.stay a z
  · rw [upd_ne (fun q : a = d => by subst q; exact nO h)]
    exact R.oH a h
  · obtain ⟨v, h1, h2⟩ := R.slot i sv e
    refine ⟨v, h1, ?_⟩
    cases hb : sv.own with
    | true =>
      obtain ⟨l, rfl, a1, a2, a3⟩ := h2.of hb
      exact .mk a1 a2 (a3.mono le fun o z => by rw [upd_ne (fun q : l = d => by subst q; exact nO a1)]; exact z)
    | false =>
      cases sv with
      | fr x => exact Rep.mono le _ _ h2
      | ol xs => cases hb
      | oK ks xs => cases hb
      | oT ks xs => cases hb
theorem lock_le {O : Addr → Prop} {H : Hp} {d : Addr} {u : HO} (od : Obj) (hd : H d = some u) (du : isD u) : Le (fz O H) (fz O (upd H d (.frz od u))) := fun a o ⟨h1, h2⟩ => ⟨h1, by
  by_cases q : a = d
  · subst q
    rcases h2 with ⟨h, _⟩ | ⟨_, od', h⟩
    · rw [hd] at h; cases h
      exact .inr ⟨du, od, upd_same⟩
    · rw [hd] at h; cases h
      exact (du : False).elim
  · exact h2.ne q⟩
theorem unlock_le {O : Addr → Prop} {H : Hp} {d : Addr} {u : HO} {od : Obj} (hd : H d = some (.frz od u)) (du : isD u) : Le (fz O H) (fz O (upd H d u)) := fun a o ⟨h1, h2⟩ => ⟨h1, by
  by_cases q : a = d
  · subst q
    rcases h2 with ⟨h, z⟩ | ⟨_, od', h⟩
    · rw [hd] at h; cases h
      exact (z : False).elim
    · rw [hd] at h; cases h
      exact .of upd_same (by cases u <;> first | trivial | exact (du : False).elim)
  · exact h2.ne q⟩
/-- for k in d -/
def fForK (i : Nat) (g : FG) (b : FS) : FS := fun De env => match env[i]? with
  | some (some (.oT ks xs)) => pfor g b De (ks.map tkP) (env.set i (some (.fr (.dT ks xs))))
  | some (some (.oK ks xs)) => pfor g b De (ks.map kP) (env.set i (some (.fr (.dK ks xs))))
  | _ => False
theorem forK_snd {g : TG} {tb : TS} {fg ix fb} [hg : PureG S g fg ix] [hb : PureS S tb fb] {i : Nat} {O : Addr → Prop} {env : PEnv} {σ : St} {H : Hp} {D : Ends} {De : FEnds} {sv : SV} {keys : List PV} {u : HO} {d : Addr} {Jf : Obj → It} {Yf : Obj → Nat → Hp → V → Hp → Prop} (R : Rel S O env σ H) (e : env[i]? = some (some sv)) (ho : sv.own = true) (hs : σ[i]? = some (some (.ref d))) (hd : H d = some u) (du : isD u) (mu : Mut (some u))
    (q : pfor fg fb De keys (env.set i (some (.fr sv.pv)))) (w : ∀ od, Walk (Jf od) keys.length (fun H => H d = some (.frz od u)) (Yf od))
    (y : ∀ od j H2 O2 v H3, j < keys.length → OnH O2 H2 → Yf od j H2 v H3 → H3 = H2 ∧ ∃ x, keys[j]? = some x ∧ Rep (fz O2 H2) x v)
    (k : ∀ env' σ' H' O', Rel S O' env' σ' H' → Le (fzr O H) (fzr O' H') → De.nx env' → D.nx σ' H') (kr : ∀ v x H' O', S.Fr H' → Le (fzr O H) (fzr O' H') → Rep (fz S.O0 H') x v → De.rt x → D.rt v H')
    (wi : ∀ od (R : It → Hp → Prop), R (Jf od) (upd H d (.frz od u)) → ∃ v, σ[i]? = some (some v) ∧ ∃ d' o, v = .ref d' ∧ ((∃ kvs, (upd H d (.frz od u)) d' = some (.frz o (.dK kvs)) ∧ R (Itk d' o kvs) (upd H d (.frz od u))) ∨ ∃ kvs, (upd H d (.frz od u)) d' = some (.frz o (.dT kvs)) ∧ R (Itkt d' o kvs) (upd H d (.frz od u)))) :
    tLock (tFor (iKeys (tVar i)) g tb) D σ H := by
  obtain ⟨v0, h1, h2⟩ := R.slot i sv e
  rw [hs] at h1
  cases Option.some.inj (Option.some.inj h1)
  obtain ⟨l', hl, hO, n0, own⟩ := h2.of ho
  injection hl with hl; subst hl
  obtain ⟨R1, L1, r1⟩ := R.freeze e ho hs
  have nO1 : ¬ (O d ∧ d ≠ d) := fun z => z.2 rfl
  refine ⟨d, u, hd, mu, fun od => ?_⟩
  have R2 := R1.tell n0 nO1 (lock_le od hd du)
  have back : ∀ {O' : Addr → Prop} {H' : Hp}, Le (fzr (fun a => O a ∧ a ≠ d) (upd H d (.frz od u))) (fzr O' H') → ¬ O' d ∧ H' d = some (.frz od u) ∧ Le (fzr O H) (fzr O' (upd H' d u)) := fun {O' H'} L => by
    obtain ⟨z1, z2⟩ := L d (.frz od u) ⟨nO1, upd_same⟩
    refine ⟨z1, z2, fun a o ⟨g1, g2⟩ => ?_⟩
    have ne : a ≠ d := fun z => by subst z; exact g1 hO
    obtain ⟨y1, y2⟩ := L a o ⟨fun z => g1 z.1, by rw [upd_ne ne]; exact g2⟩
    exact ⟨y1, by rw [upd_ne ne]; exact y2⟩
  refine wi od (tForR g tb _ σ) ?_
  refine for_it (w od) (fun j σ' H' => ∃ env' O', Rel S O' env' σ' H' ∧ Le (fzr (fun a => O a ∧ a ≠ d) (upd H d (.frz od u))) (fzr O' H') ∧ pfor fg fb De (keys.drop j) env') ⟨_, _, R2, .refl _, by simpa using q⟩ (fun j σ' H' _ ⟨env', O', R', L', _⟩ => (back L').2.1) (fun j v σ' H' H2 hj ⟨env', O', R', L', q'⟩ yy => ?_) (fun σ' H' ⟨env', O', R', L', q'⟩ => ?_)
  · obtain ⟨rfl, x, ex, rx⟩ := y od j H' O' v H2 hj R'.oH yy
    obtain ⟨hlt, rfl⟩ := List.getElem?_eq_some_iff.mp ex
    rw [List.drop_eq_getElem_cons hlt] at q'
    refine hg.snd R' rx q' fun env3 σ3 R3 _ _ _ q3 => ?_
    refine hb.snd R3 q3 (fun e s h o r l z => ⟨e, o, r, L'.trans l, z⟩) (fun v x h o f l r z => ?_) (fun e s h o r l z => ?_) (fun e s h o r l z => ⟨e, o, r, L'.trans l, z⟩)
    · obtain ⟨b1, b2, b3⟩ := back (L'.trans l)
      refine ⟨b2, kr v x _ o ⟨fun a oo n e => ?_, fun a z => ?_, R.ok.jst h _ f.j (fun a z => upd_ne (R.ok.nD n0 a z)) (fun a φ e => by rw [upd_ne (fun q : a = d => by subst q; rw [b2] at e; cases e)]; exact e)⟩ b3 (Rep.mono (unlock_le b2 du) _ _ r) z⟩
      · rw [upd_ne (fun q : a = d => by subst q; rw [n0] at e; cases e)]
        exact f.same a oo n e
      · rw [upd_ne (R.ok.nD n0 a z)]
        exact f.stay a z
    · obtain ⟨b1, b2, b3⟩ := back (L'.trans l)
      exact ⟨b2, k e s _ o (r.tell n0 b1 (unlock_le b2 du)) b3 z⟩
  · rw [List.drop_length] at q'
    obtain ⟨b1, b2, b3⟩ := back L'
    exact ⟨b2, k env' σ' _ O' (R'.tell n0 b1 (unlock_le b2 du)) b3 q'⟩
instance {g : TG} {tb : TS} {fg ix fb} [hg : PureG S g fg ix] [hb : PureS S tb fb] {i : Nat} : PureS S (tLock (tFor (iKeys (tVar i)) g tb)) (fForK i fg fb) := ⟨fun {O env σ H D De} R q k kr kb kc => by
  unfold fForK at q
  cases e : env[i]? with
  | none => rw [e] at q; exact q.elim
  | some o =>
    rw [e] at q
    cases o with
    | none => exact q.elim
    | some sv =>
      cases sv with
      | fr x => exact q.elim
      | ol xs => exact q.elim
      | oK ks xs =>
        obtain ⟨d, hs, vs, h1, h2, h3⟩ := R.ownAt e rfl
        refine forK_snd R e rfl hs h1 trivial trivial q (Jf := fun od => Itk d od (ks.zip vs)) (Yf := fun od i H x H' => H' = H ∧ ∃ k v, (ks.zip vs)[i]? = some (k, v) ∧ x = kV k) (fun od => by
          have := walk_keys (d := d) (o := od) (kvs := ks.zip vs)
          rw [show (ks.zip vs).length = (ks.map kP).length by rw [List.length_zip, List.length_map, ← h2, Nat.min_self]] at this
          exact this) (fun od j H2 O2 v H3 hj oh ⟨e1, kk, vv, e2, e3⟩ => ⟨e1, kP kk, ?_, by rw [e3]; exact kP_rep kk⟩) k kr fun od R r => ⟨_, hs, d, od, rfl, .inl ⟨_, upd_same, r⟩⟩
        have := (List.getElem?_zip_eq_some.mp e2).1
        rw [List.getElem?_map, this]; rfl
      | oT ks xs =>
        obtain ⟨d, hs, vs, h1, h2, h3⟩ := R.ownAt e rfl
        refine forK_snd R e rfl hs h1 trivial trivial q (Jf := fun od => Itkt d od (ks.zip vs)) (Yf := fun od i H x H' => H' = H ∧ ∃ (k : List Key) (v : V) (q : Addr), (ks.zip vs)[i]? = some (k, v) ∧ x = .ref q ∧ H q = some (.tup (k.map kV))) (fun od => by
          have := walk_keysT (d := d) (o := od) (kvs := ks.zip vs)
          rw [show (ks.zip vs).length = (ks.map tkP).length by rw [List.length_zip, List.length_map, ← h2, Nat.min_self]] at this
          exact this) (fun od j H2 O2 v H3 hj oh ⟨e1, kk, vv, qq, e2, e3, e4⟩ => ⟨e1, tkP kk, ?_, ?_⟩) k kr fun od R r => ⟨_, hs, d, od, rfl, .inr ⟨_, upd_same, r⟩⟩
        · have := (List.getElem?_zip_eq_some.mp e2).1
          rw [List.getElem?_map, this]; rfl
        · subst e3
          refine ⟨qq, kk.map kV, rfl, ⟨fun z => ?_, .of e4⟩, kPs_rep kk⟩
          obtain ⟨o, g1, g2⟩ := oh qq z
          rw [e4] at g1; cases g1; exact g2⟩
end
end PL

set_option Elab.async false
set_option linter.all false
set_option maxRecDepth 100000
set_option maxHeartbeats 4000000
/-! loops and comprehensions over values -/
namespace PL
open PySem L2
theorem _root_.L2.pa_starK {X : Cx} {e : Expr} {es : List Expr} {p : Pos} {te : TE} {t : TA} {K : PySem.W.Frag} (hK : X.K = K) (ha : PE X e te) (hr : PA X es t) (hs : starEach (.Starred e p :: es) X.env = (true, eval e X.env) :: starEach es X.env := by rfl) : PA X (.Starred e p :: es) (tStar K te t) := by
  subst hK
  exact pa_star ha hr hs
theorem pfor_inv {g : FG} {b : FS} {De : FEnds} (I : Nat → PEnv → Prop) {xs : List PV} {env : PEnv} (h0 : I 0 env)
    (turn : ∀ i x env, xs[i]? = some x → I i env → ∀ N : PEnv → Prop, (∀ env', I (i + 1) env' → N env') → g x env fun env1 => b { De with nx := N, ct := N, bk := De.nx } env1) (hd : ∀ env, I xs.length env → De.nx env) : pfor g b De xs env := by
  suffices key : ∀ (ys : List PV) (n : Nat) (env : PEnv), (∀ i, ys[i]? = xs[n + i]?) → n + ys.length = xs.length → I n env → pfor g b De ys env from key xs 0 env (fun i => by rw [Nat.zero_add]) (Nat.zero_add _) h0
  intro ys
  induction ys with
  | nil =>
    intro n env _ hl hi
    have : n = xs.length := by simpa using hl
    subst this
    exact hd env hi
  | cons y ys ih =>
    intro n env hy hl hi
    exact turn n y env (by have := hy 0; simpa using this.symm) hi _ fun env' h' => ih (n + 1) env' (fun i => by have := hy (i + 1); rw [List.getElem?_cons_succ] at this; rw [this]; congr 1; omega) (by rw [List.length_cons] at hl; omega) h'
/-- each turn keeps the slots and adds h x -/
theorem plc_map {g : FG} {t : FT} {e : FE} {vs : List Nat} {Q : List PV → PEnv → Prop} (h : PV → PV) {env : PEnv} : ∀ {xs acc : List PV},
    (∀ x ∈ xs, ∀ (K : PV → PEnv → Prop) (K' : PEnv → Prop), K (h x) env → g x env fun env1 => t env1 fun b env2 => if b = true then e env2 fun y env3 => K y (wipeE env3 vs) else K' (wipeE env2 vs)) → Q (acc ++ xs.map h) env → plc g t e vs Q xs acc env
  | [], acc, _, q => by show Q acc env; simpa using q
  | x :: xs, acc, turn, q => turn x (List.mem_cons_self ..) (fun y env' => plc g t e vs Q xs (acc ++ [y]) env') (fun env' => plc g t e vs Q xs acc env') (plc_map h (xs := xs) (acc := acc ++ [h x]) (fun z hz => turn z (List.mem_cons_of_mem _ hz)) (by simpa using q))
/-- those with p x alone -/
theorem plc_filter {g : FG} {t : FT} {e : FE} {vs : List Nat} {Q : List PV → PEnv → Prop} (p : PV → Bool) (h : PV → PV) {env : PEnv} : ∀ {xs acc : List PV},
    (∀ x ∈ xs, ∀ (K : PV → PEnv → Prop) (K' : PEnv → Prop), (p x = true → K (h x) env) → (p x = false → K' env) → g x env fun env1 => t env1 fun b env2 => if b = true then e env2 fun y env3 => K y (wipeE env3 vs) else K' (wipeE env2 vs)) → Q (acc ++ (xs.filter p).map h) env → plc g t e vs Q xs acc env
  | [], acc, _, q => by show Q acc env; simpa using q
  | x :: xs, acc, turn, q => turn x (List.mem_cons_self ..) (fun y env' => plc g t e vs Q xs (acc ++ [y]) env') (fun env' => plc g t e vs Q xs acc env')
      (fun hp => plc_filter p h (xs := xs) (acc := acc ++ [h x]) (fun z hz => turn z (List.mem_cons_of_mem _ hz)) (by simpa [hp] using q))
      (fun hp => plc_filter p h (xs := xs) (acc := acc) (fun z hz => turn z (List.mem_cons_of_mem _ hz)) (by simpa [hp] using q))
theorem sl_le {n : Nat} (h : n ≤ 1000000) : n ≤ sizeLine := Nat.le_trans h (by rw [sizeLine_eq]; omega)
theorem sl_lt {n : Nat} (h : n ≤ 1000000) : n < sizeLine := Nat.lt_of_le_of_lt h (by rw [sizeLine_eq]; omega)
end PL

set_option Elab.async false
set_option linter.all false
set_option maxRecDepth 100000
set_option maxHeartbeats 4000000
/-! f"{i:b}", i of any sign -/
namespace PySem
open PySem.Spec PyProof.Rows Builtin
section
variable {prog : Program} {w : World} {A : Around} {E : Value → Shared → Prop} {s : Shared}
def binTextZ (i : Int) : Str := intField' { align := 62, type := some 98 } (decide (i < 0)) [] ((Nat.toDigits 2 i.natAbs).map fun c => (if (98 : Nat) == 88 then c.toUpper else c).toNat) [] 4
theorem fmt_binZ {i : Int} {t : Tok} {Q : Value → Shared → Prop} (hz : (binTextZ i).length ≤ sizeLine) (h : ∀ tk u, Q (.str (binTextZ i) u) { s with toks := tk }) :
    wpAny (model prog w) A (formatField (.int i t) "b") Q E s := by
  show wpAny _ _ (holding [.int i t] (pyFormat (.int i t) "b")) Q E s
  refine wpAny_holding ?_
  unfold pyFormat
  refine wpAny_bind (wpAny_mkStr ?_ (by decide +kernel))
  refine wpAny_bind (m := callSpecial? (.int i t) (Str.ofString "__format__") [.str "b" s.toks]) (wpAny_callSpecial?_slot (name := Str.ofString "__format__") (typeIs_int _ _ t) slot_int_format ?_)
  refine wpAny_call (codeAny_call_builtin slot_int_format.plain entry_int_format (slot_int_format.check _ _ _ _ _ _ _ _ (typeIs_int _ _ t) (args_int_format _ _) ?_))
  unfold Builtin.«int.__format__»
  simp only [selfAndOne, noKeywords, Int.intOfSelf, asInt?, asStr?, List.isEmpty_nil, if_true, pure_bind, bind_pure, bind_assoc, Bool.false_eq_true, if_false, show (Value.str "b" s.toks == Value.none) = false from rfl]
  refine wpAny_bind (wpAny_typeNameOf (T := "str") (typeIs_str _ _ _) (by decide) fun _ => ?_)
  rw [if_neg (by decide +kernel)]
  rw [if_neg (by decide +kernel)]
  first | refine wpAny_bind (wpAny_typeNameOfCut_int ?_) | refine wpAny_bind (wpAny_typeNameOf_int ?_)
  have hp : Builtin.Float.parseFormatSpec (Str.ofString "b").cps.toList "int" 62 = .ok { align := 62, type := some 98 } := by rfl
  rw [hp]
  dsimp only
  rw [if_pos (by decide +kernel)]
  conv => arg 3; whnf
  have hT : ∀ f : Nat → Str → Prop, f 0 (binTextZ i) → f 0 (intField' { align := 62, type := some 98 } (decide (i < 0)) [] ((Nat.toDigits 2 i.natAbs).map fun c => (if (98 : Nat) == 88 then c.toUpper else c).toNat) [] 4) := fun f h => h
  generalize decide (i < 0) = neg at hT ⊢
  generalize Nat.toDigits 2 i.natAbs = ds at hT ⊢
  refine wpAny_bind (m := mkStr _) (wpAny_mkStr (wpAny_pure ?_) ?hs)
  case hs => exact hT (fun _ x => x.length ≤ sizeLine) hz
  dsimp only
  refine wpAny_bind (wpAny_isInstance (typeIs_str _ _ _) isSubtype_str_str (wpAny_pure ?_))
  exact hT (fun _ x => Q (.str x _) _) (h _ _)
end
end PySem
namespace L2
open PySem PySem.Spec PyProof.Rows
section
variable {X : Cx}
/-- {i:b} -/
def tFmtZ (te : TE) : TE := fun σ H Q => te σ H fun x H1 => ∃ i : Int, x = .int i ∧ (binTextZ i).length ≤ sizeLine ∧ Q (.str (binTextZ i)) H1
theorem pe_fmtZ {e : Expr} {te : TE} {k : Nat} {p1 p2 pos : Pos} (he : PE X e te) : PE X (.FormattedValue e (-1) (some (.JoinedStr [.Constant (.str "b") k p1] p2)) pos) (tFmtZ te) := by
  refine ⟨fun pins s σ H Q I h => ?_⟩
  refine wpAny_FormattedValue_spec (thn (he.run pins s σ H _ I h) fun v s1 ⟨x, H1, I1, r1, i, ex, hz, q⟩ => ?_)
  subst ex
  obtain ⟨t, rfl⟩ := r1
  refine wpAny_JoinedStr_one (Calls.Constant_str ⟨"b", _, rfl, ?_⟩)
  exact fmt_binZ hz fun tk u => ⟨.str (binTextZ i), H1, I1.tok _, ⟨_, rfl⟩, q⟩
end
end L2
namespace PL
open PySem L2
def fFmtZ (fa : FE) : FE := fun env Q => fa env fun x env1 => match x with
  | .int i => (binTextZ i).length ≤ sizeLine ∧ Q (.str (binTextZ i)) env1
  | _ => False
instance {S : Sit} {ta : TE} {fa : FE} [ha : PureE S ta fa] : PureE S (tFmtZ ta) (fFmtZ fa) := ⟨fun R q k => ha.snd R q fun v x env1 H1 O1 R1 L1 r1 q1 => by
  cases x with
  | int i => exact ⟨i, r1, q1.1, k _ (.str _) env1 H1 O1 R1 L1 (rfl : V.str _ = V.str _) q1.2⟩
  | _ => exact q1.elim⟩
end PL

set_option Elab.async false
set_option linter.all false
set_option maxRecDepth 100000
set_option maxHeartbeats 4000000
/-! two clauses over values -/
namespace PL
open PySem L2
theorem plc2_map {g : FG} {t : FT} {fi1 : FI} {g1 : FG} {t1 : FT} {e : FE} {vs vs1 : List Nat} {Q : List PV → PEnv → Prop} (ys : PV → List PV) (h : PV → PV → PV) (envI : PV → PEnv) {env : PEnv} : ∀ {xs acc : List PV},
    (∀ x ∈ xs, ∀ (K : List PV → PEnv → Prop) (K' : PEnv → Prop), K (ys x) (envI x) → g x env fun env1 => t env1 fun b env2 => if b = true then fi1 env2 fun zs env3 => K zs (wipeE env3 vs1) else K' (wipeE env2 vs)) →
    (∀ x ∈ xs, wipeE (envI x) vs = env) →
    (∀ x ∈ xs, ∀ y ∈ ys x, ∀ (K : PV → PEnv → Prop) (K' : PEnv → Prop), K (h x y) (envI x) → g1 y (envI x) fun env1 => t1 env1 fun b env2 => if b = true then e env2 fun z env3 => K z (wipeE env3 vs1) else K' (wipeE env2 vs1)) →
    acc.length + (xs.map fun x => (ys x).length).sum ≤ sizeLine → Q (acc ++ xs.flatMap fun x => (ys x).map (h x)) env → plc2 g t fi1 g1 t1 e vs vs1 Q xs acc env
  | [], acc, _, _, _, _, q => by show Q acc env; simpa using q
  | x :: xs, acc, t0, hw, ti, hB, q => by
    have hB' : acc.length + ((ys x).length + (xs.map fun x => (ys x).length).sum) ≤ sizeLine := by simpa using hB
    refine t0 x (List.mem_cons_self ..) (fun zs env' => acc.length + zs.length ≤ sizeLine ∧ plc g1 t1 e vs1 (fun acc2 env4 => plc2 g t fi1 g1 t1 e vs vs1 Q xs acc2 (wipeE env4 vs)) zs acc env') (fun env' => plc2 g t fi1 g1 t1 e vs vs1 Q xs acc env') ⟨by omega, ?_⟩
    refine plc_map (h x) (ti x (List.mem_cons_self ..)) ?_
    rw [hw x (List.mem_cons_self ..)]
    exact plc2_map ys h envI (xs := xs) (fun z hz => t0 z (List.mem_cons_of_mem _ hz)) (fun z hz => hw z (List.mem_cons_of_mem _ hz)) (fun z hz => ti z (List.mem_cons_of_mem _ hz)) (by simp; omega) (by simpa using q)
theorem rangeP_mem {lo : Int} {n : Nat} {x : PV} (h : x ∈ rangeP lo n) : ∃ i : Nat, i < n ∧ x = .int (lo + (i : Nat)) := by
  obtain ⟨i, hi, rfl⟩ := List.mem_map.mp h
  exact ⟨i, List.mem_range.mp hi, rfl⟩
theorem rangeP_at {lo : Int} {n i : Nat} {x : PV} (h : (rangeP lo n)[i]? = some x) : i < n ∧ x = .int (lo + (i : Nat)) := by
  unfold rangeP at h
  rw [List.getElem?_map] at h
  obtain ⟨hi, _⟩ := List.getElem?_eq_some_iff.mp (Option.map_eq_some_iff.mp h).choose_spec.1
  rw [List.length_range] at hi
  rw [List.getElem?_range hi] at h
  exact ⟨hi, (Option.some.inj h).symm⟩
theorem rangeC_at {lo c : Int} {n i : Nat} {x : PV} (h : (rangeC lo c n)[i]? = some x) : i < n ∧ x = .int (lo + (i : Nat) * c) := by
  unfold rangeC at h
  rw [List.getElem?_map] at h
  obtain ⟨hi, _⟩ := List.getElem?_eq_some_iff.mp (Option.map_eq_some_iff.mp h).choose_spec.1
  rw [List.length_range] at hi
  rw [List.getElem?_range hi] at h
  exact ⟨hi, (Option.some.inj h).symm⟩
theorem rangeP_len (lo : Int) (n : Nat) : (rangeP lo n).length = n := by simp [rangeP]
theorem rangeC_len (lo c : Int) (n : Nat) : (rangeC lo c n).length = n := by simp [rangeC]
end PL

set_option Elab.async false
set_option linter.all false
set_option maxRecDepth 100000
set_option maxHeartbeats 4000000
/-! the less and the greater of two, like data, what one slot knows handed to another -/
namespace PL
open PySem L2
section
variable {S : Sit}
def fTwoI (h : Int → Int → Int) : List PV → (PV → Prop) → Prop := fun xs Q => match xs with
  | [.int i, .int j] => Q (.int (h i j))
  | _ => False
instance {h : Int → Int → Int} : CallP S (fun xs H Q => ∃ i j, xs = [V.int i, V.int j] ∧ Q (V.int (h i j)) H) (fTwoI h) := ⟨fun {O H vs xs Q Qp} _ r q k => by
  unfold fTwoI at q
  match xs, vs, r, q with
  | [.int a, .int b], [v, w], r, q => exact ⟨a, b, by rw [show v = V.int a from r.1, show w = V.int b from r.2.1], k _ (.int _) H (.refl _) (show V.int _ = V.int _ from rfl) q⟩⟩
def fEqD (neg : Bool) : PV → PV → (PV → Prop) → Prop := fun x y Q => x.isDat = true ∧ y.isDat = true ∧ SeqAt.shaped x.dat = true ∧ SeqAt.shaped y.dat = true ∧ Q (.bl (if neg then !PyData.eqv x.dat y.dat else PyData.eqv x.dat y.dat))
instance {K : PySem.W.Frag} : R2P S (rEqD K) (fEqD false) := ⟨fun {O H v w x y Q Qp} _ r1 r2 ⟨a, b, c, d, q⟩ k => ⟨_, _, dat_dp x v r1 a, dat_dp y w r2 b, c, d, k _ (.bl _) H (.refl _) (show V.bl _ = V.bl _ from rfl) q⟩⟩
instance {K : PySem.W.Frag} : R2P S (rNeD K) (fEqD true) := ⟨fun {O H v w x y Q Qp} _ r1 r2 ⟨a, b, c, d, q⟩ k => ⟨_, _, dat_dp x v r1 a, dat_dp y w r2 b, c, d, k _ (.bl _) H (.refl _) (show V.bl _ = V.bl _ from rfl) q⟩⟩
theorem Rel.forget {O : Addr → Prop} {env : PEnv} {σ : St} {H : Hp} (R : Rel S O env σ H) (j : Nat) : Rel S O (env.set j none) σ H := by
  have key : ∀ (i : Nat) (sv : SV), (env.set j none)[i]? = some (some sv) → i ≠ j ∧ env[i]? = some (some sv) := fun i sv e => by
    by_cases h : j = i
    · subst h
      have hi : j < env.length := by
        have := (List.getElem?_eq_some_iff.mp e).1
        rw [List.length_set] at this; exact this
      rw [List.getElem?_set_self hi] at e
      cases e
    · rw [List.getElem?_set_ne h] at e
      exact ⟨fun z => h z.symm, e⟩
  exact ⟨R.ok, R.fr, R.o0, R.oH, fun i sv e => R.slot i sv (key i sv e).2, fun i k sv sw l hik e1 e2 => R.apart i k sv sw l hik (key i sv e1).2 (key k sw e2).2, by rw [List.length_set]; exact R.len⟩
theorem forget_own {env : PEnv} {j : Nat} (i : Nat) (sv : SV) (e : (env.set j none)[i]? = some (some sv)) : i ≠ j ∧ env[i]? = some (some sv) := by
  by_cases h : j = i
  · subst h
    have hi : j < env.length := by
      have := (List.getElem?_eq_some_iff.mp e).1
      rw [List.length_set] at this; exact this
    rw [List.getElem?_set_self hi] at e
    cases e
  · rw [List.getElem?_set_ne h] at e
    exact ⟨fun z => h z.symm, e⟩
/-- x = y, and y is not asked for again -/
def tMv (i j : Nat) : TS := tAsg (tVar j) (gName i)
def fMv (i j : Nat) : FS := fun D env => ∃ sv, env[j]? = some (some sv) ∧ sv.own = true ∧ D.nx ((env.set j none).set i (some sv))
instance {i j : Nat} : PureS S (tMv i j) (fMv i j) := ⟨fun {O env σ H D De} R q k _ _ _ => by
  obtain ⟨sv, e, ho, q⟩ := q
  obtain ⟨v, h1, h2⟩ := R.slot j sv e
  obtain ⟨l, rfl, a1, a2, a3⟩ := h2.of ho
  exact ⟨_, h1, k _ _ _ _ ((R.forget j).put h2 (fun _ i' sw e1 w => let ⟨n, e2⟩ := forget_own i' sw e1; fun z => R.apart j i' sv sw l (fun z => n z.symm) e e2 ho w h1 z) i) (.refl _) q⟩⟩
end
end PL
namespace L2
open PySem PySem.W PL
theorem ps_mv {X : Cx} {pos : Pos} {i j : Nat} {x : Str} {e : Expr} {pos' : Pos} (hN : X.N.Nodup) (hi : X.N[i]? = some x) (hx : Loc X.env.scope x) (he : PE X e (tVar j)) (hs : swapsWith e (some (.Name x pos')) pos.line X.env = pure false := by rfl) (hf : X.fn x = true ∨ X.env.scope.names.lookup x = some .local := by first | exact .inl rfl | exact .inr rfl | assumption) :
    PS X (.Assign [.Name x pos'] e pos) (tMv i j) := ps_set hN hi hx he hs hf
end L2

set_option Elab.async false
set_option linter.all false
set_option maxRecDepth 100000
set_option maxHeartbeats 4000000
/-! isinstance with one class; what is never come to -/
namespace PL
open PySem L2
/-- the class of a value -/
def PV.ty : PV → Option String
  | .non => some "NoneType"
  | .bl _ => some "bool"
  | .int _ => some "int"
  | .str _ => some "str"
  | .tup _ => some "tuple"
  | .lst _ => some "list"
  | _ => none
section
variable {S : Sit}
def fIsi (T : String) (f : FE) : FE := fun env Q => f env fun x env1 => ∃ n b, x.ty = some n ∧ kitB n T = some b ∧ Q (.bl b) env1
theorem ty_rep {K : PySem.W.Frag} {O : Addr → Prop} {H : Hp} {x : PV} {v : V} {n : String} (r : Rep (fz O H) x v) (e : x.ty = some n) : TyX K H v (.type n) := by
  cases x with
  | non => cases e; rw [show v = V.non from r]; exact .base .non
  | bl b => cases e; rw [show v = V.bl b from r]; exact .base (.bl b)
  | int b => cases e; rw [show v = V.int b from r]; exact .base (.int b)
  | str b => cases e; rw [show v = V.str b from r]; exact .base (.str b)
  | tup xs => cases e; obtain ⟨a, vs, rfl, f, _⟩ := r; exact .base (.tup f.2.tup)
  | lst xs => cases e; obtain ⟨a, vs, rfl, f, _⟩ := r; exact .base (.lst f.2.lst)
  | _ => cases e
instance {K : PySem.W.Frag} {T : String} {t : TE} {f : FE} [h : PureE S t f] : PureE S (tCB (rIsi K) (tCons t (tCons (tC (.ty T)) tNil))) (fIsi T f) := ⟨fun R q k =>
  h.snd R q fun v x env1 H1 O1 R1 L1 r1 q1 => by
    obtain ⟨n, b, e1, e2, q1⟩ := q1
    exact ⟨v, .ty T, .type n, .type T, b, rfl, .ty T, ty_rep r1 e1, kit_ty e2, k _ (.bl b) env1 H1 O1 R1 L1 (show V.bl b = V.bl b from rfl) q1⟩⟩
end
end PL

set_option Elab.async false
set_option linter.all false
set_option maxRecDepth 100000
set_option maxHeartbeats 4000000
/-! instances are made; tuple(xs) -/
namespace PL
open PySem L2
section
variable {S : Sit}
class MkP (S : Sit) (C : Addr) (sp : Sp) (dvs : List V) (E : XK) (f : outParam (List PV → (PV → Prop) → Prop)) : Prop where
  snd : ∀ {O : Addr → Prop} {env : PEnv} {σ : St} {H : Hp} {vs : List V} {xs : List PV} {Q : VK} {Qp : PV → Prop}, Rel S O env σ H → Reps (fz O H) xs vs → f xs Qp →
    (∀ v z H', Same H H' → Rep (fz O H') z v → Qp z → Q v H') → ∀ x dx, H x = none → H dx = none → dx ≠ x → sp (.ref x :: (vs ++ dvs)) (upd (upd H dx (.own x)) x (.ins C dx [])) (fun v H2 => v = .non ∧ Q (.ref x) H2) E
def fMake (f : List PV → (PV → Prop) → Prop) (fa : FA) : FE := fun env Q => fa env fun xs env1 => f xs fun z => Q z env1
instance {C : Addr} {sp : Sp} {dvs : List V} {E : XK} {f} {t : TA} {fa : FA} [hs : MkP S C sp dvs E f] [ha : PureA S t fa] : PureE S (tMake C sp dvs E t) (fMake f fa) := ⟨fun R q k =>
  ha.snd R q fun vs xs env1 H1 O1 R1 L1 r1 q1 => hs.snd R1 r1 q1 fun v z H2 s r2 q2 => k v z env1 H2 O1 (R1.same s) (L1.trans (.same s)) r2 q2⟩
end
end PL

namespace PL
open PySem L2
/-- of a def that could raise, and here does not -/
theorem passE0 {P : Program} {w : World} {X : Cx} : Passes (L2.CX P w) X E0 := fun _ _ _ _ _ _ _ h => by
  obtain ⟨_, _, _, _, _, _, _, _, _, _, _, _, h⟩ := h
  exact False.elim h
end PL

set_option Elab.async false
set_option linter.all false
set_option maxRecDepth 100000
set_option maxHeartbeats 4000000
/-! a rest that is walked by hand -/
namespace PL
open PySem L2
def tOpq (t : TS) : TS := t
def fOpq (S : Sit) (t : TS) : FS := fun De env => ∀ (O : Addr → Prop) (σ : St) (H : Hp) (D : Ends), Rel S O env σ H →
  (∀ env' σ' H' O', Rel S O' env' σ' H' → Le (fzr O H) (fzr O' H') → De.nx env' → D.nx σ' H') → (∀ v x H' O', S.Fr H' → Le (fzr O H) (fzr O' H') → Rep (fz S.O0 H') x v → De.rt x → D.rt v H') → t D σ H
instance {S : Sit} {t : TS} : PureS S (tOpq t) (fOpq S t) := ⟨fun {O env σ H D De} R q k kr _ _ => q O σ H D R (fun e s h o r l => k e s h o r l) (fun v x h o f l => kr v x h o f l)⟩
theorem def_end3 (K : PySem.W.Frag) {N : List Str} {t : TS} {f : List PV → (PV → Prop) → (Addr → List (Str × PV) → Prop) → Prop} {vs : List V} {H : Hp} {Q : VK} {E : XK} (h : spP f vs H Q E)
    (k : ∀ (S : Sit) xs Qp, S.K = K → S.H0 = H → (∀ a, ¬ S.D a) → EIs S E → f xs Qp S.Ep → ∃ fs, PureS S t fs ∧ fs { nx := fun _ => Qp .non, rt := Qp } (startP N.length xs)) : t { nx := fun _ H' => Q .non H', rt := Q } (L2.start N vs) H := by
  obtain ⟨O, xs, Qp, Ep, oh, r, q, kq, ke⟩ := h
  have R := rel_start (K := K) (N := N) oh r ke
  obtain ⟨fs, i, z⟩ := k ⟨K, H, O, fun _ => False, fun _ => True, E, Ep⟩ xs Qp rfl rfl (fun _ z => z) ⟨rfl⟩ q
  exact i.snd R z (fun env' σ' H' O' R' _ q' => kq _ .non H' (fun a o e => R'.fr.same a o (fun z => z) e) (rfl : V.non = V.non) q') (fun v x H' _ fr _ r' q' => kq v x H' (fun a o e => fr.same a o (fun z => z) e) r' q') (fun _ _ _ _ _ _ z => z.elim) (fun _ _ _ _ _ _ z => z.elim)
end PL
namespace L2
open PySem PL
theorem pss_opq {X : Cx} {ss : List Stmt} {t : TS} (h : PSs X ss t) : PSs X ss (tOpq t) := h
end L2

set_option Elab.async false
set_option linter.all false
set_option maxRecDepth 100000
set_option maxHeartbeats 4000000
/-! lambdas handed to a def, told by values: just the table of the def's code object changes -/
namespace XV
open PySem PySem.Spec PyProof.Rows L2 LamX
/-- all but what is at P -/
def OffP (P : Addr) (H H' : Hp) : Prop := (∀ b o, b ≠ P → H b = some o → H' b = some o) ∧ ∃ ps, H' P = some (.tbl ps)
section
variable {X : Cx} {pins : List (Addr × Obj)} {σ : L2.St} {H : Hp} {s : Shared}
theorem lam_makeP {T : List (Addr × Str)} {c P : Addr} {pa : Arguments} {bd : Expr} {sc : Scope} {pos : Pos} {E Q : Value → Shared → Prop} (I : Inv X pins σ H s) (TB : TabB X.base X.mg c P) (hcode : X.env.code = .ref c)
    (hm : (P, X.env.qual ++ "<lambda>") ∈ T) (hu : ∀ p ∈ T, p.1 = P → p.2 = X.env.qual ++ "<lambda>") (hT : Tabs T H) (hdef : defaultsOf pa X.env = ([], [])) (hfree : ∀ y ∈ sc.names, y.2 = .free → ∃ c, X.env.cells.lookup y.1 = some c)
    (h : ∀ (f c' : Addr) (pm ctv : Value) (H1 : Hp) (s' : Shared), Inv X pins σ H1 s' → OffP P H H1 → Tabs T H1 →
      s'.heap.get? f = some (PySem.W.kla_obj "<lambda>" (X.env.qual ++ "<lambda>") pa bd sc (cloFrom X.env.cells sc.names []) pm c' ctv) → H1 f = none → f ∉ frs X.stack → H1 c' = some (CodeO c' (X.env.qual ++ "<lambda>")) → Q (.ref f) s') :
    wpAny (model X.prog X.w) X.A (eval (.Lambda pa bd sc pos) X.env) Q E s := by
  obtain ⟨tb, atP, tri, told⟩ := hT _ hm
  have gP : s.heap.get? P = some { cls := .none, data := .fields tb } := I.hok P _ atP
  have far : ∀ f, s.heap.objs.size ≤ f → f ∉ frs X.stack := fun f big z => (List.mem_cons.mp (I.stkSub _ z)).elim
    (fun e => absurd (Nat.lt_of_lt_of_le (e ▸ I.lt) big) (Nat.lt_irrefl _)) (fun e => I.nofs big e)
  refine PySem.W.kla_eval hdef ?_
  cases cod : codeAmong pos tb.toList with
  | some cv =>
    obtain ⟨d, rfl, dO⟩ := told pos cv cod
    refine PySem.W.kla_makeFunctionHit (mg := X.mg) (c := c) (P := P) (ps := tb) (closure_ok hfree) I.ok.glob (I.mod.glob.keeps I.bk) hcode (TB.code.keeps I.bk) gP tri cod (TB.bm.keeps I.bk) fun ctv g tk grow big => ?_
    exact h g.objs.size d _ ctv H _ (I.kept (t' := tk) fun b o e => Heap.get?_push_of_some (h := g) _ (grow b o e)) ⟨fun _ _ _ e => e, _, atP⟩ hT (Heap.get?_push_size _ rfl) (I.hok.fresh big) (far _ big) dO
  | none =>
    refine PySem.W.kla_makeFunction (mg := X.mg) (c := c) (P := P) (ps := tb) (closure_ok hfree) I.ok.glob (I.mod.glob.keeps I.bk) hcode (TB.code.keeps I.bk) gP tri cod TB.gP (TB.bm.keeps I.bk) fun d ctv g tk grow big less ⟨d2, oc, vs, t, ed, goc, gd, gv⟩ gtb => ?_
    cases ed
    have nd : H d = none := I.hok.fresh big
    have bigger : s.heap.objs.size ≤ g.objs.size := Nat.le_trans big (Nat.le_of_lt less)
    have Pd : P ≠ d := ne_of_none atP nd
    have J := inv_table (t' := tk) (more := #[rawInt pos.line, rawInt pos.col, .ref d]) (h' := g.push (PySem.W.kla_obj "<lambda>" (X.env.qual ++ "<lambda>") pa bd sc (cloFrom X.env.cells sc.names []) ((X.mg "__name__").getD .none) d ctv)) I atP
      (fun b o n e => Heap.get?_push_of_some _ (grow b o n e)) (Heap.get?_push_of_some _ gtb) big ⟨oc, vs, t, Heap.get?_push_of_some _ goc, gd, gv⟩
    have stays : ∀ b o, b ≠ P → H b = some o → upd (upd H P (.tbl (tb ++ #[rawInt pos.line, rawInt pos.col, .ref d]))) d (CodeO d (X.env.qual ++ "<lambda>")) b = some o := fun b o n e => by
      rw [upd_ne (ne_of_none e nd), upd_ne n]; exact e
    have nowP : upd (upd H P (.tbl (tb ++ #[rawInt pos.line, rawInt pos.col, .ref d]))) d (CodeO d (X.env.qual ++ "<lambda>")) P = some (.tbl (tb ++ #[rawInt pos.line, rawInt pos.col, .ref d])) := by rw [upd_ne Pd, upd_same]
    have codes : ∀ c0 q0, H c0 = some (CodeO c0 q0) → upd (upd H P (.tbl (tb ++ #[rawInt pos.line, rawInt pos.col, .ref d]))) d (CodeO d (X.env.qual ++ "<lambda>")) c0 = some (CodeO c0 q0) := fun c0 q0 e =>
      stays c0 _ (fun z => by subst z; rw [atP] at e; exact codeO_ne _ (Option.some.inj e).symm) e
    have toL : (tb ++ #[rawInt pos.line, rawInt pos.col, .ref d]).toList = tb.toList ++ [rawInt pos.line, rawInt pos.col, .ref d] := by simp
    refine h g.objs.size d _ ctv _ _ J ⟨stays, _, nowP⟩ (fun p hp => ?_) (Heap.get?_push_size _ rfl) (by rw [upd_ne (Nat.ne_of_gt less), upd_ne (Nat.ne_of_gt (Nat.lt_of_lt_of_le (Heap.lt_size gP) bigger))]; exact I.hok.fresh bigger) (far _ bigger) upd_same
    by_cases same : p.1 = P
    · rw [hu p hp same, same]
      refine ⟨_, nowP, by rw [toL]; exact PySem.TriplesOk_snoc _ _ _ _ tri, fun p' cv z => ?_⟩
      rw [toL] at z
      rcases among_app _ tri z with old | new
      · obtain ⟨c0, e1, e2⟩ := told p' cv old
        exact ⟨c0, e1, codes _ _ e2⟩
      · exact ⟨d, new, upd_same⟩
    · obtain ⟨tb2, b1, b2, b3⟩ := hT p hp
      exact ⟨tb2, stays _ _ same b1, b2, fun p' cv z => let ⟨c0, e1, e2⟩ := b3 p' cv z; ⟨c0, e1, codes _ _ e2⟩⟩
end
/-- a lambda handed to a def: P's table changes, then TT -/
def tLamP (P : Addr) (T : List (Addr × Str)) (TT : (XK → Hp → VK → Prop) → Hp → VK → Prop) (t : XK → TE) : TE := fun σ H Q => Tabs T H ∧ ∀ H1, OffP P H H1 → Tabs T H1 → TT (fun E H' Q' => t E σ H' Q') H1 Q
section
variable {X : Cx}
theorem pe_lamcallP {T : List (Addr × Str)} {TT : (XK → Hp → VK → Prop) → Hp → VK → Prop} {x a : Str} {g c P : Addr} {k : Nat} {st : Stmt} {fd : FuncData} {Ng : List Str}
    {pa : Arguments} {bd : Expr} {sc : Scope} {t : XK → TE} {p lpos pos : Pos} (F : L2.Fun X.K x x st g fd) (hg : Gl X x) (hm : X.mg x = some (.ref g)) (hb : L2.Binds X.K fd [a] []) (Sg : FnScope Ng [a] (defScope st)) (hNg : Ng[0]? = some a) (hva : Vis (defScope st) a)
    (hG : ∀ cdv, GivesS X Ng x (defScope st) g cdv (defBody st) a (X.env.qual ++ "<lambda>") TT)
    (TB : TabB X.base X.mg c P) (hcode : X.env.code = .ref c) (hmT : (P, X.env.qual ++ "<lambda>") ∈ T) (hu : ∀ p ∈ T, p.1 = P → p.2 = X.env.qual ++ "<lambda>") (hr : Room (k + 2) X.A) (L : LamS X.env.scope sc) (hdef : defaultsOf pa X.env = ([], []))
    (hbi : ∀ (q : Str) (cl : List (Str × Addr)) (pm cv ctv : Value), bindArgs (PySem.W.kla_fn "<lambda>" q pa bd sc cl pm cv ctv) ⟨[], []⟩ = pure [])
    (hbo : ∀ (A : Around) (outer : List Env) (s : Shared) (H : Hp) (E : XK) (f c' : Addr), Room k (A.deeper (lamEnv X sc s.heap.objs.size f c')) → PE (lamCx X A outer s H E sc f c') bd (t E))
    (hdb : (x == ("__debug__" : Str)) = false := by decide) (hd : (a == ("__debug__" : Str)) = false := by decide) (hcd : (a == ("__classdict__" : Str)) = false := by decide) :
    PE X (.Call (.Name x p) [.Lambda pa bd sc lpos] [] pos) (tLamP P T TT t) := by
  obtain ⟨oc, od, kV, doc, pm, an, cdv, ct, osl, rfl, lk, hcg⟩ := F.ex
  refine ⟨fun pins s σ H Q I ⟨hT, h⟩ => wpAny_Call_Name_kw (ld_glob I hg hm (PySem.W.callWith_K (h₀ := X.base) I.ok.mod.kin F.kp ?_ (by rfl) (by rfl)) hdb)⟩
  show wpAny _ _ (spliced ((false, eval (.Lambda pa bd sc lpos) X.env) :: backTo pos (starEach [] X.env))) _ _ s
  refine Calls.spliced_cons (lam_makeP I TB hcode hmT hu hT hdef (L.has I.ok) fun f c' pm' ctv H1 s' I1 off T1 hf hfn hfr hco => Calls.spliced_nil ⟨I1.kIn, ?_⟩)
  refine wpAny_call (codeAny_mono (R := CR C8.CX0 X.stack X.prog X.w H1 s' Q C8.E0) (run_ofS (N := Ng) (ps := [a]) (us := [.ref f]) (vs := [.ref f]) lk hcg Sg hr I1.env0 (hb s' [.ref f] I1.kIn rfl) (.cons rfl .nil) rfl fun hr' => by
      obtain ⟨t', ht', hq'⟩ := hG cdv f c' s' H1 Q (fun E H' Q' => t E σ H' Q') (fun W pn xe p1 p2 tk => pe_actS (i := 0) I1 L hf hfn hfr (hbi _ _ _ _ _) tk hr' (fun A outer s H E hr2 => hbo A outer s H E f c' hr2) hNg hva hd hcd) hco (h H1 off T1)
      exact ⟨t', ht'.nox, hq'⟩) fun r s2 hq => ?_)
  match r, hq with
  | .ok (.ret u), hq => exact I1.after hq
  | .ok .next, hq => exact hq.elim
  | .ok .brk, hq => exact hq.elim
  | .ok .cont, hq => exact hq.elim
  | .error e, hq => exact hq.elim
end
end XV

set_option Elab.async false
set_option linter.all false
set_option maxRecDepth 100000
set_option maxHeartbeats 4000000
/-! a def that makes lambdas, told by values -/
namespace PL
open PySem L2 LamX XV
abbrev Tbs := List (Addr × Str)
def DT (T : Tbs) (a : Addr) : Prop := ∃ p ∈ T, p.1 = a
theorem dt_tbl {T : Tbs} {H : Hp} (t : Tabs T H) {a : Addr} (d : DT T a) : ∃ ps, H a = some (.tbl ps) := by
  obtain ⟨p, hp, rfl⟩ := d
  obtain ⟨ps, h, _⟩ := t p hp
  exact ⟨ps, h⟩
/-- all but T's tables -/
def OffT (T : Tbs) (H H' : Hp) : Prop := ∀ a o, ¬ DT T a → H a = some o → H' a = some o
/-- what a value is made of is no table -/
def rk : HO → Prop
  | .tbl _ => False
  | _ => True
mutual
theorem Rep.monoR {F G : Fz} (h : ∀ a o, rk o → F a o → G a o) : ∀ (x : PV) (v : V), Rep F x v → Rep G x v
  | .non, v, r => r
  | .bl b, v, r => r
  | .int i, v, r => r
  | .str x, v, r => r
  | .raw u, v, r => r
  | .tup xs, v, r => let ⟨a, vs, e, f, q⟩ := r; ⟨a, vs, e, h _ _ trivial f, Reps.monoR h xs vs q⟩
  | .lst xs, v, r => let ⟨a, vs, e, f, q⟩ := r; ⟨a, vs, e, h _ _ trivial f, Reps.monoR h xs vs q⟩
  | .dK ks xs, v, r => let ⟨a, vs, e, f, l, q⟩ := r; ⟨a, vs, e, h _ _ trivial f, l, Reps.monoR h xs vs q⟩
  | .dT ks xs, v, r => let ⟨a, vs, e, f, l, q⟩ := r; ⟨a, vs, e, h _ _ trivial f, l, Reps.monoR h xs vs q⟩
  | .ins C fs xs, v, r => let ⟨a, dx, vs, e, f, l, q⟩ := r; ⟨a, dx, vs, e, h _ _ trivial f, l, Reps.monoR h xs vs q⟩
theorem Reps.monoR {F G : Fz} (h : ∀ a o, rk o → F a o → G a o) : ∀ (xs : List PV) (vs : List V), Reps F xs vs → Reps G xs vs
  | [], [], _ => trivial
  | x :: xs, v :: vs, r => ⟨Rep.monoR h x v r.1, Reps.monoR h xs vs r.2⟩
  | [], _ :: _, r => r
  | _ :: _, [], r => r
end
theorem tbl_le {T : Tbs} {O : Addr → Prop} {H : Hp} (t : Tabs T H) (a : Addr) (o : HO) (k : rk o) (f : fz O H a o) : fz (fun a => O a ∨ DT T a) H a o :=
  ⟨fun z => z.elim f.1 (fun d => by
    obtain ⟨ps, e⟩ := dt_tbl t d
    rcases f.2 with ⟨h, _⟩ | ⟨_, od, h⟩
    · rw [e] at h; cases h; exact k
    · rw [e] at h; cases h), f.2⟩
class HasT (T : Tbs) (P : Addr) : Prop where
  h : DT T P
/-- S lets T's tables change -/
class TabsOf (S : Sit) (T : outParam Tbs) : Prop where
  d : S.D = DT T
  j : S.J = Tabs T
theorem tabs_jst {T : Tbs} (H H' : Hp) (t : Tabs T H) (e : ∀ a, DT T a → H' a = H a) (x : ∀ a φ, H a = some (.ext φ) → H' a = some (.ext φ)) : Tabs T H' := fun p hp => by
  obtain ⟨ps, h1, h2, h3⟩ := t p hp
  refine ⟨ps, (e _ ⟨p, hp, rfl⟩).trans h1, h2, fun pos cv hc => ?_⟩
  obtain ⟨c, e1, e2⟩ := h3 pos cv hc
  exact ⟨c, e1, x _ _ e2⟩
section
variable {S : Sit} {O : Addr → Prop} {env : PEnv} {σ : L2.St} {H H' : Hp} {T : Tbs}
theorem SRep.off {sv : SV} {v : V} (h : SRep S O H sv v) (z : ∀ a o, ¬ S.D a → H a = some o → H' a = some o) (ok : S.Ok) (dO : ∀ a, S.D a → O a) : SRep S O H' sv v := by
  have le : Le (fz O H) (fz O H') := fun a o ⟨n, q⟩ => ⟨n, q.elim (fun q => .inl ⟨z _ _ (fun d => n (dO _ d)) q.1, q.2⟩) fun ⟨d, od, q⟩ => .inr ⟨d, od, z _ _ (fun d => n (dO _ d)) q⟩⟩
  cases hb : sv.own with
  | true =>
    obtain ⟨l, rfl, a1, a2, a3⟩ := h.of hb
    exact .mk a1 a2 (a3.mono le fun o e => z _ _ (fun d => by
      obtain ⟨x, y⟩ := ok.oH l (ok.dO l d)
      rw [a2] at y; cases y) e)
  | false =>
    cases sv with
    | fr x => exact Rep.mono le _ _ h
    | ol xs => cases hb
    | oK ks xs => cases hb
    | oT ks xs => cases hb
/-- just T's tables have changed -/
theorem Rel.off [t : TabsOf S T] (R : Rel S O env σ H) (z : OffT T H H') (tb : Tabs T H') : Rel S O env σ H' ∧ Lt S σ O env H O env H' := by
  have z' : ∀ a o, ¬ S.D a → H a = some o → H' a = some o := fun a o n e => z a o (t.d ▸ n) e
  have dO : ∀ a, S.D a → O a := fun a d => R.o0 a (R.ok.dO a d)
  have at' : ∀ a o, H a = some o → ∃ o', H' a = some o' := fun a o e => by
    by_cases d : DT T a
    · obtain ⟨ps, h⟩ := dt_tbl tb d
      exact ⟨_, h⟩
    · exact ⟨o, z a o d e⟩
  refine ⟨⟨R.ok, ⟨fun a o n e => z' a o n (R.fr.same a o n e), fun a d => ?_, by rw [t.j]; exact tb⟩, R.o0, fun a h => ?_, fun i sv e => ?_, R.apart, R.len⟩, ⟨fun a o ⟨n, e⟩ => ⟨n, z' a o (fun d => n (dO a d)) e⟩, fun a o h1 h2 _ e => ⟨h1, z' a o (fun d => ?_) e⟩, fun i sv h1 h2 => ⟨sv, h1, h2⟩, at'⟩⟩
  · rw [t.d] at d
    obtain ⟨ps, h⟩ := dt_tbl tb d
    exact ⟨_, h, trivial⟩
  · by_cases d : DT T a
    · obtain ⟨ps, h'⟩ := dt_tbl tb d
      exact ⟨_, h', trivial⟩
    · obtain ⟨o, e, n⟩ := R.oH a h
      exact ⟨o, z a o d e, n⟩
  · obtain ⟨v, h1, h2⟩ := R.slot i sv e
    exact ⟨v, h1, h2.off z' R.ok dO⟩
  · obtain ⟨x, y⟩ := R.ok.oH a (R.ok.dO a d)
    rw [h2] at y; cases y
end
/-! ### lists are made to stand still -/
def frzAt (i : Nat) (env : PEnv) : PEnv := match env[i]? with
  | some (some (.ol xs)) => env.set i (some (.fr (.lst xs)))
  | _ => env
def frzN : Nat → PEnv → PEnv
  | 0, env => env
  | n + 1, env => frzAt n (frzN n env)
@[irreducible] def frzL (env : PEnv) : PEnv := frzN env.length env
section
variable {S : Sit} {O : Addr → Prop} {env : PEnv} {σ : L2.St} {H : Hp}
theorem Rel.frz1 (R : Rel S O env σ H) (i : Nat) : ∃ O', Rel S O' (frzAt i env) σ H ∧ Lt S σ O env H O' (frzAt i env) H := by
  unfold frzAt
  split
  · rename_i xs e
    obtain ⟨v, h1, h2⟩ := R.slot i _ e
    obtain ⟨l, rfl, _⟩ := h2.of rfl
    obtain ⟨R1, L1, _⟩ := R.freeze e rfl h1
    exact ⟨_, R1, L1⟩
  · exact ⟨O, R, .refl⟩
theorem Rel.frzN (R : Rel S O env σ H) : ∀ n, ∃ O', Rel S O' (PL.frzN n env) σ H ∧ Lt S σ O env H O' (PL.frzN n env) H
  | 0 => ⟨O, R, .refl⟩
  | n + 1 => by
    obtain ⟨O1, R1, L1⟩ := Rel.frzN R n
    obtain ⟨O2, R2, L2⟩ := R1.frz1 n
    exact ⟨O2, R2, L1.trans L2⟩
end
/-! ### the lambda's body -/
/-- what it sees: what stands still -/
def still : Option SV → Option SV
  | some (.fr x) => some (.fr x)
  | _ => none
def bodyE (env : PEnv) : PEnv := env.map still
theorem bodyE_at {env : PEnv} {i : Nat} {sv : SV} (h : (bodyE env)[i]? = some (some sv)) : ∃ x, sv = .fr x ∧ env[i]? = some (some (.fr x)) := by
  unfold bodyE at h
  rw [List.getElem?_map] at h
  cases e : env[i]? with
  | none => rw [e] at h; cases h
  | some o =>
    rw [e] at h
    match o, h with
    | some (.fr x), h => cases h; exact ⟨x, rfl, rfl⟩
abbrev lamS (K : PySem.W.Frag) (H : Hp) (O : Addr → Prop) (E : XK) (Ep : Addr → List (Str × PV) → Prop) : Sit := ⟨K, H, O, fun _ => False, fun _ => True, E, Ep⟩
theorem Rel.body {S : Sit} {O : Addr → Prop} {env : PEnv} {σ : L2.St} {H : Hp} (R : Rel S O env σ H) {K : PySem.W.Frag} {E : XK} {Ep : Addr → List (Str × PV) → Prop}
    (ke : ∀ C (fs : List Str) xs us d G, Same H G → G d = some (.xd (fs.zip us)) → fs.length = us.length → Reps (fz O G) xs us → Ep C (fs.zip xs) → E (.ref C) (some d) G) : Rel (lamS K H O E Ep) O (bodyE env) σ H := by
  refine ⟨⟨fun a h => let ⟨o, e, _⟩ := R.oH a h; ⟨o, e⟩, fun a h => h.elim, fun _ _ _ _ _ => trivial, fun C fs xs us d G fr e l r q => ke C fs xs us d G (fun a o z => fr.same a o (fun z => z) z) e l r q⟩, ⟨fun a o _ e => e, fun a h => h.elim, trivial⟩, fun a h => h, R.oH, fun i sv e => ?_, fun i j sv sw l hij e1 e2 w1 w2 => ?_, by unfold bodyE; rw [List.length_map]; exact R.len⟩
  · obtain ⟨x, rfl, e'⟩ := bodyE_at e
    obtain ⟨v, h1, h2⟩ := R.slot i _ e'
    exact ⟨v, h1, h2⟩
  · obtain ⟨x, rfl, _⟩ := bodyE_at e1
    cases w1
/-- what the def that gets the lambda makes of an error, of an answer -/
class TTP (TT : (XK → Hp → VK → Prop) → Hp → VK → Prop) (g : outParam (Addr → List (Str × PV) → (PV → Prop) → Prop)) (r : outParam (PV → (PV → Prop) → Prop)) : Prop where
  snd : ∀ {O : Addr → Prop} {tl : XK → Hp → VK → Prop} {H : Hp} {Q : VK} {Qp : PV → Prop}, OnH O H → (∀ v x H', Same H H' → Rep (fz O H') x v → Qp x → Q v H') →
    (∀ H1 (E : XK) (Qn : VK), Same H H1 → (∀ C (fs : List Str) xs us d G, Same H1 G → G d = some (.xd (fs.zip us)) → fs.length = us.length → Reps (fz O G) xs us → g C (fs.zip xs) Qp → E (.ref C) (some d) G) →
      (∀ v x G, Same H1 G → Rep (fz O G) x v → r x Qp → Qn v G) → tl E H1 Qn) → TT tl H Q
class PureX (K : PySem.W.Frag) (t : XK → TE) (f : outParam (Sit → FE)) : Prop where
  snd : ∀ S : Sit, S.K = K → PureE S (t S.E) (f S)
instance (priority := low) {K : PySem.W.Frag} {t : XK → TE} {f : Sit → FE} [h : ∀ S : Sit, PureE S (t S.E) (f S)] : PureX K t f := ⟨fun S _ => h S⟩
instance {S : Sit} : EIs S S.E := ⟨rfl⟩
def fLam (g : Addr → List (Str × PV) → (PV → Prop) → Prop) (r : PV → (PV → Prop) → Prop) (f : Sit → FE) : FE := fun env Q => ∀ S' : Sit, S'.Ep = (fun C fs => g C fs fun y => Q y (frzL env)) → f S' (bodyE (frzL env)) fun x _ => r x fun y => Q y (frzL env)
instance {S : Sit} {P : Addr} {T : Tbs} {TT t g r f} [ts : TabsOf S T] [hp : HasT T P] [ht : TTP TT g r] [hx : PureX S.K t f] : PureE S (tLamP P T TT t) (fLam g r f) := ⟨fun {O env σ H Q Qp} R q k => by
  obtain ⟨O1, R1, L1⟩ : ∃ O', Rel S O' (frzL env) σ H ∧ Lt S σ O env H O' (frzL env) H := by
    unfold frzL
    exact R.frzN env.length
  refine ⟨by have := R.fr.j; rw [ts.j] at this; exact this, fun H1 off tb => ?_⟩
  have oT : OffT T H H1 := fun a o n e => off.1 a o (fun z => n (z ▸ hp.h)) e
  obtain ⟨R2, L2⟩ := R1.off oT tb
  refine ht.snd (Qp := fun y => Qp y (frzL env)) R2.oH (fun v x H' s r' q' => k v x _ H' O1 (R2.same s) ((L1.trans L2).trans (.same s)) r' q') fun H3 E Qn s ke kn => ?_
  have R3 := (R2.same s).body (K := S.K) (E := E) (Ep := fun C fs => g C fs fun y => Qp y (frzL env)) (fun C fs xs us d G s' e l r' q' => ke C fs xs us d G s' e l r' q')
  refine (hx.snd (lamS S.K H3 O1 E _) rfl).snd R3 (q _ rfl) fun v x env' G O' R' L' r' q' => ?_
  exact kn v x G (fun a o e => R'.fr.same a o (fun z => z) e) (Rep.mono R'.ret _ _ r') q'⟩
/-! ### the law -/
/-- the script -/
def Scr (S : Sit) (a : Addr) (ns : List Int) : Prop := ∀ H, S.Fr H → SqL S.K H a (ns.map V.int)
def spLawT (K : PySem.W.Frag) (T : Tbs) : Sp := fun vs H Q _ => ∃ (a : Addr) (ns : List Int), vs = [.ref a] ∧ SqL K H a (ns.map V.int) ∧ ns.length ≤ 63 ∧ Tabs T H ∧ ∀ H', Q (.bl true) H'
theorem law_end (K : PySem.W.Frag) {N : List Str} {T : Tbs} {t : TS} {vs : List V} {H : Hp} {Q : VK} {E : XK} (h : spLawT K T vs H Q E)
    (k : ∀ (S : Sit) (a : Addr) (ns : List Int), S.K = K → TabsOf S T → EIs S E → Scr S a ns → ns.length ≤ 63 → ∃ fs, PureS S t fs ∧ fs { nx := fun _ => False, rt := fun x => x = .bl true } (startP N.length [.raw (.ref a)])) : t { nx := fun _ H' => Q .non H', rt := Q } (L2.start N vs) H := by
  obtain ⟨a, ns, rfl, hs, hl, tb, q⟩ := h
  have oh : OnH (DT T) H := fun a d => let ⟨ps, e⟩ := dt_tbl tb d; ⟨_, e, trivial⟩
  have R0 := rel_start (K := K) (N := N) (O := DT T) (xs := [.raw (.ref a)]) (vs := [.ref a]) (E := E) (Ep := fun _ _ => False) oh ⟨rfl, trivial⟩ fun _ _ _ _ _ _ _ _ _ _ z => z.elim
  have R : Rel ⟨K, H, DT T, DT T, Tabs T, E, fun _ _ => False⟩ (DT T) (startP N.length [.raw (.ref a)]) (L2.start N [.ref a]) H :=
    ⟨⟨R0.ok.oH, fun _ d => d, fun H H' t e x => tabs_jst H H' t e x, fun _ _ _ _ _ _ _ _ _ _ z => z.elim⟩, ⟨fun a o _ e => e, fun a d => oh a d, tb⟩, R0.o0, R0.oH, R0.slot, R0.apart, R0.len⟩
  obtain ⟨fs, i, z⟩ := k ⟨K, H, DT T, DT T, Tabs T, E, fun _ _ => False⟩ a ns rfl ⟨rfl, rfl⟩ ⟨rfl⟩ (fun H' fr => by
    rcases hs with r | c
    · have st : ∀ o, rk o → H a = some o → H' a = some o := fun o n e => fr.same a o (fun d => by
        obtain ⟨ps, e'⟩ := dt_tbl tb d
        rw [e] at e'; cases e'; exact n) e
      exact .inl (r.elim (fun e => .inl (st _ trivial e)) fun ⟨od, e⟩ => .inr ⟨od, st _ trivial e⟩)
    · exact .inr c) hl
  exact i.snd R z (fun _ _ _ _ _ _ q' => q'.elim) (fun v x H' O' fr _ r' q' => by subst q'; rw [show v = V.bl true from r']; exact q H') (fun _ _ _ _ _ _ z => z.elim) (fun _ _ _ _ _ _ z => z.elim)
end PL

set_option Elab.async false
set_option linter.all false
set_option maxRecDepth 100000
set_option maxHeartbeats 2000000
/-! repr of what is no list -/
namespace L2
open PySem PySem.Spec PyProof.Rows
section
variable {X : Cx}
theorem call_reprN : CallR X (.builtin "repr") (fun xs H Q => xs = [.non] ∧ Q (.str "None") H) := by
  intro pins s σ H xs us Q I r h
  obtain ⟨rfl, q⟩ := h
  obtain ⟨u, rfl, rfl⟩ := vals1 r
  exact PySem.P.repr_of_none ⟨.str _, H, I.tok _, ⟨_, rfl⟩, q⟩
theorem call_reprS : CallR X (.builtin "repr") (fun xs H Q => ∃ a, xs = [.str a] ∧ (reprText a).length ≤ sizeLine ∧ Q (.str (reprText a)) H) := by
  intro pins s σ H xs us Q I r h
  obtain ⟨a, rfl, hz, q⟩ := h
  obtain ⟨u, rfl, t, rfl⟩ := vals1 r
  exact PySem.P.repr_of_str ⟨.str _, H, I.tok _, ⟨_, rfl⟩, q⟩ hz
theorem call_reprBl : CallR X (.builtin "repr") (fun xs H Q => ∃ b : Bool, xs = [.bl b] ∧ Q (.str (if b then "True" else "False")) H) := by
  intro pins s σ H xs us Q I r h
  obtain ⟨b, rfl, q⟩ := h
  obtain ⟨u, rfl, rfl⟩ := vals1 r
  exact PySem.P.repr_of_bool ⟨.str _, H, I.tok _, ⟨_, rfl⟩, q⟩
/-- repr of None, a bool, an int, a text -/
def rReprF : List V → Hp → VK → Prop := fun xs H Q => (xs = [.non] ∧ Q (.str "None") H) ∨ (∃ b : Bool, xs = [.bl b] ∧ Q (.str (if b then "True" else "False")) H) ∨
  (∃ i, xs = [.int i] ∧ i.natAbs.log2 < 1920 ∧ Q (.str (toString i)) H) ∨ ∃ a, xs = [.str a] ∧ (reprText a).length ≤ sizeLine ∧ Q (.str (reprText a)) H
theorem call_reprF : CallR X (.builtin "repr") rReprF := by
  intro pins s σ H xs us Q I r h
  rcases h with h | h | h | h
  · exact call_reprN pins s σ H xs us Q I r h
  · exact call_reprBl pins s σ H xs us Q I r h
  · exact SkE.call_repr_int pins s σ H xs us Q I r h
  · exact call_reprS pins s σ H xs us Q I r h
end
end L2

set_option Elab.async false
set_option linter.all false
set_option maxRecDepth 100000
set_option maxHeartbeats 2000000
/-! repr of lists and tuples of data -/
namespace L2
open PySem PySem.Spec PyProof.Rows
section
variable {X : Cx}
theorem call_reprDp (hg : X.A.guards = some []) (hu : X.A.units + 64 < cLine) : CallR X (.builtin "repr") (fun xs H Q => ∃ (p : Addr) (d : PyData), xs = [.ref p] ∧ Dp X.K H (.ref p) d ∧ d.showable = true ∧ d.hasDict = false ∧ d.depth ≤ 60 ∧ d.shown.length ≤ sizeLine ∧ Q (.str d.shown) H) := by
  intro pins s σ H xs us Q I r h
  obtain ⟨p, d, rfl, hd, hs, hn, hp, hz, q⟩ := h
  obtain ⟨u, rfl, r1⟩ := vals1 r
  obtain ⟨as, rd⟩ := Dp.reads I d _ _ hd r1
  obtain rfl : u = Value.ref p := r1
  exact repr_of_reads' rd hs (fun z => by rw [hn] at z; cases z) hg (by omega) (fun _ _ h => h) (fun h' u tk k => ⟨.str d.shown, H, I.kept (t' := tk) k, ⟨u, rfl⟩, q⟩) hz
end
end L2

set_option Elab.async false
set_option linter.all false
set_option maxRecDepth 100000
set_option maxHeartbeats 4000000
/-! repr told by values -/
namespace PL
open PySem L2 LamX XV KR
/-- the text that repr tells of a value -/
def RepOf (K : PySem.W.Frag) (G : Hp) (u : V) (z : Str) : Prop := (u = .non ∧ z = "None") ∨ (∃ b : Bool, u = .bl b ∧ z = if b then "True" else "False") ∨ (∃ i : Int, u = .int i ∧ i.natAbs.log2 < 1920 ∧ z = toString i) ∨
  (∃ a, u = .str a ∧ (reprText a).length ≤ sizeLine ∧ z = reprText a) ∨ ∃ (p : Addr) (d : PyData), u = .ref p ∧ Dp K G (.ref p) d ∧ d.showable = true ∧ d.hasDict = false ∧ d.depth ≤ 60 ∧ d.shown.length ≤ sizeLine ∧ z = d.shown
def rReprA (K : PySem.W.Frag) : List V → Hp → VK → Prop := fun xs H Q => ∃ u z, xs = [u] ∧ RepOf K H u z ∧ Q (.str z) H
theorem call_reprA {X : Cx} {K : PySem.W.Frag} (hK : X.K = K) (hg : X.A.guards = some []) (hu : X.A.units + 64 < cLine) : CallR X (.builtin "repr") (rReprA K) := by
  subst hK
  intro pins s σ H xs us Q I r h
  obtain ⟨u, z, rfl, h, q⟩ := h
  rcases h with ⟨rfl, rfl⟩ | ⟨b, rfl, rfl⟩ | ⟨i, rfl, hi, rfl⟩ | ⟨a, rfl, ha, rfl⟩ | ⟨p, d, rfl, h1, h2, h3, h4, h5, rfl⟩
  · exact call_reprF pins s σ H _ us Q I r (.inl ⟨rfl, q⟩)
  · exact call_reprF pins s σ H _ us Q I r (.inr (.inl ⟨b, rfl, by cases b <;> exact q⟩))
  · exact call_reprF pins s σ H _ us Q I r (.inr (.inr (.inl ⟨i, rfl, hi, q⟩)))
  · exact call_reprF pins s σ H _ us Q I r (.inr (.inr (.inr ⟨a, rfl, ha, q⟩)))
  · exact call_reprDp hg hu pins s σ H _ us Q I r ⟨p, d, rfl, h1, h2, h3, h4, h5, q⟩
/-- repr of a value -/
def ReprP : PV → Str → Prop
  | .non, z => z = "None"
  | .bl b, z => z = if b then "True" else "False"
  | .int i, z => i.natAbs.log2 < 1920 ∧ z = toString i
  | .str a, z => (reprText a).length ≤ sizeLine ∧ z = reprText a
  | .lst xs, z => (PV.lst xs).isDat = true ∧ (PV.lst xs).dat.showable = true ∧ (PV.lst xs).dat.hasDict = false ∧ (PV.lst xs).dat.depth ≤ 60 ∧ (PV.lst xs).dat.shown.length ≤ sizeLine ∧ z = (PV.lst xs).dat.shown
  | .tup xs, z => (PV.tup xs).isDat = true ∧ (PV.tup xs).dat.showable = true ∧ (PV.tup xs).dat.hasDict = false ∧ (PV.tup xs).dat.depth ≤ 60 ∧ (PV.tup xs).dat.shown.length ≤ sizeLine ∧ z = (PV.tup xs).dat.shown
  | _, _ => False
theorem ReprP.of {K : PySem.W.Frag} {O : Addr → Prop} {G : Hp} {x : PV} {u : V} {z : Str} (r : Rep (fz O G) x u) (h : ReprP x z) : RepOf K G u z := by
  cases x with
  | non => exact .inl ⟨r, h⟩
  | bl b => exact .inr (.inl ⟨b, r, h⟩)
  | int i => exact .inr (.inr (.inl ⟨i, r, h.1, h.2⟩))
  | str a => exact .inr (.inr (.inr (.inl ⟨a, r, h.1, h.2⟩)))
  | lst xs =>
    obtain ⟨h1, h2, h3, h4, h5, h6⟩ := h
    have d := dat_dp (K := K) _ _ r h1
    obtain ⟨a, _, rfl, _⟩ := r
    exact .inr (.inr (.inr (.inr ⟨a, _, rfl, d, h2, h3, h4, h5, h6⟩)))
  | tup xs =>
    obtain ⟨h1, h2, h3, h4, h5, h6⟩ := h
    have d := dat_dp (K := K) _ _ r h1
    obtain ⟨a, _, rfl, _⟩ := r
    exact .inr (.inr (.inr (.inr ⟨a, _, rfl, d, h2, h3, h4, h5, h6⟩)))
  | raw u => exact h.elim
  | dK ks xs => exact h.elim
  | dT ks xs => exact h.elim
  | ins C fs xs => exact h.elim
def fRepr : List PV → (PV → Prop) → Prop := fun xs Q => one (fun x => ∃ z, ReprP x z ∧ Q (.str z)) xs
instance {S : Sit} {K : PySem.W.Frag} : CallP S (rReprA K) fRepr := ⟨fun {O H vs xs Q Qp} _ r q k => by
  obtain ⟨x, v, rfl, rfl, r1, z, hz, q⟩ := one_rep r q
  exact ⟨v, z, rfl, hz.of r1, k _ (.str z) H (.refl _) (show V.str z = V.str z from rfl) q⟩⟩
end PL

set_option Elab.async false
set_option linter.all false
set_option maxRecDepth 100000
set_option maxHeartbeats 4000000
/-! tuples of flat values, compared -/
namespace PL
open PySem L2
/-- none, a bool, an int, a good text -/
def okF : PV → Prop
  | .non => True
  | .bl _ => True
  | .int _ => True
  | .str a => PyData.strOk a = true
  | _ => False
theorem okF_one {x : PV} (h : okF x) : PyData.canLay0 x.dat = true ∧ x.dat.depth = 0 ∧ PyData.eqv x.dat x.dat = true ∧ x.isDat = true := by
  cases x with
  | non => exact ⟨rfl, rfl, rfl, rfl⟩
  | bl b => cases b <;> exact ⟨rfl, rfl, rfl, rfl⟩
  | int i => exact ⟨rfl, rfl, by show ((i : Int) == i) = true; exact beq_self_eq_true i, rfl⟩
  | str a =>
    refine ⟨?_, rfl, ?_, rfl⟩
    · show PyData.canLay0 (.str a) = true
      simp [PyData.canLay0, show PyData.strOk a = true from h]
    · show PyData.eqv (.str a) (.str a) = true
      simp [PyData.eqv]
  | raw u => exact h.elim
  | tup xs => exact h.elim
  | lst xs => exact h.elim
  | dK ks xs => exact h.elim
  | dT ks xs => exact h.elim
  | ins C fs xs => exact h.elim
theorem okF_all : ∀ {xs : List PV}, (∀ x ∈ xs, okF x) → PyData.canLayAll0 (dats xs) = true ∧ PyData.depthAll (dats xs) = 0 ∧ PyData.eqvAll (dats xs) (dats xs) = true ∧ allDat xs = true
  | [], _ => ⟨rfl, rfl, rfl, rfl⟩
  | x :: xs, h => by
    obtain ⟨a1, a2, a3, a4⟩ := okF_one (h x List.mem_cons_self)
    obtain ⟨b1, b2, b3, b4⟩ := okF_all (xs := xs) fun y hy => h y (List.mem_cons_of_mem _ hy)
    rw [dats_cons, allDat_cons]
    exact ⟨by simp [PyData.canLayAll0, a1, b1], by simp [PyData.depthAll, a2, b2], by simp [PyData.eqvAll, a3, b3], by rw [a4, b4]; rfl⟩
theorem shaped_of {d : PyData} (h1 : PyData.canLay0 d = true) (h2 : d.depth ≤ 1) : SeqAt.shaped d = true := by
  simp [SeqAt.shaped, h1]
  omega
theorem tup_ok {xs : List PV} (h : ∀ x ∈ xs, okF x) : (PV.tup xs).isDat = true ∧ SeqAt.shaped (PV.tup xs).dat = true ∧ PyData.eqv (PV.tup xs).dat (PV.tup xs).dat = true := by
  obtain ⟨b1, b2, b3, b4⟩ := okF_all h
  refine ⟨by rw [isDat_tup]; exact b4, ?_, by rw [dat_tup]; exact b3⟩
  rw [dat_tup]
  exact shaped_of (by simp [PyData.canLay0, b1]) (by simp [PyData.depth, b2])
/-- a tuple of flat values is no other than itself -/
theorem ne_self {xs : List PV} {P : PV → Prop} (h : ∀ x ∈ xs, okF x) (q : P (.bl false)) : fEqD true (.tup xs) (.tup xs) P := by
  obtain ⟨h1, h2, h3⟩ := tup_ok h
  refine ⟨h1, h1, h2, h2, ?_⟩
  rw [if_pos rfl, h3]
  exact q
theorem eq_self {xs : List PV} {P : PV → Prop} (h : ∀ x ∈ xs, okF x) (q : P (.bl true)) : fEqD false (.tup xs) (.tup xs) P := by
  obtain ⟨h1, h2, h3⟩ := tup_ok h
  refine ⟨h1, h1, h2, h2, ?_⟩
  rw [if_neg (by decide), h3]
  exact q
theorem ne_if {xs : List PV} {A B : Prop} (h : ∀ x ∈ xs, okF x) (q : B) : fEqD true (.tup xs) (.tup xs) fun z => match z with
    | .bl c => if c = true then A else B
    | _ => False := ne_self h (by show if false = true then A else B; rw [if_neg (by decide)]; exact q)
theorem ok3 {s : Str} {i j : Int} (h : PyData.strOk s = true) : ∀ x ∈ [PV.str s, .int i, .int j], okF x := by
  intro x hx
  simp only [List.mem_cons, List.not_mem_nil, or_false] at hx
  rcases hx with rfl | rfl | rfl
  · exact h
  · trivial
  · trivial
theorem ok2 {s : Str} {i : Int} (h : PyData.strOk s = true) : ∀ x ∈ [PV.str s, .int i], okF x := by
  intro x hx
  simp only [List.mem_cons, List.not_mem_nil, or_false] at hx
  rcases hx with rfl | rfl
  · exact h
  · trivial
theorem ok2s {s t : Str} (h : PyData.strOk s = true) (h' : PyData.strOk t = true) : ∀ x ∈ [PV.str s, .str t], okF x := by
  intro x hx
  simp only [List.mem_cons, List.not_mem_nil, or_false] at hx
  rcases hx with rfl | rfl
  · exact h
  · exact h'
end PL

set_option Elab.async false
set_option linter.all false
set_option maxRecDepth 100000
set_option maxHeartbeats 4000000
/-! __init__ of an own class, told by values; what is not reached -/
namespace PL
open PySem L2
/-- a promise that is never asked for -/
def spNo : Sp := fun _ _ _ _ => False
theorem fn_no {P : Program} {w : World} {K : PySem.W.Frag} {mg : Str → Option Value} {base : Heap} {CX : CXT} {k : Nat} {f : Addr} {fd : FuncData} {ps : List Str} : FnOk P w K mg base CX k f fd ps spNo :=
  ⟨fun _ _ _ _ h => h.elim, fun _ _ _ _ _ _ _ _ _ _ _ _ _ h => h.elim⟩
def fBot : FE := fun _ _ => False
def fBotS : FS := fun _ _ => False
/-- an expression, a statement that the def never comes to -/
def tBotE (t : TE) : TE := t
def tBotS (t : TS) : TS := t
instance {S : Sit} {t : TE} : PureE S (tBotE t) fBot := ⟨fun _ q _ => q.elim⟩
instance {S : Sit} {t : TS} : PureS S (tBotS t) fBotS := ⟨fun _ q _ _ _ _ => q.elim⟩
instance {S : Sit} {E : XK} : SpP S spNo E (fun _ _ => False) := ⟨fun _ _ q _ => q.elim⟩
/-- the new object at x aside -/
def OffX (x : Addr) (H H' : Hp) : Prop := ∀ a o, a ≠ x → H a = some o → H' a = some o
abbrev PInit := List PV → (List Str → List PV → Prop) → (Addr → List (Str × PV) → Prop) → Prop
def orX (O : Addr → Prop) (x : Addr) : Addr → Prop := fun a => O a ∨ a = x
def spInitP (C : Addr) (f : PInit) : Sp := fun vs H Q E => ∃ (x dx : Addr) (us : List V) (O : Addr → Prop) (xs : List PV) (Qp : List Str → List PV → Prop) (Ep : Addr → List (Str × PV) → Prop), vs = .ref x :: us ∧ H x = some (.ins C dx []) ∧ OnH (orX O x) H ∧ Reps (fz (orX O x) H) xs us ∧ f xs Qp Ep ∧
  (∀ fs ys ws H', OffX x H H' → H' x = some (.ins C dx (fs.zip ws)) → fs.length = ws.length → Reps (fz (orX O x) H') ys ws → Qp fs ys → Q .non H') ∧
  ∀ D (fs : List Str) ys us d H', OffX x H H' → H' d = some (.xd (fs.zip us)) → fs.length = us.length → Reps (fz (orX O x) H') ys us → Ep D (fs.zip ys) → E (.ref D) (some d) H'
/-- where x may change: what is known of x is kept by J -/
abbrev selfS (K : PySem.W.Frag) (H0 : Hp) (O0 : Addr → Prop) (x : Addr) (J : Hp → Prop) (E : XK) (Ep : Addr → List (Str × PV) → Prop) : Sit := ⟨K, H0, O0, fun a => a = x, J, E, Ep⟩
abbrev isX (C x dx : Addr) (fs : List Str) (ws : List V) : Hp → Prop := fun H => H x = some (.ins C dx (fs.zip ws))
/-- what stands around the body of an __init__ -/
structure Ini where
  K : PySem.W.Frag
  H0 : Hp
  O0 : Addr → Prop
  C : Addr
  x : Addr
  dx : Addr
  E : XK
  Ep : Addr → List (Str × PV) → Prop
abbrev Ini.S (I : Ini) (fs : List Str) (ws : List V) : Sit := selfS I.K I.H0 I.O0 I.x (isX I.C I.x I.dx fs ws) I.E I.Ep
/-- the state of a body that fills an instance -/
structure At0 (I : Ini) (O : Addr → Prop) (env : PEnv) (σ : L2.St) (H : Hp) (fs : List Str) (xs : List PV) : Prop where
  ex : ∃ ws, Rel (I.S fs ws) O env σ H ∧ fs.length = ws.length ∧ Reps (fz O H) xs ws
  s0 : σ[0]? = some (some (.ref I.x))
  ke : ∀ D (fs : List Str) ys us d H', OffX I.x I.H0 H' → H' d = some (.xd (fs.zip us)) → fs.length = us.length → Reps (fz I.O0 H') ys us → I.Ep D (fs.zip ys) → I.E (.ref D) (some d) H'
abbrev FN := (List Str → List PV → PEnv → Prop) → List Str → List PV → PEnv → Prop
/-- what holds whatever is known of x -/
structure SitE (E : XK) where
  s : Sit
  h : s.E = E
instance {E : XK} {S : SitE E} : EIs S.s E := ⟨S.h⟩
class PureJ (E : XK) (t : TE) (f : outParam (SitE E → FE)) : Prop where
  snd : ∀ S : SitE E, PureE S.s t (f S)
instance {E : XK} {t : TE} {f : SitE E → FE} [h : ∀ S : SitE E, PureE S.s t (f S)] : PureJ E t f := ⟨fun S => h S⟩
class PureJT (E : XK) (t : TT) (f : outParam (SitE E → FT)) : Prop where
  snd : ∀ S : SitE E, PureT S.s t (f S)
instance {E : XK} {t : TT} {f : SitE E → FT} [h : ∀ S : SitE E, PureT S.s t (f S)] : PureJT E t f := ⟨fun S => h S⟩
class PureN (I : Ini) (t : TS) (f : outParam FN) : Prop where
  snd : ∀ {O : Addr → Prop} {env : PEnv} {σ : L2.St} {H : Hp} {fs : List Str} {xs : List PV} {D : Ends} {De : List Str → List PV → PEnv → Prop}, At0 I O env σ H fs xs → f De fs xs env →
    (∀ env' σ' H' O' fs' xs', At0 I O' env' σ' H' fs' xs' → De fs' xs' env' → D.nx σ' H') → t D σ H
theorem putF_new {f : Str} {v : V} : ∀ {fs : List Str} {ws : List V}, fs.length = ws.length → fs.contains f = false → putF f v (fs.zip ws) = (fs ++ [f]).zip (ws ++ [v])
  | [], [], _, _ => rfl
  | g :: fs, w :: ws, hl, hc => by
    rw [List.contains_cons, Bool.or_eq_false_iff] at hc
    show (if g = f then _ else (g, w) :: putF f v (fs.zip ws)) = _
    rw [if_neg (fun z => by subst z; simp at hc), putF_new (by simpa using hl) hc.2]
    rfl
/-- x is what it is known to be; a step keeps it -/
theorem At0.step {I : Ini} {O O' : Addr → Prop} {env env' : PEnv} {σ σ' : L2.St} {H H' : Hp} {fs : List Str} {xs : List PV} {ws : List V} (A : At0 I O env σ H fs xs) (hl : fs.length = ws.length) (r : Reps (fz O H) xs ws) (R' : Rel (I.S fs ws) O' env' σ' H') (L : Le (fz O H) (fz O' H')) (s0 : σ'[0]? = some (some (.ref I.x))) : At0 I O' env' σ' H' fs xs :=
  ⟨⟨ws, R', hl, Reps.mono L _ _ r⟩, s0, A.ke⟩
/-- self.f = e -/
def fnPut (K : PySem.W.Frag) (C : Addr) (Ep : Addr → List (Str × PV) → Prop) {E : XK} (f : Str) (fe : SitE E → FE) : FN := fun De fs xs env => ∀ S' : SitE E, S'.s.Ep = Ep → fe S' env fun z env' => FldP K C f ∧ fs.contains f = false ∧ fs.length < 1000 ∧ De (fs ++ [f]) (xs ++ [z]) env'
theorem n_put {I : Ini} {K : PySem.W.Frag} (hK : K = I.K) {te : TE} {f : Str} {fe : SitE I.E → FE} (h : PureJ I.E te fe) : PureN I (sFld K (tVar 0) te f) (fnPut I.K I.C I.Ep f fe) := ⟨fun {O env σ H fs xs D De} A q k => by
  subst hK
  obtain ⟨ws, R, hl, r⟩ := A.ex
  refine (h.snd ⟨I.S fs ws, rfl⟩).snd R (q _ rfl) fun v z env1 H1 O1 R1 L1 r1 ⟨fl, nc, lt, q1⟩ => ?_
  have hx : H1 I.x = some (.ins I.C I.dx (fs.zip ws)) := R1.fr.j
  refine ⟨_, A.s0, I.x, I.C, I.dx, _, rfl, hx, fl.cl, fl.na, by rw [List.length_zip]; omega, ?_⟩
  rw [putF_new hl nc]
  have dx1 : O1 I.x := R1.o0 _ (R1.ok.dO _ rfl)
  have le : Le (fz O1 H1) (fz O1 (upd H1 I.x (.ins I.C I.dx ((fs ++ [f]).zip (ws ++ [v]))))) := fun a u ⟨n, e⟩ => ⟨n, e.ne fun z : a = I.x => by subst z; exact n dx1⟩
  have nx : ∀ {a : Addr} {o : HO}, I.H0 a = none → H1 a = some o → a ≠ I.x := fun n _ z => by
    subst z
    obtain ⟨o, e⟩ := R1.ok.oH _ (R1.ok.dO _ rfl)
    have e' : I.H0 I.x = some o := e
    rw [n] at e'; cases e'
  refine k env1 σ _ O1 (fs ++ [f]) (xs ++ [z]) ⟨⟨ws ++ [v], ⟨⟨R1.ok.oH, R1.ok.dO, fun G G' j e _ => (e I.x rfl).trans j, fun D fs ys us d H' fr e l r' q' => A.ke D fs ys us d H' (fun a o n e => fr.same a o n e) e l r' q'⟩, ⟨fun a o n e => ?_, fun a e => ?_, upd_same⟩, R1.o0, fun a ha => ?_, fun i sv e => ?_, R1.apart, R1.len⟩, by simp [hl], Reps.append (Reps.mono (Le.trans L1.fz le) _ _ r) ⟨Rep.mono le _ _ r1, trivial⟩⟩, A.s0, A.ke⟩ q1
  · rw [upd_ne n]; exact R1.fr.same a o n e
  · subst e; exact ⟨_, upd_same, trivial⟩
  · by_cases z : a = I.x
    · subst z; exact ⟨_, upd_same, trivial⟩
    · rw [upd_ne z]; exact R1.oH a ha
  · obtain ⟨u, h1, h2⟩ := R1.slot i sv e
    refine ⟨u, h1, ?_⟩
    cases hb : sv.own with
    | true =>
      obtain ⟨l, rfl, a1, a2, a3⟩ := h2.of hb
      exact .mk a1 a2 (a3.mono le fun o z => by rw [upd_ne (nx a2 z)]; exact z)
    | false =>
      cases sv with
      | fr x => exact Rep.mono le _ _ h2
      | ol xs => cases hb
      | oK ks xs => cases hb
      | oT ks xs => cases hb⟩
instance {K : PySem.W.Frag} {H0 : Hp} {O0 : Addr → Prop} {C : Addr} {ix dx : Addr} {E : XK} {Ep : Addr → List (Str × PV) → Prop} {K' : PySem.W.Frag} {te : TE} {f : Str} {fe : SitE E → FE} [h : PureJ E te fe] : PureN ⟨K, H0, O0, C, ix, dx, E, Ep⟩ (sFld K' (tVar 0) te f) (fun De fs xs env => K' = K ∧ fnPut K C Ep f fe De fs xs env) := ⟨fun A q k => (n_put (I := ⟨K, H0, O0, C, ix, dx, E, Ep⟩) q.1 h).snd A q.2 k⟩
def fnSeq (f g : FN) : FN := fun De fs xs env => f (fun fs' xs' env' => g De fs' xs' env') fs xs env
instance {I : Ini} {t u : TS} {f g : FN} [h1 : PureN I t f] [h2 : PureN I u g] : PureN I (tSeq t u) (fnSeq f g) := ⟨fun A q k => h1.snd A q fun env' σ' H' O' fs' xs' A' q' => h2.snd A' q' k⟩
def fnNext : FN := fun De fs xs env => De fs xs env
instance {I : Ini} : PureN I tNext fnNext := ⟨fun A q k => k _ _ _ _ _ _ A q⟩
def fnIf (Ep : Addr → List (Str × PV) → Prop) {E : XK} (c : SitE E → FT) (f g : FN) : FN := fun De fs xs env => ∀ S' : SitE E, S'.s.Ep = Ep → c S' env fun b env' => if b = true then f De fs xs env' else g De fs xs env'
theorem n_if {I : Ini} {tc : TT} {t u : TS} {c : SitE I.E → FT} {f g : FN} (hc : PureJT I.E tc c) (h1 : PureN I t f) (h2 : PureN I u g) : PureN I (tIfS tc t u) (fnIf I.Ep c f g) := ⟨fun {O env σ H fs xs D De} A q k => by
  obtain ⟨ws, R, hl, r⟩ := A.ex
  refine (hc.snd ⟨I.S fs ws, rfl⟩).snd R (q _ rfl) fun b env1 H1 O1 R1 L1 q1 => ?_
  have A1 := A.step hl r R1 L1.fz A.s0
  cases b with
  | true => exact h1.snd A1 q1 k
  | false => exact h2.snd A1 q1 k⟩
instance {K : PySem.W.Frag} {H0 : Hp} {O0 : Addr → Prop} {C : Addr} {ix dx : Addr} {E : XK} {Ep : Addr → List (Str × PV) → Prop} {tc : TT} {t u : TS} {c : SitE E → FT} {f g : FN} [hc : PureJT E tc c] [h1 : PureN ⟨K, H0, O0, C, ix, dx, E, Ep⟩ t f] [h2 : PureN ⟨K, H0, O0, C, ix, dx, E, Ep⟩ u g] : PureN ⟨K, H0, O0, C, ix, dx, E, Ep⟩ (tIfS tc t u) (fnIf Ep c f g) := n_if (I := ⟨K, H0, O0, C, ix, dx, E, Ep⟩) hc h1 h2
/-- an expression as a statement -/
def fnDrop (Ep : Addr → List (Str × PV) → Prop) {E : XK} (f : SitE E → FE) : FN := fun De fs xs env => ∀ S' : SitE E, S'.s.Ep = Ep → f S' env fun _ env' => De fs xs env'
theorem n_drop {I : Ini} {te : TE} {f : SitE I.E → FE} (h : PureJ I.E te f) : PureN I (tDrop te) (fnDrop I.Ep f) := ⟨fun {O env σ H fs xs D De} A q k => by
  obtain ⟨ws, R, hl, r⟩ := A.ex
  exact (h.snd ⟨I.S fs ws, rfl⟩).snd R (q _ rfl) fun v z env1 H1 O1 R1 L1 _ q1 => k env1 σ H1 O1 fs xs (A.step hl r R1 L1.fz A.s0) q1⟩
instance {K : PySem.W.Frag} {H0 : Hp} {O0 : Addr → Prop} {C : Addr} {ix dx : Addr} {E : XK} {Ep : Addr → List (Str × PV) → Prop} {te : TE} {f : SitE E → FE} [h : PureJ E te f] : PureN ⟨K, H0, O0, C, ix, dx, E, Ep⟩ (tDrop te) (fnDrop Ep f) := n_drop (I := ⟨K, H0, O0, C, ix, dx, E, Ep⟩) h
/-- THE END of an __init__'s proof -/
theorem init_end (K : PySem.W.Frag) {N : List Str} {t : TS} {C : Addr} {f : PInit} {vs : List V} {H : Hp} {Q : VK} {E : XK} (h : spInitP C f vs H Q E)
    (k : ∀ (H0 : Hp) (O0 : Addr → Prop) (x dx : Addr) (Ep : Addr → List (Str × PV) → Prop) xs (Qp : List Str → List PV → Prop), f xs Qp Ep → ∃ fn, PureN ⟨K, H0, O0, C, x, dx, E, Ep⟩ t fn ∧ fn (fun fs ys _ => Qp fs ys) [] [] (startP N.length (.raw (.ref x) :: xs))) : t { nx := fun _ H' => Q .non H', rt := Q } (L2.start N vs) H := by
  obtain ⟨x, dx, us, O, xs, Qp, Ep, rfl, hx, oh, r, q, kq, ke⟩ := h
  have R0 := rel_start (K := K) (N := N) (O := orX O x) (xs := .raw (.ref x) :: xs) (vs := .ref x :: us) (E := E) (Ep := fun _ _ => False) oh ⟨rfl, r⟩ fun _ _ _ _ _ _ _ _ _ _ z => z.elim
  obtain ⟨fn, i, z⟩ := k H (orX O x) x dx Ep xs Qp q
  have A : At0 ⟨K, H, orX O x, C, x, dx, E, Ep⟩ (orX O x) (startP N.length (.raw (.ref x) :: xs)) (L2.start N (.ref x :: us)) H [] [] :=
    ⟨⟨[], ⟨⟨R0.ok.oH, fun a e => .inr e, fun G G' j e _ => (e x rfl).trans j, fun D fs ys us d H' fr e l r' q' => ke D fs ys us d H' (fun a o n e => fr.same a o n e) e l r' q'⟩, ⟨fun a o _ e => e, fun a e => by subst e; exact ⟨_, hx, trivial⟩, hx⟩, R0.o0, R0.oH, R0.slot, R0.apart, R0.len⟩, rfl, trivial⟩, rfl, fun D fs ys us d H' o e l r' q' => ke D fs ys us d H' o e l r' q'⟩
  refine i.snd (D := { nx := fun _ H' => Q .non H', rt := Q }) A z fun env' σ' H' O' fs' xs' A' q' => ?_
  obtain ⟨ws, R', hl, r'⟩ := A'.ex
  exact kq fs' xs' ws H' (fun a o n e => R'.fr.same a o n e) R'.fr.j hl (Reps.mono R'.ret _ _ r') q'
instance {S : Sit} {C : Addr} {f : PInit} {E : XK} [e : EIs S E] : MkP S C (spInitP C f) [] E (fun xs Q => f xs (fun fs ys => Q (.ins C fs ys)) S.Ep) := ⟨fun {O env σ H vs xs Q Qp} R r q k x dx nx nd ne => by
  have s1 : Same H (upd (upd H dx (.own x)) x (.ins C dx [])) := fun a o h => by rw [upd_ne (ne_of_none h nx), upd_ne (ne_of_none h nd)]; exact h
  have nO : ¬ O x := R.new nx
  have le0 : ∀ {G : Hp}, Same H G → Le (fz O H) (fz (orX O x) G) := fun s a o ⟨n, h⟩ => ⟨fun z => z.elim n fun z => by subst z; exact h.none nx, h.same s⟩
  refine ⟨x, dx, vs ++ [], O, xs, fun fs ys => Qp (.ins C fs ys), S.Ep, rfl, upd_same, fun a z => ?_, by rw [List.append_nil]; exact Reps.mono (le0 s1) _ _ r, q, fun fs ys ws H' off hx hl r' q' => ⟨rfl, ?_⟩, fun D fs ys us d H' off hd hl r' q' => ?_⟩
  · rcases z with z | rfl
    · obtain ⟨o, h, n⟩ := R.oH a z
      exact ⟨o, s1 a o h, n⟩
    · exact ⟨_, upd_same, trivial⟩
  · have s : Same H H' := fun a o h => off a o (ne_of_none h nx) (s1 a o h)
    exact k _ (.ins C fs ys) H' s ⟨x, dx, ws, rfl, ⟨nO, .of hx⟩, hl, Reps.mono (fun a o ⟨n, h⟩ => ⟨fun z => n (.inl z), h⟩) _ _ r'⟩ q'
  · have s : Same H H' := fun a o h => off a o (ne_of_none h nx) (s1 a o h)
    have R' := R.same s
    rw [← e.eq]
    exact R.ok.eok D fs ys us d H' R'.fr hd hl (Reps.mono (fun a o ⟨n, h⟩ => ⟨fun z => n (.inl (R.o0 a z)), h⟩) _ _ r') q'⟩
end PL
namespace L2
open PySem PL
theorem pe_bot {X : Cx} {e : Expr} {t : TE} (h : PE X e t) : PE X e (tBotE t) := h
theorem ps_bot {X : Cx} {s : Stmt} {t : TS} (h : PS X s t) : PS X s (tBotS t) := h
end L2

set_option Elab.async false
set_option linter.all false
set_option maxRecDepth 100000
set_option maxHeartbeats 4000000
/-! isinstance of any value and any class; defaults -/
namespace PL
open PySem L2
/-- an own class whose objects are looked at by isinstance -/
structure IcP (K : PySem.W.Frag) (C : Addr) : Prop where
  cl : Cls K C
  ha : PySem.W.findIn K (.ref C) "__class__" = some (some (.builtin "object.__class__"))
  hn : PySem.W.specialIn K (.builtin "object.__class__") "__get__" = some (some (.builtin "getset_descriptor.__get__"))
  ht : PySem.W.takesIn K (.builtin "object.__class__") = some true
  hm : PySem.W.mroIn K C (.type "object") = some true
/-- the class of a value -/
def TyP (K : PySem.W.Frag) : PV → Value → Prop
  | .non, t => t = .type "NoneType"
  | .bl _, t => t = .type "bool"
  | .int _, t => t = .type "int"
  | .str _, t => t = .type "str"
  | .tup _, t => t = .type "tuple"
  | .lst _, t => t = .type "list"
  | .ins C _ _, t => t = .ref C ∧ IcP K C
  | _, _ => False
theorem TyP.of {K : PySem.W.Frag} {O : Addr → Prop} {H : Hp} {x : PV} {v : V} {t : Value} (r : Rep (fz O H) x v) (h : TyP K x t) : TyX K H v t := by
  cases x with
  | non => rw [show v = V.non from r, show t = _ from h]; exact .base .non
  | bl b => rw [show v = V.bl b from r, show t = _ from h]; exact .base (.bl b)
  | int b => rw [show v = V.int b from r, show t = _ from h]; exact .base (.int b)
  | str b => rw [show v = V.str b from r, show t = _ from h]; exact .base (.str b)
  | tup xs => rw [show t = _ from h]; obtain ⟨a, vs, rfl, f, _⟩ := r; exact .base (.tup f.2.tup)
  | lst xs => rw [show t = _ from h]; obtain ⟨a, vs, rfl, f, _⟩ := r; exact .base (.lst f.2.lst)
  | ins C fs xs =>
    obtain ⟨rfl, c⟩ := h
    obtain ⟨a, dx, vs, rfl, f, _⟩ := r
    exact .base (.ins f.2.ins c.cl c.ha c.hn c.ht c.hm)
  | raw u => exact h.elim
  | dK ks xs => exact h.elim
  | dT ks xs => exact h.elim
section
variable {S : Sit}
/-- isinstance(x, c) -/
def fIsiX (K : PySem.W.Frag) (u : Value) (f : FE) : FE := fun env Q => f env fun x env1 => ∃ t b, TyP K x t ∧ PySem.W.kitOne K t u = some b ∧ Q (.bl b) env1
instance (priority := high) {K : PySem.W.Frag} {T : String} {t : TE} {f : FE} [h : PureE S t f] : PureE S (tCB (rIsi K) (tCons t (tCons (tC (.ty T)) tNil))) (fIsiX K (.type T) f) := ⟨fun R q k =>
  h.snd R q fun v x env1 H1 O1 R1 L1 r1 ⟨u, b, e1, e2, q1⟩ => ⟨v, .ty T, u, .type T, b, rfl, .ty T, e1.of r1, e2, k _ (.bl b) env1 H1 O1 R1 L1 (show V.bl b = V.bl b from rfl) q1⟩⟩
instance {K : PySem.W.Frag} {D : Addr} {t : TE} {f : FE} [h : PureE S t f] : PureE S (tCB (rIsi K) (tCons t (tCons (tC (.ref D)) tNil))) (fIsiX K (.ref D) f) := ⟨fun R q k =>
  h.snd R q fun v x env1 H1 O1 R1 L1 r1 ⟨u, b, e1, e2, q1⟩ => ⟨v, .ref D, u, .ref D, b, rfl, .own D, e1.of r1, e2, k _ (.bl b) env1 H1 O1 R1 L1 (show V.bl b = V.bl b from rfl) q1⟩⟩
/-- isinstance(x, (c, d)) -/
def fIsiT2 (K : PySem.W.Frag) (u w : Value) (f : FE) : FE := fun env Q => f env fun x env1 => ∃ t b, TyP K x t ∧ PySem.W.kitAny K t [u, w] = some b ∧ Q (.bl b) env1
instance {K : PySem.W.Frag} {T U : String} {t : TE} {f : FE} [h : PureE S t f] : PureE S (tCB (rIsiT K) (tCons t (tCons (tTup (tCons (tC (.ty T)) (tCons (tC (.ty U)) tNil))) tNil))) (fIsiT2 K (.type T) (.type U) f) := ⟨fun R q k =>
  h.snd R q fun v x env1 H1 O1 R1 L1 r1 ⟨u, b, e1, e2, q1⟩ => ⟨by show 2 ≤ sizeLine; decide, fun p hp =>
    ⟨v, p, [.ty T, .ty U], u, [.type T, .type U], b, rfl, upd_same, .cons (.ty T) (.cons (.ty U) .nil), e1.of (Rep.mono (fz_same (same_upd hp)) _ _ r1), e2, k _ (.bl b) env1 _ O1 (R1.same (same_upd hp)) (L1.trans (.same (same_upd hp))) (show V.bl b = V.bl b from rfl) q1⟩⟩⟩
/-- one default -/
def fCallD (f : List PV → (PV → Prop) → Prop) (z : PV) (fa : FA) : FE := fun env Q => fa env fun xs env1 => f (xs ++ [z]) fun y => Q y env1
instance {sp : Sp} {E : XK} {f} {t : TA} {fa : FA} {d : V} {z : PV} [hs : SpP S sp E f] [hd : FlatP d z] [ha : PureA S t fa] : PureE S (tCall sp [d] E t) (fCallD f z fa) := ⟨fun R q k =>
  ha.snd R q fun vs xs env1 H1 O1 R1 L1 r1 q1 => hs.snd R1 (Reps.append r1 (show Reps _ [z] [d] from ⟨hd.rep _, trivial⟩)) q1 fun v x H2 R2 L2 r2 q2 => k v x env1 H2 O1 R2 (L1.trans L2) r2 q2⟩
instance {C : Addr} {f : PInit} {E : XK} [e : EIs S E] {d : V} {z : PV} [hd : FlatP d z] : MkP S C (spInitP C f) [d] E (fun xs Q => f (xs ++ [z]) (fun fs ys => Q (.ins C fs ys)) S.Ep) := ⟨fun {O env σ H vs xs Q Qp} R r q k x dx nx nd ne => by
  have h := (inferInstance : MkP S C (spInitP C f) [] E _).snd (vs := vs ++ [d]) (xs := xs ++ [z]) (Q := Q) (Qp := Qp) R (Reps.append r (show Reps _ [z] [d] from ⟨hd.rep _, trivial⟩)) q k x dx nx nd ne
  rw [List.append_nil] at h
  exact h⟩
end
/-- of the built-in classes -/
theorem kit_bb {K : PySem.W.Frag} {n T : String} {b : Bool} (h : kitB n T = some b) : PySem.W.kitOne K (.type n) (.type T) = some b := kit_ty h
theorem kit_two {K : PySem.W.Frag} {n T U : String} {b c : Bool} (h : kitB n T = some b) (h' : kitB n U = some c) : PySem.W.kitAny K (.type n) [.type T, .type U] = some (b || c) := by
  unfold PySem.W.kitAny
  rw [kit_bb h]
  cases b with
  | true => rfl
  | false =>
    show PySem.W.kitAny K _ _ = _
    unfold PySem.W.kitAny
    rw [kit_bb h']
    cases c <;> rfl
end PL

set_option Elab.async false
set_option linter.all false
set_option maxRecDepth 100000
set_option maxHeartbeats 8000000
/-! the program's text by places, and what the top has written -/
namespace Z
open PySem L2 XV PL
def top (i : Nat) : Stmt := PySem.Challenge.pw_leastjoined_k39_levels.main.body.getD i (.Pass ⟨0, 0, 0, 0⟩)
abbrev s_isint : Stmt := top 1
abbrev s_kept : Stmt := top 2
abbrev s_frozen : Stmt := top 3
abbrev s_checkmany : Stmt := top 17
abbrev s_checkcounts : Stmt := top 18
abbrev s_checkcountsof : Stmt := top 19
abbrev s_lens : Stmt := top 20
abbrev s_isword : Stmt := top 21
abbrev s_cwords : Stmt := top 22
abbrev s_canon : Stmt := top 23
abbrev s_paired : Stmt := top 28
abbrev s_packed : Stmt := top 29
abbrev s_signsbylength : Stmt := top 30
abbrev s_signgroups : Stmt := top 31
abbrev s_levels : Stmt := top 32
abbrev s_lighterabove : Stmt := top 33
abbrev s_beyond : Stmt := top 34
abbrev s_judge : Stmt := top 35
abbrev s_penof : Stmt := top 37
abbrev s_draw : Stmt := top 38
abbrev s_pick : Stmt := top 39
abbrev s_countsof : Stmt := top 40
abbrev s_lof : Stmt := top 41
abbrev s_cost : Stmt := top 42
abbrev s_leastcost : Stmt := top 43
abbrev s_llevels : Stmt := top 44
abbrev s_wrong : Stmt := top 45
abbrev s_wrongdue : Stmt := top 46
abbrev s_law : Stmt := top 47
abbrev s_TooMany : Stmt := inClass (top 6) 0
abbrev s_BadCount : Stmt := inClass (top 7) 0
abbrev s_BadLength : Stmt := inClass (top 8) 0
abbrev s_NotFull : Stmt := inClass (top 9) 0
abbrev s_BadWord : Stmt := inClass (top 10) 0
abbrev s_Begins : Stmt := inClass (top 11) 0
abbrev s_OtherSize : Stmt := inClass (top 12) 0
abbrev s_init : Stmt := inClass (top 24) 0
abbrev s_eq : Stmt := inClass (top 24) 1
abbrev s_Least : Stmt := inClass (top 26) 0
abbrev s_Better : Stmt := inClass (top 27) 0
/-- where the defs and classes stand -/
structure Ad where
  a_isint : Addr
  d_isint : FuncData
  a_kept : Addr
  d_kept : FuncData
  a_frozen : Addr
  d_frozen : FuncData
  a_checkmany : Addr
  d_checkmany : FuncData
  a_checkcounts : Addr
  d_checkcounts : FuncData
  a_checkcountsof : Addr
  d_checkcountsof : FuncData
  a_lens : Addr
  d_lens : FuncData
  a_isword : Addr
  d_isword : FuncData
  a_cwords : Addr
  d_cwords : FuncData
  a_canon : Addr
  d_canon : FuncData
  a_paired : Addr
  d_paired : FuncData
  a_packed : Addr
  d_packed : FuncData
  a_signsbylength : Addr
  d_signsbylength : FuncData
  a_signgroups : Addr
  d_signgroups : FuncData
  a_levels : Addr
  d_levels : FuncData
  a_lighterabove : Addr
  d_lighterabove : FuncData
  a_beyond : Addr
  d_beyond : FuncData
  a_judge : Addr
  d_judge : FuncData
  a_penof : Addr
  d_penof : FuncData
  a_draw : Addr
  d_draw : FuncData
  a_pick : Addr
  d_pick : FuncData
  a_countsof : Addr
  d_countsof : FuncData
  a_lof : Addr
  d_lof : FuncData
  a_cost : Addr
  d_cost : FuncData
  a_leastcost : Addr
  d_leastcost : FuncData
  a_llevels : Addr
  d_llevels : FuncData
  a_wrong : Addr
  d_wrong : FuncData
  a_wrongdue : Addr
  d_wrongdue : FuncData
  a_law : Addr
  d_law : FuncData
  k_law : Addr
  p_law : Addr
  cj : Addr
  c_TooMany : Addr
  i_TooMany : Addr
  d_TooMany : FuncData
  c_BadCount : Addr
  i_BadCount : Addr
  d_BadCount : FuncData
  c_BadLength : Addr
  i_BadLength : Addr
  d_BadLength : FuncData
  c_NotFull : Addr
  i_NotFull : Addr
  d_NotFull : FuncData
  c_BadWord : Addr
  i_BadWord : Addr
  d_BadWord : FuncData
  c_Begins : Addr
  i_Begins : Addr
  d_Begins : FuncData
  c_OtherSize : Addr
  i_OtherSize : Addr
  d_OtherSize : FuncData
  c_Code : Addr
  a_init : Addr
  d_init : FuncData
  a_eq : Addr
  d_eq : FuncData
  c_Least : Addr
  a_Least : Addr
  d_Least : FuncData
  c_Better : Addr
  a_Better : Addr
  d_Better : FuncData
/-- what a class of the errors says -/
structure Ec (K : PySem.W.Frag) (mg : Str → Option Value) (cj C fI : Addr) (x qual : Str) (st : Stmt) (fd : FuncData) (fs : List Str) : Prop where
  E : ErrC K C fI
  R : ErrR K C
  F : Fun K "__init__" qual st fI fd
  g : mg x = some (.ref C)
  m : ∃ cd, PySem.W.clsIn K C = some cd ∧ cd.mro = [.ref C, .ref cj, .type "ValueError", .type "Exception", .type "BaseException", .type "object"]
  ty : PySem.W.typeIn K (.ref C) = some (.type "type")
  b : KBn K fd ("self" :: fs) (fs.length + 1) [] (fun us _ => us) (fun vs _ => vs)
  bb : Binds K fd ("self" :: fs) []
  no : ∀ f ∈ fs, PySem.W.findIn K (.ref C) f = some none
/-- the class Code -/
structure Cc (K : PySem.W.Frag) (C fI : Addr) : Prop where
  M : Mk K C fI
  cl : Cls K C
  n_lengths : NoAttr K C "lengths"
  n_words : NoAttr K C "words"
  n_size : NoAttr K C "size"
  n_longest : NoAttr K C "longest"
/-- of a class whose objects are looked at by isinstance only -/
structure Ic (K : PySem.W.Frag) (C : Addr) : Prop where
  cl : Cls K C
  ha : PySem.W.findIn K (.ref C) "__class__" = some (some (.builtin "object.__class__"))
  hn : PySem.W.specialIn K (.builtin "object.__class__") "__get__" = some (some (.builtin "getset_descriptor.__get__"))
  ht : PySem.W.takesIn K (.builtin "object.__class__") = some true
  hm : PySem.W.mroIn K C (.type "object") = some true
  ki : PySem.W.kitOne K (.ref C) (.type "int") = some false
  ks : PySem.W.kitOne K (.ref C) (.type "str") = some false
/-- == of Code is its own -/
structure Ceq (K : PySem.W.Frag) (C fE : Addr) : Prop where
  eq : PySem.W.findIn K (.ref C) "__eq__" = some (some (.ref fE))
  ne : PySem.W.findIn K (.ref C) "__ne__" = some (some (.builtin "object.__ne__"))
  fn : PySem.W.isFn K (.ref fE) = true
  nfc : PySem.W.notFirst K C (.ref C) = true
  kc : PySem.W.kitOne K (.ref C) (.ref C) = some true
/-- an own class: its objects are made, their fields read and stored -/
structure Oc (K : PySem.W.Frag) (C fI : Addr) (fs : List Str) : Prop where
  M : Mk K C fI
  I : IcP K C
  no : ∀ f ∈ fs, NoAttr K C f
  kl : PySem.W.kitOne K (.ref C) (.type "list") = some false
  kt : PySem.W.kitOne K (.ref C) (.type "tuple") = some false
  kd : PySem.W.kitOne K (.ref C) (.type "dict") = some false
  ki : PySem.W.kitOne K (.ref C) (.type "int") = some false
  ks : PySem.W.kitOne K (.ref C) (.type "str") = some false
theorem Oc.fl {K : PySem.W.Frag} {C fI : Addr} {fs : List Str} (o : Oc K C fI fs) {f : Str} (h : f ∈ fs) : FldP K C f := ⟨o.I.cl, o.no f h⟩
structure Txt (K : PySem.W.Frag) (mg : Str → Option Value) (A : Ad) : Prop where
  F_isint : Fun K "is_int" "is_int" s_isint A.a_isint A.d_isint
  g_isint : mg "is_int" = some (.ref A.a_isint)
  b_isint : Binds K A.d_isint ["value"] []
  F_kept : Fun K "kept" "kept" s_kept A.a_kept A.d_kept
  g_kept : mg "kept" = some (.ref A.a_kept)
  b_kept : Binds K A.d_kept ["value"] []
  F_frozen : Fun K "frozen" "frozen" s_frozen A.a_frozen A.d_frozen
  g_frozen : mg "frozen" = some (.ref A.a_frozen)
  b_frozen : Binds K A.d_frozen ["value"] []
  F_checkmany : Fun K "check_many" "check_many" s_checkmany A.a_checkmany A.d_checkmany
  g_checkmany : mg "check_many" = some (.ref A.a_checkmany)
  b_checkmany : Binds K A.d_checkmany ["many"] []
  F_checkcounts : Fun K "check_counts" "check_counts" s_checkcounts A.a_checkcounts A.d_checkcounts
  g_checkcounts : mg "check_counts" = some (.ref A.a_checkcounts)
  b_checkcounts : Binds K A.d_checkcounts ["counts"] []
  F_checkcountsof : Fun K "check_counts_of" "check_counts_of" s_checkcountsof A.a_checkcountsof A.d_checkcountsof
  g_checkcountsof : mg "check_counts_of" = some (.ref A.a_checkcountsof)
  b_checkcountsof : Binds K A.d_checkcountsof ["code", "counts"] []
  F_lens : Fun K "check_lengths" "check_lengths" s_lens A.a_lens A.d_lens
  g_lens : mg "check_lengths" = some (.ref A.a_lens)
  b_lens : Binds K A.d_lens ["lengths"] []
  F_isword : Fun K "is_word" "is_word" s_isword A.a_isword A.d_isword
  g_isword : mg "is_word" = some (.ref A.a_isword)
  b_isword : Binds K A.d_isword ["value", "length"] []
  F_cwords : Fun K "check_words" "check_words" s_cwords A.a_cwords A.d_cwords
  g_cwords : mg "check_words" = some (.ref A.a_cwords)
  b_cwords : Binds K A.d_cwords ["words", "lengths"] []
  F_canon : Fun K "canonical_words" "canonical_words" s_canon A.a_canon A.d_canon
  g_canon : mg "canonical_words" = some (.ref A.a_canon)
  b_canon : Binds K A.d_canon ["lengths"] []
  F_paired : Fun K "paired" "paired" s_paired A.a_paired A.d_paired
  g_paired : mg "paired" = some (.ref A.a_paired)
  b_paired : Binds K A.d_paired ["nodes"] []
  F_packed : Fun K "packed" "packed" s_packed A.a_packed A.d_packed
  g_packed : mg "packed" = some (.ref A.a_packed)
  b_packed : Binds K A.d_packed ["groups"] []
  F_signsbylength : FunD K "signs_by_length" "signs_by_length" (defArgs s_signsbylength) (defBody s_signsbylength) (defScope s_signsbylength) [.non] [] A.a_signsbylength A.d_signsbylength
  b1_signsbylength : ∃ ds, Vals [.non] ds ∧ Binds K A.d_signsbylength ["code", "left_out"] ds
  g_signsbylength : mg "signs_by_length" = some (.ref A.a_signsbylength)
  b_signsbylength : Binds K A.d_signsbylength ["code", "left_out"] []
  F_signgroups : FunD K "sign_groups" "sign_groups" (defArgs s_signgroups) (defBody s_signgroups) (defScope s_signgroups) [.non] [] A.a_signgroups A.d_signgroups
  b1_signgroups : ∃ ds, Vals [.non] ds ∧ Binds K A.d_signgroups ["code", "weights", "left_out"] ds
  g_signgroups : mg "sign_groups" = some (.ref A.a_signgroups)
  b_signgroups : Binds K A.d_signgroups ["code", "weights", "left_out"] []
  F_levels : Fun K "levels" "levels" s_levels A.a_levels A.d_levels
  g_levels : mg "levels" = some (.ref A.a_levels)
  b_levels : Binds K A.d_levels ["code", "counts"] []
  F_lighterabove : Fun K "lighter_above" "lighter_above" s_lighterabove A.a_lighterabove A.d_lighterabove
  g_lighterabove : mg "lighter_above" = some (.ref A.a_lighterabove)
  b_lighterabove : Binds K A.d_lighterabove ["rows"] []
  F_beyond : Fun K "beyond" "beyond" s_beyond A.a_beyond A.d_beyond
  g_beyond : mg "beyond" = some (.ref A.a_beyond)
  b_beyond : Binds K A.d_beyond ["code", "light", "heavy"] []
  F_judge : Fun K "judge" "judge" s_judge A.a_judge A.d_judge
  g_judge : mg "judge" = some (.ref A.a_judge)
  b_judge : Binds K A.d_judge ["code", "counts"] []
  F_penof : Fun K "_law_pen_of" "_law_pen_of" s_penof A.a_penof A.d_penof
  g_penof : mg "_law_pen_of" = some (.ref A.a_penof)
  b_penof : Binds K A.d_penof ["_law_script"] []
  F_draw : Fun K "_law_draw" "_law_draw" s_draw A.a_draw A.d_draw
  g_draw : mg "_law_draw" = some (.ref A.a_draw)
  b_draw : Binds K A.d_draw ["_law_pen", "_law_many"] []
  F_pick : Fun K "_law_pick" "_law_pick" s_pick A.a_pick A.d_pick
  g_pick : mg "_law_pick" = some (.ref A.a_pick)
  b_pick : Binds K A.d_pick ["_law_pen", "_law_items"] []
  F_countsof : Fun K "_law_counts_of" "_law_counts_of" s_countsof A.a_countsof A.d_countsof
  g_countsof : mg "_law_counts_of" = some (.ref A.a_countsof)
  b_countsof : Binds K A.d_countsof ["_law_pen", "_law_many"] []
  F_lof : Fun K "_law_lengths_of" "_law_lengths_of" s_lof A.a_lof A.d_lof
  g_lof : mg "_law_lengths_of" = some (.ref A.a_lof)
  b_lof : Binds K A.d_lof ["_law_pen", "_law_many"] []
  F_cost : Fun K "_law_cost" "_law_cost" s_cost A.a_cost A.d_cost
  g_cost : mg "_law_cost" = some (.ref A.a_cost)
  b_cost : Binds K A.d_cost ["_law_lengths", "_law_counts"] []
  F_leastcost : Fun K "_law_least_cost" "_law_least_cost" s_leastcost A.a_leastcost A.d_leastcost
  g_leastcost : mg "_law_least_cost" = some (.ref A.a_leastcost)
  b_leastcost : Binds K A.d_leastcost ["_law_counts"] []
  F_llevels : Fun K "_law_levels" "_law_levels" s_llevels A.a_llevels A.d_llevels
  g_llevels : mg "_law_levels" = some (.ref A.a_llevels)
  b_llevels : Binds K A.d_llevels ["_law_lengths", "_law_counts"] []
  F_wrong : Fun K "_law_wrong" "_law_wrong" s_wrong A.a_wrong A.d_wrong
  g_wrong : mg "_law_wrong" = some (.ref A.a_wrong)
  b_wrong : Binds K A.d_wrong ["_law_call"] []
  F_wrongdue : Fun K "_law_wrong_due" "_law_wrong_due" s_wrongdue A.a_wrongdue A.d_wrongdue
  g_wrongdue : mg "_law_wrong_due" = some (.ref A.a_wrongdue)
  b_wrongdue : Binds K A.d_wrongdue ["_law_counts", "_law_many"] []
  F_law : FunC K "law" "law" s_law A.a_law A.d_law A.k_law
  g_law : mg "law" = some (.ref A.a_law)
  b_law : Binds K A.d_law ["_law_script"] []
  g_Code : mg "Code" = some (.ref A.c_Code)
  O_Code : Oc K A.c_Code A.a_init ["lengths", "size", "longest", "words"]
  F_init : FunD K "__init__" "Code.__init__" (defArgs s_init) (defBody s_init) (defScope s_init) [.non] [] A.a_init A.d_init
  b_init1 : ∃ ds, Vals [.non] ds ∧ Binds K A.d_init ["self", "lengths", "words"] ds
  b_init2 : Binds K A.d_init ["self", "lengths", "words"] []
  F_eq : Fun K "__eq__" "Code.__eq__" s_eq A.a_eq A.d_eq
  b_eq : Binds K A.d_eq ["self", "other"] []
  Co : Cc K A.c_Code A.a_init
  Ico : Ic K A.c_Code
  Ceq : Ceq K A.c_Code A.a_eq
  k_Code_Code : PySem.W.kitOne K (.ref A.c_Code) (.ref A.c_Code) = some true
  k_Code_Least : PySem.W.kitOne K (.ref A.c_Code) (.ref A.c_Least) = some false
  k_Code_Better : PySem.W.kitOne K (.ref A.c_Code) (.ref A.c_Better) = some false
  g_Least : mg "Least" = some (.ref A.c_Least)
  O_Least : Oc K A.c_Least A.a_Least ["code", "counts", "levels"]
  F_Least : Fun K "__init__" "Least.__init__" s_Least A.a_Least A.d_Least
  b_Least : Binds K A.d_Least ["self", "code", "counts", "levels"] []
  k_Least_Code : PySem.W.kitOne K (.ref A.c_Least) (.ref A.c_Code) = some false
  k_Least_Least : PySem.W.kitOne K (.ref A.c_Least) (.ref A.c_Least) = some true
  k_Least_Better : PySem.W.kitOne K (.ref A.c_Least) (.ref A.c_Better) = some false
  g_Better : mg "Better" = some (.ref A.c_Better)
  O_Better : Oc K A.c_Better A.a_Better ["code", "counts", "light", "heavy", "other"]
  F_Better : Fun K "__init__" "Better.__init__" s_Better A.a_Better A.d_Better
  b_Better : Binds K A.d_Better ["self", "code", "counts", "light", "heavy", "other"] []
  k_Better_Code : PySem.W.kitOne K (.ref A.c_Better) (.ref A.c_Code) = some false
  k_Better_Least : PySem.W.kitOne K (.ref A.c_Better) (.ref A.c_Least) = some false
  k_Better_Better : PySem.W.kitOne K (.ref A.c_Better) (.ref A.c_Better) = some true
  nj_TooMany : A.c_TooMany ≠ A.cj
  n_TooMany_BadCount : A.c_TooMany ≠ A.c_BadCount
  n_TooMany_BadLength : A.c_TooMany ≠ A.c_BadLength
  n_TooMany_NotFull : A.c_TooMany ≠ A.c_NotFull
  n_TooMany_BadWord : A.c_TooMany ≠ A.c_BadWord
  n_TooMany_Begins : A.c_TooMany ≠ A.c_Begins
  n_TooMany_OtherSize : A.c_TooMany ≠ A.c_OtherSize
  nj_BadCount : A.c_BadCount ≠ A.cj
  n_BadCount_BadLength : A.c_BadCount ≠ A.c_BadLength
  n_BadCount_NotFull : A.c_BadCount ≠ A.c_NotFull
  n_BadCount_BadWord : A.c_BadCount ≠ A.c_BadWord
  n_BadCount_Begins : A.c_BadCount ≠ A.c_Begins
  n_BadCount_OtherSize : A.c_BadCount ≠ A.c_OtherSize
  nj_BadLength : A.c_BadLength ≠ A.cj
  n_BadLength_NotFull : A.c_BadLength ≠ A.c_NotFull
  n_BadLength_BadWord : A.c_BadLength ≠ A.c_BadWord
  n_BadLength_Begins : A.c_BadLength ≠ A.c_Begins
  n_BadLength_OtherSize : A.c_BadLength ≠ A.c_OtherSize
  nj_NotFull : A.c_NotFull ≠ A.cj
  n_NotFull_BadWord : A.c_NotFull ≠ A.c_BadWord
  n_NotFull_Begins : A.c_NotFull ≠ A.c_Begins
  n_NotFull_OtherSize : A.c_NotFull ≠ A.c_OtherSize
  nj_BadWord : A.c_BadWord ≠ A.cj
  n_BadWord_Begins : A.c_BadWord ≠ A.c_Begins
  n_BadWord_OtherSize : A.c_BadWord ≠ A.c_OtherSize
  nj_Begins : A.c_Begins ≠ A.cj
  n_Begins_OtherSize : A.c_Begins ≠ A.c_OtherSize
  nj_OtherSize : A.c_OtherSize ≠ A.cj
  B : BaseC K A.cj
  gj : mg "JoinsError" = some (.ref A.cj)
  cj : (PySem.W.clsIn K A.cj).isSome = true
  tj : PySem.W.typeIn K (.ref A.cj) = some (.type "type")
  E_TooMany : Ec K mg A.cj A.c_TooMany A.i_TooMany "TooMany" "TooMany.__init__" s_TooMany A.d_TooMany ["what", "many", "most"]
  E_BadCount : Ec K mg A.cj A.c_BadCount A.i_BadCount "BadCount" "BadCount.__init__" s_BadCount A.d_BadCount ["index"]
  E_BadLength : Ec K mg A.cj A.c_BadLength A.i_BadLength "BadLength" "BadLength.__init__" s_BadLength A.d_BadLength ["index"]
  E_NotFull : Ec K mg A.cj A.c_NotFull A.i_NotFull "NotFull" "NotFull.__init__" s_NotFull A.d_NotFull []
  E_BadWord : Ec K mg A.cj A.c_BadWord A.i_BadWord "BadWord" "BadWord.__init__" s_BadWord A.d_BadWord ["index"]
  E_Begins : Ec K mg A.cj A.c_Begins A.i_Begins "Begins" "Begins.__init__" s_Begins A.d_Begins ["index", "other"]
  E_OtherSize : Ec K mg A.cj A.c_OtherSize A.i_OtherSize "OtherSize" "OtherSize.__init__" s_OtherSize A.d_OtherSize ["many", "wanted"]
  k_FEWEST_SIGNS : ∃ t, mg "FEWEST_SIGNS" = some (.int (2) t)
  k_MOST_SIGNS : ∃ t, mg "MOST_SIGNS" = some (.int (26) t)
  k_LONGEST_WORD : ∃ t, mg "LONGEST_WORD" = some (.int (25) t)
  z_ValueError : mg "ValueError" = none
  z_abs : mg "abs" = none
  z_bool : mg "bool" = none
  z_dict : mg "dict" = none
  z_enumerate : mg "enumerate" = none
  z_int : mg "int" = none
  z_isinstance : mg "isinstance" = none
  z_len : mg "len" = none
  z_list : mg "list" = none
  z_max : mg "max" = none
  z_range : mg "range" = none
  z_repr : mg "repr" = none
  z_reversed : mg "reversed" = none
  z_sorted : mg "sorted" = none
  z_str : mg "str" = none
  z_sum : mg "sum" = none
  z_tuple : mg "tuple" = none
  z_zip : mg "zip" = none
end Z

set_option Elab.async false
set_option linter.all false
set_option maxRecDepth 100000
set_option maxHeartbeats 8000000
namespace Z
open PySem L2 XV
/-! odd values; kept; the errors' own __init__; counts are checked -/
theorem passX {X : Cx} : Passes (L2.CX X.prog X.w) X (fun _ _ _ => False) := fun _ _ _ _ _ _ _ h => by
  obtain ⟨_, _, _, _, _, _, _, _, _, _, _, _, e⟩ := h
  exact e.elim
theorem same_new {H : Hp} {p : Addr} {o : HO} (h : H p = none) : Same H (upd H p o) := fun b u e => by rw [upd_ne (ne_of_none e h)]; exact e
theorem yes_of {σ : L2.St} {H : Hp} {B C : Bool → Hp → Prop} (h : B true H) : tYes σ H (fun b H3 => if b = true then B b H3 else C b H3) := by
  unfold tYes
  show if true = true then B true H else C true H
  rw [if_pos rfl]
  exact h
inductive Odd (K : PySem.W.Frag) (H : Hp) : V → Prop
  | non : Odd K H .non
  | bl (b : Bool) : Odd K H (.bl b)
  | int (i : Int) : Odd K H (.int i)
  | str (x : Str) : Odd K H (.str x)
  | lst {a : Addr} {xs : List V} (h : H a = some (.lst xs)) : Odd K H (.ref a)
  | tup {a : Addr} {xs : List V} (h : H a = some (.tup xs)) : Odd K H (.ref a)
  | dct {a : Addr} {kvs : List (Key × V)} (h : H a = some (.dK kvs)) : Odd K H (.ref a)
  | ins {a C dx : Addr} {fs : List (Str × V)} (h : H a = some (.ins C dx fs)) (I : Ic K C) : Odd K H (.ref a)
theorem Odd.same {K : PySem.W.Frag} {H G : Hp} {v : V} (h : Odd K H v) (s : Same H G) : Odd K G v := by
  cases h with
  | non => exact .non
  | bl b => exact .bl b
  | int i => exact .int i
  | str x => exact .str x
  | lst h => exact .lst (s _ _ h)
  | tup h => exact .tup (s _ _ h)
  | dct h => exact .dct (s _ _ h)
  | ins h I => exact .ins (s _ _ h) I
def isI : V → Bool
  | .int _ => true
  | _ => false
def isC : V → Bool
  | .int i => decide (0 ≤ i)
  | _ => false
def flat (v : V) : Prop := ∀ a, v ≠ .ref a
def spIs (K : PySem.W.Frag) : Sp := fun vs H Q _ => ∃ v, vs = [v] ∧ Odd K H v ∧ Q (.bl (isI v)) H
def spKept (K : PySem.W.Frag) : Sp := fun vs H Q _ => ∃ v, vs = [v] ∧ Odd K H v ∧ flat v ∧ Q v H
/-- an error's __init__, its fields flat -/
def spErr (K : PySem.W.Frag) (C : Addr) (fs : List Str) : Sp := fun vs H Q _ => ∃ (a : Addr) (us : List V), vs = .ref a :: us ∧ us.length = fs.length ∧ H a = some (exo a C none) ∧ (∀ u ∈ us, Odd K H u ∧ flat u) ∧
  ∀ (dx : Addr) (G : Hp), H dx = none → dx ≠ a → G a = some (exo a C (some dx)) → G dx = some (exd dx ((fs.zip us).reverse)) → (∀ b o, b ≠ a → H b = some o → G b = some o) → Q .non G
theorem Odd.upd {K : PySem.W.Frag} {H : Hp} {v : V} (h : Odd K H v) (f : flat v) {G : Hp} : Odd K G v := by
  cases h with
  | non => exact .non
  | bl b => exact .bl b
  | int i => exact .int i
  | str x => exact .str x
  | lst h => exact absurd rfl (f _)
  | tup h => exact absurd rfl (f _)
  | dct h => exact absurd rfl (f _)
  | ins h I => exact absurd rfl (f _)
/-- Base.__init__(self, text) -/
theorem base_step {K : PySem.W.Frag} {C a : Addr} {H : Hp} {σ : L2.St} {D : Ends} {tx : Str} (T : OexC K C) (h0 : σ[0]? = some (some (.ref a))) (ha : H a = some (exo a C none)) (q : D.nx σ H) : tDrop (tVeI K (tCons (tVar 0) (tCons (tC (.str tx)) tNil))) D σ H :=
  ⟨_, h0, a, C, _, rfl, (by show 1 ≤ 1000; decide), T, ha, q⟩
/-- C(..), raised -/
theorem err_read {K : PySem.W.Frag} {C : Addr} {fs : List Str} {us : List V} {H : Hp} {Q : XK} (hl : us.length = fs.length) (hz : us.length ≤ 1000) (fu : ∀ u ∈ us, flat u) (ou : ∀ u ∈ us, Odd K H u) (k : ∀ d G, Same H G → G d = some (.xd ((fs.zip us).reverse)) → Q (.ref C) (some d) G) :
    us.length ≤ 1000 ∧ ∀ a, H a = none → spErr K C fs (.ref a :: (us ++ [])) (upd H a (exo a C none)) (fun v H2 => v = .non ∧ ∃ (d : Addr) (gs : List (Str × V)), H2 a = some (exo a C (some d)) ∧ H2 d = some (exd d gs) ∧ H d = none ∧ Q (.ref C) (some d) (upd (L2.del H2 a) d (.xd gs))) (fun _ _ _ => False) := by
  refine ⟨hz, fun a na => ⟨a, us, by rw [List.append_nil], hl, upd_same, fun u hu => ⟨(ou u hu).upd (fu u hu), fu u hu⟩, fun dx G nd ne e1 e2 bt => ⟨rfl, dx, _, e1, e2, ?_, k dx _ (fun b o e => ?_) upd_same⟩⟩⟩
  · rw [upd_ne ne] at nd; exact nd
  · have n1 : b ≠ a := ne_of_none e na
    have n2 : b ≠ dx := ne_of_none e (by rw [upd_ne ne] at nd; exact nd)
    rw [upd_ne n2, L2.del_ne n1]
    exact bt b o n1 (by rw [upd_ne n1]; exact e)
theorem fl_int (i : Int) : flat (.int i) := fun _ z => nomatch z
theorem fl_str (x : Str) : flat (.str x) := fun _ z => nomatch z
def spMany (C : Addr) : Sp := fun vs H Q E => ∃ i : Int, vs = [.int i] ∧ (2 ≤ i ∧ i ≤ 26 → Q .non H) ∧ (¬ (2 ≤ i ∧ i ≤ 26) → ∀ d G, Same H G → G d = some (.xd [("most", .int 26), ("many", .int i), ("what", .str "signs")]) → E (.ref C) (some d) G)
/-- the first element that is no count has the index i -/
def BadAt (xs : List V) (i : Nat) : Prop := (∃ v, xs[i]? = some v ∧ isC v = false) ∧ ∀ j v, j < i → xs[j]? = some v → isC v = true
def spCheck (K : PySem.W.Frag) (C1 C2 : Addr) : Sp := fun vs H Q E => ∃ (a : Addr) (xs : List V), vs = [.ref a] ∧ SqE K H a xs ∧ (∀ x ∈ xs, Odd K H x) ∧
  (2 ≤ xs.length ∧ xs.length ≤ 26 → (∀ x ∈ xs, isC x = true) → ∀ G, Same H G → Q .non G) ∧
  (¬ (2 ≤ xs.length ∧ xs.length ≤ 26) → ∀ d G, Same H G → G d = some (.xd [("most", .int 26), ("many", .int ((xs.length : Nat) : Int)), ("what", .str "signs")]) → E (.ref C1) (some d) G) ∧
  (2 ≤ xs.length ∧ xs.length ≤ 26 → ∀ i : Nat, BadAt xs i → ∀ d G, Same H G → G d = some (.xd [("index", .int (i : Int))]) → E (.ref C2) (some d) G)
section
variable {P : Program} {w : World} {K : PySem.W.Frag} {mg : Str → Option Value} {base : Heap} {A : Ad}
theorem sc_isint : FnScope ["value"] ["value"] (defScope s_isint) := ⟨rfl, rfl, rfl, by decide +kernel, rfl, by decide +kernel, by decide +kernel⟩
theorem ok_isint (T : Txt K mg A) : FnOk P w K mg base CX0 1 A.a_isint A.d_isint ["value"] (spIs K) := by
  refine T.F_isint.ok sc_isint (fun vs H Q E h => ?_) (fun cdv Ar outer s H vs Q E hr h => ?_)
  · obtain ⟨i, rfl, _⟩ := h; rfl
  · obtain ⟨v, rfl, hv, kq⟩ := h
    refine ⟨_, (pss_one (ps_ret (pe_and (pe_callB call_isi (by rfl) T.z_isinstance (by decide +kernel) (pa_cons (pv 0) (pa_cons (pe_bltn (v := .ty "int") (by rfl) T.z_int (by decide +kernel) rfl) pa_nil))) (pe_one (pe_not (pe_callB call_isi (by rfl) T.z_isinstance (by decide +kernel) (pa_cons (pv 0) (pa_cons (pe_bltn (v := .ty "bool") (by rfl) T.z_bool (by decide +kernel) rfl) pa_nil)))))))), ?_⟩
    cases hv with
    | int i =>
      refine ⟨_, rfl, _, .ty "int", .type "int", .type "int", true, rfl, .ty "int", .base (.int i), kit_ty (by decide +kernel), true, rfl, iteT ?_⟩
      exact ⟨_, rfl, _, .ty "bool", .type "int", .type "bool", false, rfl, .ty "bool", .base (.int i), kit_ty (by decide +kernel), _, rfl, kq⟩
    | bl b =>
      refine ⟨_, rfl, _, .ty "int", .type "bool", .type "int", true, rfl, .ty "int", .base (.bl b), kit_ty (by decide +kernel), true, rfl, iteT ?_⟩
      exact ⟨_, rfl, _, .ty "bool", .type "bool", .type "bool", true, rfl, .ty "bool", .base (.bl b), kit_ty (by decide +kernel), _, rfl, kq⟩
    | non => exact ⟨_, rfl, _, .ty "int", .type "NoneType", .type "int", false, rfl, .ty "int", .base .non, kit_ty (by decide +kernel), false, rfl, iteF kq⟩
    | str x => exact ⟨_, rfl, _, .ty "int", .type "str", .type "int", false, rfl, .ty "int", .base (.str x), kit_ty (by decide +kernel), false, rfl, iteF kq⟩
    | lst h => exact ⟨_, rfl, _, .ty "int", .type "list", .type "int", false, rfl, .ty "int", .base (.lst h), kit_ty (by decide +kernel), false, rfl, iteF kq⟩
    | tup h => exact ⟨_, rfl, _, .ty "int", .type "tuple", .type "int", false, rfl, .ty "int", .base (.tup h), kit_ty (by decide +kernel), false, rfl, iteF kq⟩
    | dct h => exact ⟨_, rfl, _, .ty "int", .type "dict", .type "int", false, rfl, .ty "int", .base (.dK h), kit_ty (by decide +kernel), false, rfl, iteF kq⟩
    | ins h I => exact ⟨_, rfl, _, .ty "int", .ref _, .type "int", false, rfl, .ty "int", .base (.ins h I.cl I.ha I.hn I.ht I.hm), I.ki, false, rfl, iteF kq⟩
theorem sc_kept : FnScope ["value", "part", "key"] ["value"] (defScope s_kept) := ⟨rfl, rfl, rfl, by decide +kernel, rfl, by decide +kernel, by decide +kernel⟩
theorem ok_kept (T : Txt K mg A) : FnOk P w K mg base CX0 1 A.a_kept A.d_kept ["value"] (spKept K) := by
  refine T.F_kept.ok sc_kept (fun vs H Q E h => ?_) (fun cdv Ar outer s H vs Q E hr h => ?_)
  · obtain ⟨i, rfl, _⟩ := h; rfl
  · obtain ⟨v, rfl, hv, fv, kq⟩ := h
    refine ⟨_, (pss_cons (ps_if (pt_val (pe_callB call_isi (by rfl) T.z_isinstance (by decide +kernel) (pa_cons (pv 0) (pa_cons (pe_bltn (v := .ty "list") (by rfl) T.z_list (by decide +kernel) rfl) pa_nil)))) (pss_one ps_never)
        pss_nil)
      (pss_cons (ps_if (pt_val (pe_callB call_isi (by rfl) T.z_isinstance (by decide +kernel) (pa_cons (pv 0) (pa_cons (pe_bltn (v := .ty "tuple") (by rfl) T.z_tuple (by decide +kernel) rfl) pa_nil)))) (pss_one ps_never)
        pss_nil)
      (pss_cons (ps_if (pt_val (pe_callB call_isi (by rfl) T.z_isinstance (by decide +kernel) (pa_cons (pv 0) (pa_cons (pe_bltn (v := .ty "dict") (by rfl) T.z_dict (by decide +kernel) rfl) pa_nil)))) (pss_one ps_never)
        pss_nil)
      (pss_one (ps_ret (pv 0)))))), ?_⟩
    cases hv with
    | int i =>
      refine ⟨_, rfl, _, .ty "list", .type "int", .type "list", false, rfl, .ty "list", .base (.int i), kit_ty (by decide +kernel), false, rfl, iteF ?_⟩
      refine ⟨_, rfl, _, .ty "tuple", .type "int", .type "tuple", false, rfl, .ty "tuple", .base (.int i), kit_ty (by decide +kernel), false, rfl, iteF ?_⟩
      refine ⟨_, rfl, _, .ty "dict", .type "int", .type "dict", false, rfl, .ty "dict", .base (.int i), kit_ty (by decide +kernel), false, rfl, iteF ?_⟩
      exact ⟨_, rfl, kq⟩
    | bl b =>
      refine ⟨_, rfl, _, .ty "list", .type "bool", .type "list", false, rfl, .ty "list", .base (.bl b), kit_ty (by decide +kernel), false, rfl, iteF ?_⟩
      refine ⟨_, rfl, _, .ty "tuple", .type "bool", .type "tuple", false, rfl, .ty "tuple", .base (.bl b), kit_ty (by decide +kernel), false, rfl, iteF ?_⟩
      refine ⟨_, rfl, _, .ty "dict", .type "bool", .type "dict", false, rfl, .ty "dict", .base (.bl b), kit_ty (by decide +kernel), false, rfl, iteF ?_⟩
      exact ⟨_, rfl, kq⟩
    | non =>
      refine ⟨_, rfl, _, .ty "list", .type "NoneType", .type "list", false, rfl, .ty "list", .base (.non), kit_ty (by decide +kernel), false, rfl, iteF ?_⟩
      refine ⟨_, rfl, _, .ty "tuple", .type "NoneType", .type "tuple", false, rfl, .ty "tuple", .base (.non), kit_ty (by decide +kernel), false, rfl, iteF ?_⟩
      refine ⟨_, rfl, _, .ty "dict", .type "NoneType", .type "dict", false, rfl, .ty "dict", .base (.non), kit_ty (by decide +kernel), false, rfl, iteF ?_⟩
      exact ⟨_, rfl, kq⟩
    | str x =>
      refine ⟨_, rfl, _, .ty "list", .type "str", .type "list", false, rfl, .ty "list", .base (.str x), kit_ty (by decide +kernel), false, rfl, iteF ?_⟩
      refine ⟨_, rfl, _, .ty "tuple", .type "str", .type "tuple", false, rfl, .ty "tuple", .base (.str x), kit_ty (by decide +kernel), false, rfl, iteF ?_⟩
      refine ⟨_, rfl, _, .ty "dict", .type "str", .type "dict", false, rfl, .ty "dict", .base (.str x), kit_ty (by decide +kernel), false, rfl, iteF ?_⟩
      exact ⟨_, rfl, kq⟩
    | lst h => exact absurd rfl (fv _)
    | tup h => exact absurd rfl (fv _)
    | dct h => exact absurd rfl (fv _)
    | ins h I => exact absurd rfl (fv _)
theorem sc_TooMany : FnScope ["self", "what", "many", "most"] ["self", "what", "many", "most"] (defScope s_TooMany) := ⟨rfl, rfl, rfl, by decide +kernel, rfl, by decide +kernel, by decide +kernel⟩
theorem ok_TooMany (T : Txt K mg A) : FnOk P w K mg base CX0 2 A.i_TooMany A.d_TooMany ["self", "what", "many", "most"] (spErr K A.c_TooMany ["what", "many", "most"]) := by
  have G_kept := ok_kept (P := P) (w := w) (base := base) T
  refine T.E_TooMany.F.ok sc_TooMany (fun vs H Q E h => ?_) (fun cdv Ar outer s H vs Q E hr h => ?_)
  · obtain ⟨a, us, rfl, hl, _⟩ := h; exact congrArg Nat.succ hl
  · obtain ⟨a, us, rfl, hl, ha, hA, k⟩ := h
    match us, hl, hA with
    | [u0, u1, u2], _, hA =>
      refine ⟨_, (pss_cons (ps_expr (pe_binit T.B (by rfl) T.gj (pa_cons (pv 0) (pa_cons pe_str pa_nil))))
        (pss_cons (ps_ost (pv 0) (pe_call G_kept (hr.mono (by decide)) (by rfl) T.g_kept T.F_kept.kp T.b_kept .nil pass0 (pa_cons (pv 1) pa_nil)))
        (pss_cons (ps_ost (pv 0) (pe_call G_kept (hr.mono (by decide)) (by rfl) T.g_kept T.F_kept.kp T.b_kept .nil pass0 (pa_cons (pv 2) pa_nil)))
        (pss_one (ps_ost (pv 0) (pe_call G_kept (hr.mono (by decide)) (by rfl) T.g_kept T.F_kept.kp T.b_kept .nil pass0 (pa_cons (pv 3) pa_nil))))))), ?_⟩
      refine base_step T.E_TooMany.E.T rfl ha ?_
      obtain ⟨o0, f0⟩ := hA u0 (by simp)
      obtain ⟨o1, f1⟩ := hA u1 (by simp)
      obtain ⟨o2, f2⟩ := hA u2 (by simp)
      refine ⟨_, rfl, u0, rfl, o0.upd f0, f0, _, rfl, a, A.c_TooMany, rfl, T.E_TooMany.E.T, T.E_TooMany.no "what" (by decide +kernel), .inl ⟨ha, fun dx nx ne => ?_⟩⟩
      have e1 : (upd (upd H dx (exd dx [("what", u0)])) a (exo a A.c_TooMany (some dx))) a = some (exo a A.c_TooMany (some dx)) := upd_same
      have e2 : (upd (upd H dx (exd dx [("what", u0)])) a (exo a A.c_TooMany (some dx))) dx = some (exd dx [("what", u0)]) := by rw [upd_ne ne]; exact upd_same
      have bt : ∀ b o, b ≠ a → H b = some o → (upd (upd H dx (exd dx [("what", u0)])) a (exo a A.c_TooMany (some dx))) b = some o := fun b o nb e => by rw [upd_ne nb, upd_ne (ne_of_none e nx)]; exact e
      generalize (upd (upd H dx (exd dx [("what", u0)])) a (exo a A.c_TooMany (some dx))) = H1 at *
      refine ⟨_, rfl, u1, rfl, o1.upd f1, f1, _, rfl, a, A.c_TooMany, rfl, T.E_TooMany.E.T, T.E_TooMany.no "many" (by decide +kernel), .inr ⟨dx, _, e1, e2, (by show 1 ≤ 900; decide), ?_⟩⟩
      have e1 : upd H1 dx (exd dx [("many", u1), ("what", u0)]) a = some (exo a A.c_TooMany (some dx)) := by rw [upd_ne ne.symm]; exact e1
      have e2 : upd H1 dx (exd dx [("many", u1), ("what", u0)]) dx = some (exd dx [("many", u1), ("what", u0)]) := upd_same
      have bt : ∀ b o, b ≠ a → H b = some o → upd H1 dx (exd dx [("many", u1), ("what", u0)]) b = some o := fun b o nb e => by rw [upd_ne (ne_of_none e nx)]; exact bt b o nb e
      generalize upd H1 dx (exd dx [("many", u1), ("what", u0)]) = H2 at *
      refine ⟨_, rfl, u2, rfl, o2.upd f2, f2, _, rfl, a, A.c_TooMany, rfl, T.E_TooMany.E.T, T.E_TooMany.no "most" (by decide +kernel), .inr ⟨dx, _, e1, e2, (by show 2 ≤ 900; decide), ?_⟩⟩
      have e1 : upd H2 dx (exd dx [("most", u2), ("many", u1), ("what", u0)]) a = some (exo a A.c_TooMany (some dx)) := by rw [upd_ne ne.symm]; exact e1
      have e2 : upd H2 dx (exd dx [("most", u2), ("many", u1), ("what", u0)]) dx = some (exd dx [("most", u2), ("many", u1), ("what", u0)]) := upd_same
      have bt : ∀ b o, b ≠ a → H b = some o → upd H2 dx (exd dx [("most", u2), ("many", u1), ("what", u0)]) b = some o := fun b o nb e => by rw [upd_ne (ne_of_none e nx)]; exact bt b o nb e
      generalize upd H2 dx (exd dx [("most", u2), ("many", u1), ("what", u0)]) = H3 at *
      exact k dx _ nx ne e1 e2 bt
theorem sc_BadCount : FnScope ["self", "index"] ["self", "index"] (defScope s_BadCount) := ⟨rfl, rfl, rfl, by decide +kernel, rfl, by decide +kernel, by decide +kernel⟩
theorem ok_BadCount (T : Txt K mg A) : FnOk P w K mg base CX0 2 A.i_BadCount A.d_BadCount ["self", "index"] (spErr K A.c_BadCount ["index"]) := by
  have G_kept := ok_kept (P := P) (w := w) (base := base) T
  refine T.E_BadCount.F.ok sc_BadCount (fun vs H Q E h => ?_) (fun cdv Ar outer s H vs Q E hr h => ?_)
  · obtain ⟨a, us, rfl, hl, _⟩ := h; exact congrArg Nat.succ hl
  · obtain ⟨a, us, rfl, hl, ha, hA, k⟩ := h
    match us, hl, hA with
    | [u0], _, hA =>
      refine ⟨_, (pss_cons (ps_expr (pe_binit T.B (by rfl) T.gj (pa_cons (pv 0) (pa_cons pe_str pa_nil))))
        (pss_one (ps_ost (pv 0) (pe_call G_kept (hr.mono (by decide)) (by rfl) T.g_kept T.F_kept.kp T.b_kept .nil pass0 (pa_cons (pv 1) pa_nil))))), ?_⟩
      refine base_step T.E_BadCount.E.T rfl ha ?_
      obtain ⟨o0, f0⟩ := hA u0 (by simp)
      refine ⟨_, rfl, u0, rfl, o0.upd f0, f0, _, rfl, a, A.c_BadCount, rfl, T.E_BadCount.E.T, T.E_BadCount.no "index" (by decide +kernel), .inl ⟨ha, fun dx nx ne => ?_⟩⟩
      have e1 : (upd (upd H dx (exd dx [("index", u0)])) a (exo a A.c_BadCount (some dx))) a = some (exo a A.c_BadCount (some dx)) := upd_same
      have e2 : (upd (upd H dx (exd dx [("index", u0)])) a (exo a A.c_BadCount (some dx))) dx = some (exd dx [("index", u0)]) := by rw [upd_ne ne]; exact upd_same
      have bt : ∀ b o, b ≠ a → H b = some o → (upd (upd H dx (exd dx [("index", u0)])) a (exo a A.c_BadCount (some dx))) b = some o := fun b o nb e => by rw [upd_ne nb, upd_ne (ne_of_none e nx)]; exact e
      generalize (upd (upd H dx (exd dx [("index", u0)])) a (exo a A.c_BadCount (some dx))) = H1 at *
      exact k dx _ nx ne e1 e2 bt
theorem sc_BadLength : FnScope ["self", "index"] ["self", "index"] (defScope s_BadLength) := ⟨rfl, rfl, rfl, by decide +kernel, rfl, by decide +kernel, by decide +kernel⟩
theorem ok_BadLength (T : Txt K mg A) : FnOk P w K mg base CX0 2 A.i_BadLength A.d_BadLength ["self", "index"] (spErr K A.c_BadLength ["index"]) := by
  have G_kept := ok_kept (P := P) (w := w) (base := base) T
  refine T.E_BadLength.F.ok sc_BadLength (fun vs H Q E h => ?_) (fun cdv Ar outer s H vs Q E hr h => ?_)
  · obtain ⟨a, us, rfl, hl, _⟩ := h; exact congrArg Nat.succ hl
  · obtain ⟨a, us, rfl, hl, ha, hA, k⟩ := h
    match us, hl, hA with
    | [u0], _, hA =>
      refine ⟨_, (pss_cons (ps_expr (pe_binit T.B (by rfl) T.gj (pa_cons (pv 0) (pa_cons pe_str pa_nil))))
        (pss_one (ps_ost (pv 0) (pe_call G_kept (hr.mono (by decide)) (by rfl) T.g_kept T.F_kept.kp T.b_kept .nil pass0 (pa_cons (pv 1) pa_nil))))), ?_⟩
      refine base_step T.E_BadLength.E.T rfl ha ?_
      obtain ⟨o0, f0⟩ := hA u0 (by simp)
      refine ⟨_, rfl, u0, rfl, o0.upd f0, f0, _, rfl, a, A.c_BadLength, rfl, T.E_BadLength.E.T, T.E_BadLength.no "index" (by decide +kernel), .inl ⟨ha, fun dx nx ne => ?_⟩⟩
      have e1 : (upd (upd H dx (exd dx [("index", u0)])) a (exo a A.c_BadLength (some dx))) a = some (exo a A.c_BadLength (some dx)) := upd_same
      have e2 : (upd (upd H dx (exd dx [("index", u0)])) a (exo a A.c_BadLength (some dx))) dx = some (exd dx [("index", u0)]) := by rw [upd_ne ne]; exact upd_same
      have bt : ∀ b o, b ≠ a → H b = some o → (upd (upd H dx (exd dx [("index", u0)])) a (exo a A.c_BadLength (some dx))) b = some o := fun b o nb e => by rw [upd_ne nb, upd_ne (ne_of_none e nx)]; exact e
      generalize (upd (upd H dx (exd dx [("index", u0)])) a (exo a A.c_BadLength (some dx))) = H1 at *
      exact k dx _ nx ne e1 e2 bt
theorem sc_BadWord : FnScope ["self", "index"] ["self", "index"] (defScope s_BadWord) := ⟨rfl, rfl, rfl, by decide +kernel, rfl, by decide +kernel, by decide +kernel⟩
theorem ok_BadWord (T : Txt K mg A) : FnOk P w K mg base CX0 2 A.i_BadWord A.d_BadWord ["self", "index"] (spErr K A.c_BadWord ["index"]) := by
  have G_kept := ok_kept (P := P) (w := w) (base := base) T
  refine T.E_BadWord.F.ok sc_BadWord (fun vs H Q E h => ?_) (fun cdv Ar outer s H vs Q E hr h => ?_)
  · obtain ⟨a, us, rfl, hl, _⟩ := h; exact congrArg Nat.succ hl
  · obtain ⟨a, us, rfl, hl, ha, hA, k⟩ := h
    match us, hl, hA with
    | [u0], _, hA =>
      refine ⟨_, (pss_cons (ps_expr (pe_binit T.B (by rfl) T.gj (pa_cons (pv 0) (pa_cons pe_str pa_nil))))
        (pss_one (ps_ost (pv 0) (pe_call G_kept (hr.mono (by decide)) (by rfl) T.g_kept T.F_kept.kp T.b_kept .nil pass0 (pa_cons (pv 1) pa_nil))))), ?_⟩
      refine base_step T.E_BadWord.E.T rfl ha ?_
      obtain ⟨o0, f0⟩ := hA u0 (by simp)
      refine ⟨_, rfl, u0, rfl, o0.upd f0, f0, _, rfl, a, A.c_BadWord, rfl, T.E_BadWord.E.T, T.E_BadWord.no "index" (by decide +kernel), .inl ⟨ha, fun dx nx ne => ?_⟩⟩
      have e1 : (upd (upd H dx (exd dx [("index", u0)])) a (exo a A.c_BadWord (some dx))) a = some (exo a A.c_BadWord (some dx)) := upd_same
      have e2 : (upd (upd H dx (exd dx [("index", u0)])) a (exo a A.c_BadWord (some dx))) dx = some (exd dx [("index", u0)]) := by rw [upd_ne ne]; exact upd_same
      have bt : ∀ b o, b ≠ a → H b = some o → (upd (upd H dx (exd dx [("index", u0)])) a (exo a A.c_BadWord (some dx))) b = some o := fun b o nb e => by rw [upd_ne nb, upd_ne (ne_of_none e nx)]; exact e
      generalize (upd (upd H dx (exd dx [("index", u0)])) a (exo a A.c_BadWord (some dx))) = H1 at *
      exact k dx _ nx ne e1 e2 bt
theorem sc_Begins : FnScope ["self", "index", "other"] ["self", "index", "other"] (defScope s_Begins) := ⟨rfl, rfl, rfl, by decide +kernel, rfl, by decide +kernel, by decide +kernel⟩
theorem ok_Begins (T : Txt K mg A) : FnOk P w K mg base CX0 2 A.i_Begins A.d_Begins ["self", "index", "other"] (spErr K A.c_Begins ["index", "other"]) := by
  have G_kept := ok_kept (P := P) (w := w) (base := base) T
  refine T.E_Begins.F.ok sc_Begins (fun vs H Q E h => ?_) (fun cdv Ar outer s H vs Q E hr h => ?_)
  · obtain ⟨a, us, rfl, hl, _⟩ := h; exact congrArg Nat.succ hl
  · obtain ⟨a, us, rfl, hl, ha, hA, k⟩ := h
    match us, hl, hA with
    | [u0, u1], _, hA =>
      refine ⟨_, (pss_cons (ps_expr (pe_binit T.B (by rfl) T.gj (pa_cons (pv 0) (pa_cons pe_str pa_nil))))
        (pss_cons (ps_ost (pv 0) (pe_call G_kept (hr.mono (by decide)) (by rfl) T.g_kept T.F_kept.kp T.b_kept .nil pass0 (pa_cons (pv 1) pa_nil)))
        (pss_one (ps_ost (pv 0) (pe_call G_kept (hr.mono (by decide)) (by rfl) T.g_kept T.F_kept.kp T.b_kept .nil pass0 (pa_cons (pv 2) pa_nil)))))), ?_⟩
      refine base_step T.E_Begins.E.T rfl ha ?_
      obtain ⟨o0, f0⟩ := hA u0 (by simp)
      obtain ⟨o1, f1⟩ := hA u1 (by simp)
      refine ⟨_, rfl, u0, rfl, o0.upd f0, f0, _, rfl, a, A.c_Begins, rfl, T.E_Begins.E.T, T.E_Begins.no "index" (by decide +kernel), .inl ⟨ha, fun dx nx ne => ?_⟩⟩
      have e1 : (upd (upd H dx (exd dx [("index", u0)])) a (exo a A.c_Begins (some dx))) a = some (exo a A.c_Begins (some dx)) := upd_same
      have e2 : (upd (upd H dx (exd dx [("index", u0)])) a (exo a A.c_Begins (some dx))) dx = some (exd dx [("index", u0)]) := by rw [upd_ne ne]; exact upd_same
      have bt : ∀ b o, b ≠ a → H b = some o → (upd (upd H dx (exd dx [("index", u0)])) a (exo a A.c_Begins (some dx))) b = some o := fun b o nb e => by rw [upd_ne nb, upd_ne (ne_of_none e nx)]; exact e
      generalize (upd (upd H dx (exd dx [("index", u0)])) a (exo a A.c_Begins (some dx))) = H1 at *
      refine ⟨_, rfl, u1, rfl, o1.upd f1, f1, _, rfl, a, A.c_Begins, rfl, T.E_Begins.E.T, T.E_Begins.no "other" (by decide +kernel), .inr ⟨dx, _, e1, e2, (by show 1 ≤ 900; decide), ?_⟩⟩
      have e1 : upd H1 dx (exd dx [("other", u1), ("index", u0)]) a = some (exo a A.c_Begins (some dx)) := by rw [upd_ne ne.symm]; exact e1
      have e2 : upd H1 dx (exd dx [("other", u1), ("index", u0)]) dx = some (exd dx [("other", u1), ("index", u0)]) := upd_same
      have bt : ∀ b o, b ≠ a → H b = some o → upd H1 dx (exd dx [("other", u1), ("index", u0)]) b = some o := fun b o nb e => by rw [upd_ne (ne_of_none e nx)]; exact bt b o nb e
      generalize upd H1 dx (exd dx [("other", u1), ("index", u0)]) = H2 at *
      exact k dx _ nx ne e1 e2 bt
theorem sc_OtherSize : FnScope ["self", "many", "wanted"] ["self", "many", "wanted"] (defScope s_OtherSize) := ⟨rfl, rfl, rfl, by decide +kernel, rfl, by decide +kernel, by decide +kernel⟩
theorem ok_OtherSize (T : Txt K mg A) : FnOk P w K mg base CX0 2 A.i_OtherSize A.d_OtherSize ["self", "many", "wanted"] (spErr K A.c_OtherSize ["many", "wanted"]) := by
  have G_kept := ok_kept (P := P) (w := w) (base := base) T
  refine T.E_OtherSize.F.ok sc_OtherSize (fun vs H Q E h => ?_) (fun cdv Ar outer s H vs Q E hr h => ?_)
  · obtain ⟨a, us, rfl, hl, _⟩ := h; exact congrArg Nat.succ hl
  · obtain ⟨a, us, rfl, hl, ha, hA, k⟩ := h
    match us, hl, hA with
    | [u0, u1], _, hA =>
      refine ⟨_, (pss_cons (ps_expr (pe_binit T.B (by rfl) T.gj (pa_cons (pv 0) (pa_cons pe_str pa_nil))))
        (pss_cons (ps_ost (pv 0) (pe_call G_kept (hr.mono (by decide)) (by rfl) T.g_kept T.F_kept.kp T.b_kept .nil pass0 (pa_cons (pv 1) pa_nil)))
        (pss_one (ps_ost (pv 0) (pe_call G_kept (hr.mono (by decide)) (by rfl) T.g_kept T.F_kept.kp T.b_kept .nil pass0 (pa_cons (pv 2) pa_nil)))))), ?_⟩
      refine base_step T.E_OtherSize.E.T rfl ha ?_
      obtain ⟨o0, f0⟩ := hA u0 (by simp)
      obtain ⟨o1, f1⟩ := hA u1 (by simp)
      refine ⟨_, rfl, u0, rfl, o0.upd f0, f0, _, rfl, a, A.c_OtherSize, rfl, T.E_OtherSize.E.T, T.E_OtherSize.no "many" (by decide +kernel), .inl ⟨ha, fun dx nx ne => ?_⟩⟩
      have e1 : (upd (upd H dx (exd dx [("many", u0)])) a (exo a A.c_OtherSize (some dx))) a = some (exo a A.c_OtherSize (some dx)) := upd_same
      have e2 : (upd (upd H dx (exd dx [("many", u0)])) a (exo a A.c_OtherSize (some dx))) dx = some (exd dx [("many", u0)]) := by rw [upd_ne ne]; exact upd_same
      have bt : ∀ b o, b ≠ a → H b = some o → (upd (upd H dx (exd dx [("many", u0)])) a (exo a A.c_OtherSize (some dx))) b = some o := fun b o nb e => by rw [upd_ne nb, upd_ne (ne_of_none e nx)]; exact e
      generalize (upd (upd H dx (exd dx [("many", u0)])) a (exo a A.c_OtherSize (some dx))) = H1 at *
      refine ⟨_, rfl, u1, rfl, o1.upd f1, f1, _, rfl, a, A.c_OtherSize, rfl, T.E_OtherSize.E.T, T.E_OtherSize.no "wanted" (by decide +kernel), .inr ⟨dx, _, e1, e2, (by show 1 ≤ 900; decide), ?_⟩⟩
      have e1 : upd H1 dx (exd dx [("wanted", u1), ("many", u0)]) a = some (exo a A.c_OtherSize (some dx)) := by rw [upd_ne ne.symm]; exact e1
      have e2 : upd H1 dx (exd dx [("wanted", u1), ("many", u0)]) dx = some (exd dx [("wanted", u1), ("many", u0)]) := upd_same
      have bt : ∀ b o, b ≠ a → H b = some o → upd H1 dx (exd dx [("wanted", u1), ("many", u0)]) b = some o := fun b o nb e => by rw [upd_ne (ne_of_none e nx)]; exact bt b o nb e
      generalize upd H1 dx (exd dx [("wanted", u1), ("many", u0)]) = H2 at *
      exact k dx _ nx ne e1 e2 bt
theorem sc_checkmany : FnScope ["many"] ["many"] (defScope s_checkmany) := ⟨rfl, rfl, rfl, by decide +kernel, rfl, by decide +kernel, by decide +kernel⟩
theorem ok_checkmany (T : Txt K mg A) : FnOk P w K mg base (L2.CX P w) 4 A.a_checkmany A.d_checkmany ["many"] (spMany A.c_TooMany) := by
  have G_TooMany := ok_TooMany (P := P) (w := w) (base := base) T
  refine T.F_checkmany.okX sc_checkmany (fun vs H Q E h => ?_) (fun cdv Ar outer s H vs Q E hr h => ?_)
  · obtain ⟨i, rfl, _⟩ := h; rfl
  · obtain ⟨i, rfl, kq, ke⟩ := h
    refine ⟨_, (pss_one (ps_if (PW.pt (pw_or (pt_cmpR op_lt (pv 0) (pe_glob (v := .int 2) rfl (Classical.choose_spec T.k_FEWEST_SIGNS) ⟨_, rfl⟩) (nomark _)) (pw_or1 (pt_cmpR op_gt (pv 0) (pe_glob (v := .int 26) rfl (Classical.choose_spec T.k_MOST_SIGNS) ⟨_, rfl⟩) (nomark _))))) (pss_one (ps_raise rfl (takes_of rfl rfl rfl rfl) (pmk_oex T.E_TooMany.E.T T.E_TooMany.E.iC T.E_TooMany.E.tI G_TooMany (hr.mono (by decide)) T.E_TooMany.bb .nil pass0 (by rfl) T.E_TooMany.g (pa_cons pe_str (pa_cons (pv 0) (pa_cons (pe_glob (v := .int 26) rfl (Classical.choose_spec T.k_MOST_SIGNS) ⟨_, rfl⟩) pa_nil))))))
        pss_nil)), ?_⟩
    have rd : ¬ (2 ≤ i ∧ i ≤ 26) → _ := fun n => err_read (K := K) (Q := E) (C := A.c_TooMany) (fs := ["what", "many", "most"]) (us := [.str "signs", .int i, .int 26]) (H := H) rfl (by show 3 ≤ 1000; decide) (fun u hu => by simp only [List.mem_cons, List.not_mem_nil, or_false] at hu; rcases hu with rfl | rfl | rfl <;> intro _ z <;> cases z)
      (fun u hu => by simp only [List.mem_cons, List.not_mem_nil, or_false] at hu; rcases hu with rfl | rfl | rfl <;> constructor) (fun d G s e => ke n d G s e)
    refine ⟨_, rfl, _, _, rfl, rfl, _, rfl, ?_⟩
    by_cases c1 : i < 2
    · rw [decide_eq_true c1]
      exact iteT ⟨_, rfl, rd (by omega)⟩
    · rw [decide_eq_false c1]
      refine iteF ⟨_, rfl, _, _, rfl, rfl, _, rfl, ?_⟩
      by_cases c2 : 26 < i
      · rw [decide_eq_true c2]
        exact iteT ⟨_, rfl, rd (by omega)⟩
      · rw [decide_eq_false c2]
        exact iteF (kq ⟨by omega, by omega⟩)
theorem sc_checkcounts : FnScope ["counts", "index", "count"] ["counts"] (defScope s_checkcounts) := ⟨rfl, rfl, rfl, by decide +kernel, rfl, by decide +kernel, by decide +kernel⟩
theorem ok_checkcounts (T : Txt K mg A) : FnOk P w K mg base (L2.CX P w) 5 A.a_checkcounts A.d_checkcounts ["counts"] (spCheck K A.c_TooMany A.c_BadCount) := by
  have G_checkmany := ok_checkmany (P := P) (w := w) (base := base) T
  have G_BadCount := ok_BadCount (P := P) (w := w) (base := base) T
  have G_isint := ok_isint (P := P) (w := w) (base := base) T
  refine T.F_checkcounts.okX sc_checkcounts (fun vs H Q E h => ?_) (fun cdv Ar outer s H vs Q E hr h => ?_)
  · obtain ⟨a, xs, rfl, _⟩ := h; rfl
  · obtain ⟨a, xs, rfl, hs, ho, kq, k1, k2⟩ := h
    refine ⟨_, (pss_cons (ps_expr (pe_call G_checkmany (hr.mono (by decide)) (by rfl) T.g_checkmany T.F_checkmany.kp T.b_checkmany .nil (passes_call (takes_of rfl rfl rfl rfl) (fun _ _ _ _ h => h)) (pa_cons (pe_callB call_len_seq (by rfl) T.z_len PySem.boot_len (pa_cons (pv 0) pa_nil)) pa_nil)))
      (pss_one (ps_for (passes_of rfl) rfl (pi_or (pi_enum (by rfl) T.z_enumerate (pa_cons (pv 0) pa_nil)) (pi_enumF (by rfl) T.z_enumerate (pa_cons (pv 0) pa_nil))) (pg_tup (by rfl) (pgs_cons (pg_name (i := 1) sc_checkcounts.nd rfl (Or.inl rfl)) (pgs_cons (pg_name (i := 2) sc_checkcounts.nd rfl (Or.inl rfl)) pgs_nil)))
         (pss_one (ps_if (PW.pt (pw_or (pt_not (pt_val (pe_call G_isint (hr.mono (by decide)) (by rfl) T.g_isint T.F_isint.kp T.b_isint .nil pass0 (pa_cons (pv 2) pa_nil)))) (pw_or1 (pt_cmpR op_lt (pv 2) pe_int (nomark _))))) (pss_one (ps_raise rfl (takes_of rfl rfl rfl rfl) (pmk_oex T.E_BadCount.E.T T.E_BadCount.E.iC T.E_BadCount.E.tI G_BadCount (hr.mono (by decide)) T.E_BadCount.bb .nil pass0 (by rfl) T.E_BadCount.g (pa_cons (pv 1) pa_nil))))
           pss_nil))))), ?_⟩
    refine ⟨_, rfl, a, xs, rfl, hs, _, rfl, fun h26 => ?_, fun n d G s e => k1 (fun z => n ⟨by omega, by omega⟩) d G s e⟩
    have h26 : 2 ≤ xs.length ∧ xs.length ≤ 26 := ⟨by omega, by omega⟩
    refine enum_read (a := a) (xs := xs) rfl (enumE hs (fun i ρ G => (∃ y z, ρ = [some (.ref a), y, z]) ∧ Same H G ∧ ∀ j v, j < i → xs[j]? = some v → isC v = true) (fun _ _ _ h => h.2.1) ⟨⟨_, _, rfl⟩, Same.refl H, fun j v hj => absurd hj (Nat.not_lt_zero j)⟩ ?_ ?_)
    · rintro i x ρ G1 t hx ⟨⟨y, z, rfl⟩, sm, hb⟩ nt
      have sm1 : Same H (upd G1 t (.tup [.int (i : Int), x])) := sm.trans (same_new nt)
      have ox := (ho x (List.mem_of_getElem? hx)).same sm1
      refine ⟨t, _, rfl, SqT.of upd_same, rfl, _, _, rfl, _, _, rfl, rfl, ?_⟩
      generalize upd G1 t (.tup [.int (i : Int), x]) = G2 at sm1 ox ⊢
      have rd : isC x = false → _ := fun n => err_read (K := K) (Q := E) (C := A.c_BadCount) (fs := ["index"]) (us := [.int (i : Int)]) (H := G2) rfl (by show 1 ≤ 1000; decide) (fun u hu => by simp only [List.mem_cons, List.not_mem_nil, or_false] at hu; subst hu; exact fl_int _)
        (fun u hu => by simp only [List.mem_cons, List.not_mem_nil, or_false] at hu; subst hu; exact .int _) (fun d G s e => k2 h26 i ⟨⟨x, hx, n⟩, hb⟩ d G (sm1.trans s) e)
      refine ⟨_, rfl, x, rfl, ox, _, rfl, ?_⟩
      cases hI : isI x with
      | false =>
        have nc : isC x = false := by cases x <;> first | rfl | cases hI
        exact iteT ⟨_, rfl, rd nc⟩
      | true =>
        obtain ⟨n, rfl⟩ : ∃ n, x = .int n := by cases x <;> first | exact ⟨_, rfl⟩ | cases hI
        refine iteF ⟨_, rfl, _, _, rfl, rfl, _, rfl, ?_⟩
        by_cases c : n < 0
        · rw [decide_eq_true c]
          exact iteT ⟨_, rfl, rd (decide_eq_false (by omega))⟩
        · rw [decide_eq_false c]
          refine iteF ⟨⟨_, _, rfl⟩, sm1, fun j v hj hv => ?_⟩
          rcases Nat.lt_succ_iff_lt_or_eq.mp hj with hj | rfl
          · exact hb j v hj hv
          · rw [hx] at hv
            cases hv
            exact decide_eq_true (by omega)
    · rintro ρ G1 ⟨⟨y, z, rfl⟩, sm, hb⟩
      refine kq h26 (fun x hx => ?_) G1 sm
      obtain ⟨j, hj, e⟩ := List.getElem_of_mem hx
      exact hb j x hj (by rw [List.getElem?_eq_getElem hj, e])
end
end Z

set_option Elab.async false
set_option linter.all false
set_option maxRecDepth 100000
set_option maxHeartbeats 8000000
namespace Z
open PySem L2 XV
/-! the draws -/
theorem log_lt {n k : Nat} (h : n < 2 ^ k) (hk : 0 < k) : n.log2 < k := by
  by_cases e : n = 0
  · subst e; simpa using hk
  · exact (Nat.log2_lt e).mpr h
def But (d : Addr) (H H' : Hp) : Prop := ∀ x o, x ≠ d → H x = some o → H' x = some o
theorem But.upd {d : Addr} {H H' : Hp} {o : HO} (a : But d H H') : But d H (upd H' d o) := fun x u n h => by rw [upd_ne n]; exact a x u n h
theorem But.of {d : Addr} {H H' : Hp} (s : Same H H') : But d H H' := fun x o _ h => s x o h
theorem But.trans {d : Addr} {H H1 H2 : Hp} (a : But d H H1) (b : But d H1 H2) : But d H H2 := fun x o n h => b x o n (a x o n h)
theorem But.new {d p : Addr} {H H' : Hp} {o : HO} (a : But d H H') (h : H' p = none) (hd : H' d ≠ none) : But d H (L2.upd H' p o) := fun x u n z => by
  have q := a x u n z
  rw [upd_ne (ne_of_none q h)]
  exact q
/-- the pen's dict -/
def penK (l : Addr) (k m : Int) : List (Key × V) := [(.inr "cells", .ref l), (.inr "next", .int k), (.inr "left", .int m)]
theorem pen_merge (l : Addr) (k m : Int) : mergeK [] (penK l k m) = penK l k m := by kernel_rfl
theorem pen_c (l : Addr) (k m : Int) : valV (penK l k m) (Sum.inr "cells" : Key) = some (.ref l) := by kernel_rfl
theorem pen_o (l : Addr) (k m : Int) : valV (penK l k m) (Sum.inr "next" : Key) = some (.int k) := by kernel_rfl
theorem pen_l (l : Addr) (k m : Int) : valV (penK l k m) (Sum.inr "left" : Key) = some (.int m) := by kernel_rfl
theorem put_o (l : Addr) (k m k' : Int) : putK (penK l k m) (Sum.inr "next" : Key) (.int k') = penK l k' m := by kernel_rfl
theorem put_l (l : Addr) (k m m' : Int) : putK (penK l k m) (Sum.inr "left" : Key) (.int m') = penK l k m' := by kernel_rfl
/-- a pen at d: its cells, k of them opened, what is left -/
def Pen (H : Hp) (d l : Addr) (k : Nat) : Prop := ∃ (ns : List Int) (m : Int), H d = some (.dK (penK l (k : Int) m)) ∧ H l = some (.lst (ns.map V.int)) ∧ 0 ≤ m ∧ ns.length ≤ 63
theorem Pen.some {H : Hp} {d l : Addr} {k : Nat} (h : Pen H d l k) : ∃ x, H d = some (.dK ((Sum.inr "cells", V.ref l) :: x)) := by
  obtain ⟨ns, m, h, _⟩ := h
  exact ⟨_, h⟩
theorem Pen.cells {H : Hp} {d l : Addr} {k : Nat} (h : Pen H d l k) : ∃ xs, H l = Option.some (HO.lst xs) := by
  obtain ⟨ns, m, _, h, _⟩ := h
  exact ⟨_, h⟩
theorem Pen.same {H H' : Hp} {d l : Addr} {k : Nat} (h : Pen H d l k) (s : Same H H') : Pen H' d l k := by
  obtain ⟨ns, m, h1, h2, h3⟩ := h
  exact ⟨ns, m, s _ _ h1, s _ _ h2, h3⟩
theorem Pen.upd {H : Hp} {d l p : Addr} {k : Nat} {o : HO} (h : Pen H d l k) (h1 : d ≠ p) (h2 : l ≠ p) : Pen (upd H p o) d l k := by
  obtain ⟨ns, m, e1, e2, e3⟩ := h
  exact ⟨ns, m, by rw [upd_ne h1]; exact e1, by rw [upd_ne h2]; exact e2, e3⟩
theorem mul_l {i j : Int} (h1 : -(2 ^ 64) < i) (h2 : i < 2 ^ 64) : CMul i j := .inl ⟨h1, h2⟩
theorem mul_m {i j p : Int} (h : 0 < p) (hp : p ≤ 2 ^ 64) : CMul (i % p) j :=
  .inl ⟨Int.lt_of_lt_of_le (by decide) (Int.emod_nonneg _ (by omega)), Int.lt_of_lt_of_le (Int.emod_lt_of_pos _ h) hp⟩
theorem dp_ints {K : PySem.W.Frag} {H : Hp} : ∀ ns : List Int, DpAll K H (ns.map V.int) (ns.map PyData.int)
  | [] => .nil
  | n :: ns => .cons (.int n) (dp_ints ns)
theorem lay_ints : ∀ ns : List Int, PyData.canLayAll0 (ns.map PyData.int) = true ∧ PyData.depthAll (ns.map PyData.int) = 0
  | [] => by simp [PyData.canLayAll0, PyData.depthAll]
  | n :: ns => by
    obtain ⟨h1, h2⟩ := lay_ints ns
    simp [PyData.canLayAll0, PyData.canLay0, PyData.depthAll, PyData.depth, h1, h2]
theorem shaped_ints (ns : List Int) : SeqAt.shaped (.list (ns.map PyData.int)) = true := by
  obtain ⟨h1, h2⟩ := lay_ints ns
  simp [SeqAt.shaped, PyData.canLay0, PyData.depth, h1, h2]
theorem abs_nn (z : Int) : 0 ≤ (if z < 0 then -z else z) := by split <;> omega
/-! ### the promises -/
def spPen (K : PySem.W.Frag) : Sp := fun vs H Q _ => ∃ (a : Addr) (ns : List Int), vs = [.ref a] ∧ SqL K H a (ns.map V.int) ∧ ns.length ≤ 63 ∧ ∀ d l H', Pen H' d l 0 → Same H H' → H d = none → Q (.ref d) H'
def spDraw : Sp := fun vs H Q _ => ∃ (d l : Addr) (b : Int) (k : Nat), vs = [.ref d, .int b] ∧ Pen H d l k ∧ 0 < b ∧ b < 1000000 ∧ k ≤ 1000000 ∧ ∀ v H' k', 0 ≤ v → v < b → k' ≤ k + 1 → Pen H' d l k' → But d H H' → Q (.int v) H'
def spPick : Sp := fun vs H Q _ => ∃ (d l p : Addr) (xs : List V) (k : Nat), vs = [.ref d, .ref p] ∧ Pen H d l k ∧ H p = some (.lst xs) ∧ 0 < xs.length ∧ xs.length < 1000 ∧ k ≤ 1000000 ∧
  ∀ v H' k', v ∈ xs → k' ≤ k + 1 → Pen H' d l k' → But d H H' → Q v H'
section
variable {P : Program} {w : World} {K : PySem.W.Frag} {mg : Str → Option Value} {base : Heap} {A : Ad}
theorem sc_penof : FnScope ["_law_script"] ["_law_script"] (defScope s_penof) := ⟨rfl, rfl, rfl, by decide +kernel, rfl, by decide +kernel, by decide +kernel⟩
theorem ok_pen (T : Txt K mg A) : FnOk P w K mg base CX0 1 A.a_penof A.d_penof ["_law_script"] (spPen K) := by
  refine T.F_penof.ok sc_penof (fun vs H Q E h => ?_) (fun cdv A outer s H vs Q E hr h => ?_)
  · obtain ⟨a, ns, rfl, _⟩ := h; rfl
  · obtain ⟨a, ns, rfl, hs, hl, k⟩ := h
    refine ⟨_, (pss_one (ps_ret (pe_disp (pps_cons pe_str (pe_callTy call_list_of (by rfl) T.z_list (by decide +kernel) (pa_cons (pe_slice sl_list (pv 0) po_none (po_some pe_int)) pa_nil)) (pps_cons pe_str pe_int (pps_cons pe_str pe_int pps_nil))) (by rfl) (by rfl) (fun z => by cases z) (by decide)))), ?_⟩
    intro p np
    have s1 : ∀ o, Same H (upd H p o) := fun o b u e => by rw [upd_ne (ne_of_none e np)]; exact e
    refine ⟨_, rfl, 63, rfl, a, _, rfl, (s1 _).seq hs, fun q nq => ⟨q, _, rfl, .inl (SqL.of upd_same), fun l nl => ?_⟩⟩
    have nqp : p ≠ q := ne_of_none upd_same nq
    have nlp : p ≠ l := by
      refine ne_of_none (H := upd (upd H p (.dK [])) q (.lst _)) (o := .dK []) ?_ nl
      rw [upd_ne nqp]; exact upd_same
    refine ⟨?_, penK l 0 0, rfl, (by show 3 ≤ 15; decide), ?_⟩
    · rw [upd_ne nlp, upd_ne nqp]; exact upd_same
    · rw [pen_merge]
      refine k p l _ ⟨(ns.drop (HT.sIx (ns.map V.int).length 0 none)).take (HT.sIx (ns.map V.int).length (ns.map V.int).length (some 63) - HT.sIx (ns.map V.int).length 0 none), 0, upd_same, ?_, Int.le_refl 0, ?_⟩ ?_ np
      · rw [upd_ne nlp.symm, upd_same]
        unfold cutV
        rw [List.map_take, List.map_drop]
      · rw [List.length_take, List.length_drop]; omega
      · intro b u e
        have nb := ne_of_none e np
        have e1 : upd H p (.dK []) b = some u := by rw [upd_ne nb]; exact e
        have nbq := ne_of_none e1 nq
        have e2 : (upd (upd H p (.dK [])) q (.lst (cutV (ns.map V.int) none (some 63)))) b = some u := by rw [upd_ne nbq]; exact e1
        rw [upd_ne nb, upd_ne (ne_of_none e2 nl)]
        exact e2
theorem sc_draw : FnScope ["_law_pen", "_law_many", "_law_digit", "_law_index", "_law_size", "_law_cell", "_law_mixed"] ["_law_pen", "_law_many"] (defScope s_draw) := ⟨rfl, rfl, rfl, by decide +kernel, rfl, by decide +kernel, by decide +kernel⟩
theorem ok_draw (T : Txt K mg A) : FnOk P w K mg base CX0 1 A.a_draw A.d_draw ["_law_pen", "_law_many"] spDraw := by
  refine T.F_draw.ok sc_draw (fun vs H Q E h => ?_) (fun cdv A outer s H vs Q E hr h => ?_)
  · obtain ⟨d, l, b, k, rfl, _⟩ := h; rfl
  · obtain ⟨d, l, b, k, rfl, ⟨ns, m, hd, hc, hm, hn⟩, b0, b1, hk, kq⟩ := h
    have hu := hu_of hr
    have gL := pen_l l k m ▸ DGet.k (k := Sum.inr "left") hd
    have gO := pen_o l k m ▸ DGet.k (k := Sum.inr "next") hd
    have gC := pen_c l k m ▸ DGet.k (k := Sum.inr "cells") hd
    have ndl : l ≠ d := ne_of hc hd (fun z => nomatch z)
    refine ⟨_, (pss_cons (ps_if (pt_cmpR op_gt (pe_dget hu (pv 0) pe_str (fun _ _ => rfl)) pe_int (nomark _)) (pss_cons (ps_set (i := 2) sc_draw.nd rfl (Or.inl rfl) (pe_op op_mod (pe_callTy call_int1 (by rfl) T.z_int (by decide +kernel) (pa_cons (pe_dget hu (pv 0) pe_str (fun _ _ => rfl)) pa_nil)) (pv 1)))
       (pss_cons (ps_dput hu (pv 0) pe_str (pe_op op_fdiv (pe_dget hu (pv 0) pe_str (fun _ _ => rfl)) (pv 1)) rfl)
       (pss_one (ps_ret (pv 2)))))
        pss_nil)
      (pss_cons (ps_par (i := 3) (j := 4) (by rfl) sc_draw.nd rfl rfl (by decide) rfl rfl (pa_cons (pe_dget hu (pv 0) pe_str (fun _ _ => rfl)) (pa_cons (pe_callB call_len_seq (by rfl) T.z_len PySem.boot_len (pa_cons (pe_dget hu (pv 0) pe_str (fun _ _ => rfl)) pa_nil)) pa_nil)) (by rfl))
      (pss_cons (ps_dput hu (pv 0) pe_str (pe_op op_add (pv 3) pe_int) rfl)
      (pss_cons (ps_if (pt_cmpR op_eq (pv 4) pe_int (nomark _)) (pss_one (ps_ret (pe_op op_mod (pe_callTy call_int1 (by rfl) T.z_int (by decide +kernel) (pa_cons (pe_op op_add (pe_op op_mul pe_int (pv 3)) pe_int) pa_nil)) (pv 1))))
        pss_nil)
      (pss_cons (ps_set (i := 5) sc_draw.nd rfl (Or.inl rfl) (pe_ix ix_list (pe_dget hu (pv 0) pe_str (fun _ _ => rfl)) (pe_op op_mod (pe_callTy call_int1 (by rfl) T.z_int (by decide +kernel) (pa_cons (pv 3) pa_nil)) (pv 4)) (fun _ _ => rfl)))
      (pss_cons (ps_if (PW.pt (pw_and (pt_cmpR op_lt (pv 3) (pv 4) (nomark _)) (pw_and1 (pt_cmpR op_ge (pe_callB call_abs (by rfl) T.z_abs (by decide +kernel) (pa_cons (pv 5) pa_nil)) (pe_op op_pow pe_int pe_int) (nomark _))))) (pss_cons (ps_dput hu (pv 0) pe_str (pe_op op_fdiv (pe_op op_sub (pe_callB call_abs (by rfl) T.z_abs (by decide +kernel) (pa_cons (pv 5) pa_nil)) (pe_op op_pow pe_int pe_int)) (pv 1)) rfl)
       (pss_one (ps_ret (pe_op op_mod (pe_callTy call_int1 (by rfl) T.z_int (by decide +kernel) (pa_cons (pe_op op_sub (pe_callB call_abs (by rfl) T.z_abs (by decide +kernel) (pa_cons (pv 5) pa_nil)) (pe_op op_pow pe_int pe_int)) pa_nil)) (pv 1)))))
        pss_nil)
      (pss_cons (ps_set (i := 6) sc_draw.nd rfl (Or.inl rfl) (pe_op op_add (pe_op op_mul (pe_op op_mod (pe_callTy call_int1 (by rfl) T.z_int (by decide +kernel) (pa_cons (pv 5) pa_nil)) pe_int) pe_int) (pe_op op_mul (pe_op op_mul pe_int (pv 3)) (pv 3))))
      (pss_cons (ps_set (i := 6) sc_draw.nd rfl (Or.inl rfl) (pe_op op_mod (pe_callTy call_int1 (by rfl) T.z_int (by decide +kernel) (pa_cons (pe_op op_add (pe_op op_add (pv 6) (pe_op op_mul pe_int (pv 3))) pe_int) pa_nil)) pe_int))
      (pss_cons (ps_set (i := 6) sc_draw.nd rfl (Or.inl rfl) (pe_op op_mod (pe_callTy call_int1 (by rfl) T.z_int (by decide +kernel) (pa_cons (pe_op op_add (pe_op op_add (pe_op op_add (pe_op op_mul (pv 6) (pv 6)) (pe_op op_mul pe_int (pv 6))) (pe_op op_mul pe_int (pv 3))) pe_int) pa_nil)) pe_int))
      (pss_one (ps_ret (pe_op op_mod (pe_callTy call_int1 (by rfl) T.z_int (by decide +kernel) (pa_cons (pe_op op_fdiv (pe_op op_mod (pe_callTy call_int1 (by rfl) T.z_int (by decide +kernel) (pa_cons (pe_op op_mul (pv 6) (pe_op op_add (pv 6) pe_int)) pa_nil)) pe_int) pe_int) pa_nil)) (pv 1))))))))))))), ?_⟩
    refine ⟨_, rfl, d, _, rfl, gL, _, _, rfl, rfl, _, rfl, ite2 (fun c => ?_) (fun c => ?_)⟩
    · refine ⟨_, rfl, d, _, rfl, gL, .inl ⟨_, rfl, _, rfl, _, _, rfl, rfl, b0, ?_⟩⟩
      refine ⟨_, rfl, d, _, rfl, gL, _, rfl, _, _, rfl, rfl, ⟨b0, by omega⟩, _, rfl, d, _, rfl, DPut.k (k := Sum.inr "left") hd (by show 3 < sizeLine; decide), _, rfl, ?_⟩
      refine kq _ _ k (Int.emod_nonneg _ (by omega)) (Int.emod_lt_of_pos _ b0) (by omega) ⟨ns, m / b, ?_, ?_, Int.ediv_nonneg hm (by omega), hn⟩ (But.upd (fun _ _ _ e => e))
      · rw [put_l]; exact upd_same
      · rw [upd_ne ndl]; exact hc
    · refine ⟨_, rfl, d, _, rfl, gO, ?_⟩
      refine ⟨_, rfl, d, _, rfl, gC, l, _, rfl, .inl (SqL.of hc), ?_⟩
      refine ⟨_, _, rfl, _, rfl, _, _, rfl, rfl, _, rfl, d, _, rfl, DPut.k (k := Sum.inr "next") hd (by show 3 < sizeLine; decide), ?_⟩
      rw [put_o]
      have hd1 : upd H d (.dK (penK l ((k : Int) + 1) m)) d = some (.dK (penK l ((k : Int) + 1) m)) := upd_same
      have hc1 : upd H d (.dK (penK l ((k : Int) + 1) m)) l = some (.lst (ns.map V.int)) := by rw [upd_ne ndl]; exact hc
      have bt1 : But d H (upd H d (.dK (penK l ((k : Int) + 1) m))) := But.upd (fun _ _ _ e => e)
      generalize hH1 : upd H d (.dK (penK l ((k : Int) + 1) m)) = H1 at hd1 hc1 bt1 ⊢
      have gC1 := pen_c l ((k : Int) + 1) m ▸ DGet.k (k := Sum.inr "cells") hd1
      have pen1 : Pen H1 d l (k + 1) := ⟨ns, m, hd1, hc1, hm, hn⟩
      refine ⟨_, rfl, rfl, _, rfl, ite2 (fun c2 => ?_) (fun c2 => ?_)⟩
      · refine ⟨_, rfl, _, _, rfl, rfl, mul_l (by decide) (by decide), _, _, rfl, rfl, .inl ⟨_, rfl, _, rfl, _, _, rfl, rfl, b0, ?_⟩⟩
        exact kq _ _ (k + 1) (Int.emod_nonneg _ (by omega)) (Int.emod_lt_of_pos _ b0) (Nat.le_refl _) pen1 bt1
      · have hne : 0 < ns.length := by
          cases ns with
          | nil => exact absurd (decide_eq_true rfl) c2
          | cons _ _ => exact Nat.succ_pos _
        have lz : (0 : Int) < ((ns.map V.int).length : Int) := by rw [List.length_map]; omega
        obtain ⟨j, hj⟩ : ∃ j : Nat, (k : Int) % ((ns.map V.int).length : Int) = (j : Int) := ⟨((k : Int) % ((ns.map V.int).length : Int)).toNat, (Int.toNat_of_nonneg (Int.emod_nonneg _ (by omega))).symm⟩
        have hjl : j < ns.length := by
          have := Int.emod_lt_of_pos (k : Int) lz
          rw [hj, List.length_map] at this
          omega
        have hcell : (ns.map V.int)[j]? = some (V.int ns[j]) := by rw [List.getElem?_map, List.getElem?_eq_getElem hjl]; rfl
        refine ⟨_, rfl, d, _, rfl, gC1, _, rfl, .inl ⟨_, rfl, _, rfl, _, _, rfl, rfl, lz, ?_⟩⟩
        refine ⟨l, _, _, _, rfl, rfl, SqL.of hc1, at_of hj hcell, ?_⟩
        generalize ns[j] = z
        refine ⟨_, rfl, _, rfl, _, _, rfl, rfl, _, rfl, ?_⟩
        refine ite2 (fun _ => ?_) (fun _ => ?_)
        · refine ⟨_, rfl, _, rfl, _, _, rfl, rfl, ⟨by decide, by decide, by decide⟩, _, _, rfl, rfl, _, rfl, ite2 (fun c3 => ?_) (fun _ => ?_)⟩
          · have c4 := of_decide_eq_true c3
            refine ⟨_, rfl, _, rfl, _, _, rfl, rfl, ⟨by decide, by decide, by decide⟩, _, _, rfl, rfl, _, rfl, _, _, rfl, rfl, ⟨b0, by omega⟩, _, rfl, d, _, rfl, DPut.k (k := Sum.inr "left") hd1 (by show 3 < sizeLine; decide), ?_⟩
            refine ⟨_, rfl, _, rfl, _, _, rfl, rfl, ⟨by decide, by decide, by decide⟩, _, _, rfl, rfl, .inl ⟨_, rfl, _, rfl, _, _, rfl, rfl, b0, ?_⟩⟩
            refine kq _ _ (k + 1) (Int.emod_nonneg _ (by omega)) (Int.emod_lt_of_pos _ b0) (Nat.le_refl _) ⟨ns, _, by rw [put_l]; exact upd_same, ?_, Int.ediv_nonneg (Int.sub_nonneg_of_le c4) (by omega), hn⟩ (But.upd bt1)
            rw [upd_ne ndl]; exact hc1
          · exact (by
            refine ⟨_, rfl, .inl ⟨_, rfl, _, _, rfl, rfl, (by decide : (0 : Int) < 4294967197), _, _, rfl, rfl, mul_m (by decide) (by decide), _, rfl, _, _, rfl, rfl, mul_l (by decide) (by decide), _, rfl, _, _, rfl, rfl, mul_l (by omega) (by omega), _, _, rfl, rfl, ?_⟩⟩
            refine ⟨_, rfl, _, rfl, _, _, rfl, rfl, mul_l (by decide) (by decide), _, _, rfl, rfl, _, _, rfl, rfl, .inl ⟨_, rfl, _, _, rfl, rfl, (by decide : (0 : Int) < 4294967189), ?_⟩⟩
            refine ⟨_, rfl, _, rfl, _, _, rfl, rfl, mul_m (by decide) (by decide), _, rfl, _, _, rfl, rfl, mul_l (by decide) (by decide), _, _, rfl, rfl, _, rfl, _, _, rfl, rfl, mul_l (by decide) (by decide), _, _, rfl, rfl, _, _, rfl, rfl, .inl ⟨_, rfl, _, _, rfl, rfl, (by decide : (0 : Int) < 4294967161), ?_⟩⟩
            refine ⟨_, rfl, _, rfl, _, _, rfl, rfl, _, _, rfl, rfl, mul_m (by decide) (by decide), .inl ⟨_, rfl, _, _, rfl, rfl, (by decide : (0 : Int) < 4294967143), _, _, rfl, rfl, ⟨by decide, by decide⟩, .inl ⟨_, rfl, _, rfl, _, _, rfl, rfl, b0, ?_⟩⟩⟩
            exact kq _ _ (k + 1) (Int.emod_nonneg _ (by omega)) (Int.emod_lt_of_pos _ b0) (Nat.le_refl _) pen1 bt1)
        · refine iteF ?_
          exact (by
            refine ⟨_, rfl, .inl ⟨_, rfl, _, _, rfl, rfl, (by decide : (0 : Int) < 4294967197), _, _, rfl, rfl, mul_m (by decide) (by decide), _, rfl, _, _, rfl, rfl, mul_l (by decide) (by decide), _, rfl, _, _, rfl, rfl, mul_l (by omega) (by omega), _, _, rfl, rfl, ?_⟩⟩
            refine ⟨_, rfl, _, rfl, _, _, rfl, rfl, mul_l (by decide) (by decide), _, _, rfl, rfl, _, _, rfl, rfl, .inl ⟨_, rfl, _, _, rfl, rfl, (by decide : (0 : Int) < 4294967189), ?_⟩⟩
            refine ⟨_, rfl, _, rfl, _, _, rfl, rfl, mul_m (by decide) (by decide), _, rfl, _, _, rfl, rfl, mul_l (by decide) (by decide), _, _, rfl, rfl, _, rfl, _, _, rfl, rfl, mul_l (by decide) (by decide), _, _, rfl, rfl, _, _, rfl, rfl, .inl ⟨_, rfl, _, _, rfl, rfl, (by decide : (0 : Int) < 4294967161), ?_⟩⟩
            refine ⟨_, rfl, _, rfl, _, _, rfl, rfl, _, _, rfl, rfl, mul_m (by decide) (by decide), .inl ⟨_, rfl, _, _, rfl, rfl, (by decide : (0 : Int) < 4294967143), _, _, rfl, rfl, ⟨by decide, by decide⟩, .inl ⟨_, rfl, _, rfl, _, _, rfl, rfl, b0, ?_⟩⟩⟩
            exact kq _ _ (k + 1) (Int.emod_nonneg _ (by omega)) (Int.emod_lt_of_pos _ b0) (Nat.le_refl _) pen1 bt1)
theorem sc_pick : FnScope ["_law_pen", "_law_items"] ["_law_pen", "_law_items"] (defScope s_pick) := ⟨rfl, rfl, rfl, by decide +kernel, rfl, by decide +kernel, by decide +kernel⟩
theorem ok_pick (T : Txt K mg A) : FnOk P w K mg base CX0 2 A.a_pick A.d_pick ["_law_pen", "_law_items"] spPick := by
  have G_draw := ok_draw (P := P) (w := w) (base := base) T
  refine T.F_pick.ok sc_pick (fun vs H Q E h => ?_) (fun cdv Ar outer s H vs Q E hr h => ?_)
  · obtain ⟨d, l, p, xs, k, rfl, _⟩ := h; rfl
  · obtain ⟨d, l, p, xs, k, rfl, pen, hp, h0, h1, hk, kq⟩ := h
    refine ⟨_, (pss_one (ps_ret (pe_ix ix_list (pv 1) (pe_call G_draw (hr.mono (by decide)) (by rfl) T.g_draw T.F_draw.kp T.b_draw .nil pass0 (pa_cons (pv 0) (pa_cons (pe_callB call_len_seq (by rfl) T.z_len PySem.boot_len (pa_cons (pv 1) pa_nil)) pa_nil))) (fun _ _ => rfl)))), ?_⟩
    refine ⟨_, rfl, _, rfl, _, rfl, p, xs, rfl, .inl (SqL.of hp), d, l, _, k, rfl, pen, by omega, by omega, hk, fun v G k' v0 v1 kk pen' bt => ?_⟩
    obtain ⟨x, e⟩ := pen.some
    have hp' : G p = some (.lst xs) := bt _ _ (ne_of hp e (fun z => nomatch z)) hp
    have hv : v.toNat < xs.length := by omega
    refine ⟨p, xs, v, xs[v.toNat], rfl, rfl, SqL.of hp', at_of (Int.toNat_of_nonneg v0).symm (List.getElem?_eq_getElem hv), ?_⟩
    exact kq _ _ _ (List.getElem_mem hv) kk pen' bt
end
end Z

set_option Elab.async false
set_option linter.all false
set_option maxRecDepth 100000
set_option maxHeartbeats 8000000
namespace Z
open PySem L2 XV
/-! Ratio(1, 2); errors without fields; lengths are checked -/
/-- // by any divisor but 0 -/
theorem op_fdivX {X : Cx} : OpR X (binaryOp .FloorDiv) (rI (fun _ j => j ≠ 0 ∧ j.natAbs.log2 < 9000) fun i j => .int (i.fdiv j)) := opI fun _ _ _ _ _ _ _ hc q => PyProof.Rows.floordiv_int hc.1 q (.inl (PyProof.noPylong_of_log2 hc.2))
theorem put1r (u : V) : putF "number" u [] = [(("number" : Str), u)] := by kernel_rfl
theorem put2r (u v : V) : putF "over" v [(("number" : Str), u)] = [(("number" : Str), u), ("over", v)] := by kernel_rfl
def spR12 (C : Addr) : Sp := fun vs H Q _ => ∃ (x dx : Addr), vs = [.ref x, .int 1, .int 2] ∧ H x = some (.ins C dx []) ∧ ∀ H', But x H H' → H' x = some (.ins C dx [("number", .int 1), ("over", .int 2)]) → Q .non H'
/-- an error without fields keeps its object as it was made -/
def spBare (C : Addr) : Sp := fun vs H Q _ => ∃ a, vs = [.ref a] ∧ H a = some (exo a C none) ∧ ∀ G, Same H G → Q .non G
def isL : V → Bool
  | .int i => decide (1 ≤ i) && decide (i ≤ 25)
  | _ => false
def wid (l : Nat) : Int := 1 * 2 ^ ((25 : Int) - (l : Int)).toNat
def BadL (xs : List V) (i : Nat) : Prop := (∃ v, xs[i]? = some v ∧ isL v = false) ∧ ∀ j v, j < i → xs[j]? = some v → isL v = true
/-- lengths are checked: C1 TooMany, C2 BadLength, C3 NotFull -/
def spLens (K : PySem.W.Frag) (C1 C2 C3 : Addr) : Sp := fun vs H Q E => ∃ (a : Addr) (xs : List V), vs = [.ref a] ∧ SqE K H a xs ∧ (∀ x ∈ xs, Odd K H x) ∧
  (2 ≤ xs.length ∧ xs.length ≤ 26 → ∀ L : List Nat, xs = L.map (fun (l : Nat) => V.int (l : Int)) → (∀ l ∈ L, 1 ≤ l ∧ l ≤ 25) → ((L.map wid).sum = 2 ^ 25 → ∀ G, Same H G → Q .non G) ∧ ((L.map wid).sum ≠ 2 ^ 25 → ∀ G, Same H G → E (.ref C3) none G)) ∧
  (¬ (2 ≤ xs.length ∧ xs.length ≤ 26) → ∀ d G, Same H G → G d = some (.xd [("most", .int 26), ("many", .int ((xs.length : Nat) : Int)), ("what", .str "signs")]) → E (.ref C1) (some d) G) ∧
  (2 ≤ xs.length ∧ xs.length ≤ 26 → ∀ i : Nat, BadL xs i → ∀ d G, Same H G → G d = some (.xd [("index", .int (i : Int))]) → E (.ref C2) (some d) G)
theorem nats_of : ∀ {xs : List V}, (∀ x ∈ xs, isL x = true) → ∃ L : List Nat, xs = L.map (fun (l : Nat) => V.int (l : Int)) ∧ ∀ l ∈ L, 1 ≤ l ∧ l ≤ 25
  | [], _ => ⟨[], rfl, fun _ h => nomatch h⟩
  | x :: xs, h => by
    obtain ⟨L, e, hn⟩ := nats_of fun y hy => h y (List.mem_cons_of_mem _ hy)
    have hx := h x (List.mem_cons_self ..)
    cases x <;> first | (cases hx; done) | skip
    rename_i i
    have hx2 : decide (1 ≤ i) = true ∧ decide (i ≤ 25) = true := (Bool.and_eq_true _ _).mp hx
    have h1 : 1 ≤ i := of_decide_eq_true hx2.1
    have h2 : i ≤ 25 := of_decide_eq_true hx2.2
    have e2 : (i.toNat : Int) = i := Int.toNat_of_nonneg (by omega)
    refine ⟨i.toNat :: L, by rw [List.map_cons, e2, ← e], fun l hl => ?_⟩
    rcases List.mem_cons.mp hl with rfl | hl
    · omega
    · exact hn l hl
section
variable {P : Program} {w : World} {K : PySem.W.Frag} {mg : Str → Option Value} {base : Heap} {A : Ad}
theorem sc_NotFull : FnScope ["self"] ["self"] (defScope s_NotFull) := ⟨rfl, rfl, rfl, by decide +kernel, rfl, by decide +kernel, by decide +kernel⟩
theorem ok_NotFull (T : Txt K mg A) : FnOk P w K mg base (L2.CX P w) 1 A.i_NotFull A.d_NotFull ["self"] (spBare A.c_NotFull) := by
  refine T.E_NotFull.F.okX sc_NotFull (fun vs H Q E h => ?_) (fun cdv A' outer s H vs Q E hr h => ?_)
  · obtain ⟨a, rfl, _⟩ := h; rfl
  · obtain ⟨a, rfl, ha, k⟩ := h
    refine ⟨_, (pss_one (ps_expr (pe_binit T.B (by rfl) T.gj (pa_cons (pv 0) (pa_cons pe_str pa_nil))))), ?_⟩
    exact base_step T.E_NotFull.E.T rfl ha (k H fun _ _ e => e)
theorem sc_lens : FnScope ["lengths", "index", "length"] ["lengths"] (defScope s_lens) := ⟨rfl, rfl, rfl, by decide +kernel, rfl, by decide +kernel, by decide +kernel⟩
theorem ok_lens (T : Txt K mg A) : FnOk P w K mg base (L2.CX P w) 5 A.a_lens A.d_lens ["lengths"] (spLens K A.c_TooMany A.c_BadLength A.c_NotFull) := by
  have G_checkmany := ok_checkmany (P := P) (w := w) (base := base) T
  have G_BadLength := ok_BadLength (P := P) (w := w) (base := base) T
  have G_NotFull := ok_NotFull (P := P) (w := w) (base := base) T
  have G_isint := ok_isint (P := P) (w := w) (base := base) T
  refine T.F_lens.okX sc_lens (fun vs H Q E h => ?_) (fun cdv Ar outer s H vs Q E hr h => ?_)
  · obtain ⟨a, xs, rfl, _⟩ := h; rfl
  · obtain ⟨a, xs, rfl, hs, ho, kq, k1, k2⟩ := h
    refine ⟨_, (pss_cons (ps_expr (pe_call G_checkmany (hr.mono (by decide)) (by rfl) T.g_checkmany T.F_checkmany.kp T.b_checkmany .nil (passes_call (takes_of rfl rfl rfl rfl) (fun _ _ _ _ h => h)) (pa_cons (pe_callB call_len_seq (by rfl) T.z_len PySem.boot_len (pa_cons (pv 0) pa_nil)) pa_nil)))
      (pss_cons (ps_for (passes_of rfl) rfl (pi_or (pi_enum (by rfl) T.z_enumerate (pa_cons (pv 0) pa_nil)) (pi_enumF (by rfl) T.z_enumerate (pa_cons (pv 0) pa_nil))) (pg_tup (by rfl) (pgs_cons (pg_name (i := 1) sc_lens.nd rfl (Or.inl rfl)) (pgs_cons (pg_name (i := 2) sc_lens.nd rfl (Or.inl rfl)) pgs_nil)))
         (pss_one (ps_if (PW.pt (pw_or (pt_not (pt_val (pe_call G_isint (hr.mono (by decide)) (by rfl) T.g_isint T.F_isint.kp T.b_isint .nil pass0 (pa_cons (pv 2) pa_nil)))) (pw_or (pt_cmpR op_lt (pv 2) pe_int (nomark _)) (pw_or1 (pt_cmpR op_gt (pv 2) (pe_glob (v := .int 25) rfl (Classical.choose_spec T.k_LONGEST_WORD) ⟨_, rfl⟩) (nomark _)))))) (pss_one (ps_raise rfl (takes_of rfl rfl rfl rfl) (pmk_oex T.E_BadLength.E.T T.E_BadLength.E.iC T.E_BadLength.E.tI G_BadLength (hr.mono (by decide)) T.E_BadLength.bb .nil pass0 (by rfl) T.E_BadLength.g (pa_cons (pv 1) pa_nil))))
           pss_nil)))
      (pss_one (ps_if (pt_cmpR op_ne (pe_callB (cr_sum rfl) (by rfl) T.z_sum (by decide +kernel) (pa_cons (pe_lc (own := [("length", 2)]) (by rfl) sc_lens.nd (pi_or (pi_list (pv 0)) (pi_tup (pv 0))) (blkOk_by (own := [("length", 2)]) (N := ["lengths", "index", "length"]) (sc := defScope s_lens) (by decide +kernel)) (fun _ _ _ _ _ => (pg_name (i := 2) sc_lens.nd rfl (Or.inl rfl))) (fun _ _ _ _ _ => pts_nil) (fun _ _ _ _ _ => (pe_op op_shl pe_int (pe_op op_sub (pe_glob (v := .int 25) rfl (Classical.choose_spec T.k_LONGEST_WORD) ⟨_, rfl⟩) (pv 2))))) pa_nil)) (pe_op op_shl pe_int (pe_glob (v := .int 25) rfl (Classical.choose_spec T.k_LONGEST_WORD) ⟨_, rfl⟩)) (nomark _)) (pss_one (ps_raise rfl (takes_of rfl rfl rfl rfl) (pmk_oex0 T.E_NotFull.E G_NotFull (hr.mono (by decide)) T.E_NotFull.b passX rfl (by rfl) T.E_NotFull.g)))
        pss_nil)))), ?_⟩
    refine ⟨_, rfl, a, xs, rfl, hs, _, rfl, fun h26 => ?_, fun n d G s e => k1 (fun z => n ⟨by omega, by omega⟩) d G s e⟩
    have h26 : 2 ≤ xs.length ∧ xs.length ≤ 26 := ⟨by omega, by omega⟩
    refine enum_read (a := a) (xs := xs) rfl (enumE hs (fun i ρ G => (∃ y z, ρ = [some (.ref a), y, z]) ∧ Same H G ∧ ∀ j v, j < i → xs[j]? = some v → isL v = true) (fun _ _ _ h => h.2.1) ⟨⟨_, _, rfl⟩, Same.refl H, fun j v hj => absurd hj (Nat.not_lt_zero j)⟩ ?_ ?_)
    · rintro i x ρ G1 t hx ⟨⟨y, z, rfl⟩, sm, hb⟩ nt
      have sm1 : Same H (upd G1 t (.tup [.int (i : Int), x])) := sm.trans (same_new nt)
      have ox := (ho x (List.mem_of_getElem? hx)).same sm1
      refine ⟨t, _, rfl, SqT.of upd_same, rfl, _, _, rfl, _, _, rfl, rfl, ?_⟩
      generalize upd G1 t (.tup [.int (i : Int), x]) = G2 at sm1 ox ⊢
      have rd : isL x = false → _ := fun n => err_read (K := K) (Q := E) (C := A.c_BadLength) (fs := ["index"]) (us := [.int (i : Int)]) (H := G2) rfl (by show 1 ≤ 1000; decide) (fun u hu => by simp only [List.mem_cons, List.not_mem_nil, or_false] at hu; subst hu; exact fl_int _)
        (fun u hu => by simp only [List.mem_cons, List.not_mem_nil, or_false] at hu; subst hu; exact .int _) (fun d G s e => k2 h26 i ⟨⟨x, hx, n⟩, hb⟩ d G (sm1.trans s) e)
      refine ⟨_, rfl, x, rfl, ox, _, rfl, ?_⟩
      cases hI : isI x with
      | false =>
        have nc : isL x = false := by cases x <;> first | rfl | cases hI
        exact iteT ⟨_, rfl, rd nc⟩
      | true =>
        obtain ⟨n, rfl⟩ : ∃ n, x = .int n := by cases x <;> first | exact ⟨_, rfl⟩ | cases hI
        refine iteF ⟨_, rfl, _, _, rfl, rfl, _, rfl, ?_⟩
        by_cases c : n < 1
        · rw [decide_eq_true c]
          exact iteT ⟨_, rfl, rd (by show (decide (1 ≤ n) && decide (n ≤ 25)) = false; rw [show decide (1 ≤ n) = false from decide_eq_false (by omega), Bool.false_and])⟩
        · rw [decide_eq_false c]
          refine iteF ⟨_, rfl, _, _, rfl, rfl, _, rfl, ?_⟩
          by_cases c2 : 25 < n
          · rw [decide_eq_true c2]
            exact iteT ⟨_, rfl, rd (by show (decide (1 ≤ n) && decide (n ≤ 25)) = false; rw [show decide (n ≤ 25) = false from decide_eq_false (by omega), Bool.and_false])⟩
          · rw [decide_eq_false c2]
            refine iteF ⟨⟨_, _, rfl⟩, sm1, fun j v hj hv => ?_⟩
            rcases Nat.lt_succ_iff_lt_or_eq.mp hj with hj | rfl
            · exact hb j v hj hv
            · rw [hx] at hv
              cases hv
              show (decide (1 ≤ n) && decide (n ≤ 25)) = true
              rw [decide_eq_true (by omega), decide_eq_true (by omega)]; rfl
    · rintro ρ G1 ⟨⟨y, z, rfl⟩, sm, hb⟩
      obtain ⟨L, rfl, hL⟩ := nats_of fun x hx => by
        obtain ⟨j, hj, e⟩ := List.getElem_of_mem hx
        exact hb j x hj (by rw [List.getElem?_eq_getElem hj, e])
      obtain ⟨kq1, kq2⟩ := kq h26 L rfl hL
      have ll : (L.map fun (l : Nat) => V.int (l : Int)).length = L.length := by simp
      refine seq_read (a := a) (xs := L.map fun (l : Nat) => V.int (l : Int)) rfl (lc_E (hs.same sm) (fun D i G => Same G1 G ∧ G D = some (.lst (((L.take i).map wid).map V.int))) (fun _ _ _ h => h.1) (fun D hD => ⟨same_new hD, by simp [upd_same]⟩) ?_ ?_)
      · rintro D i x G2 hD hx ⟨s2, hD2⟩
        rw [List.getElem?_map] at hx
        obtain ⟨l, hl, rfl⟩ := Option.map_eq_some_iff.mp hx
        have r := hL l (List.mem_of_getElem? hl)
        refine ⟨rfl, yes_of ?_⟩
        refine ⟨_, rfl, _, _, rfl, rfl, _, _, rfl, rfl, ⟨by omega, by omega, by decide⟩, _, hD2, ?_, fun b o e => by rw [upd_ne (ne_of_none e hD)]; exact s2 _ _ e, ?_⟩
        · rw [List.length_map, List.length_map, List.length_take, sizeLine_eq]
          omega
        · rw [upd_same, List.take_succ, hl, List.map_append, List.map_append]
          rfl
      · rintro D G2 hD ⟨s2, hD2⟩
        rw [ll, List.take_length] at hD2
        refine ⟨D, L.map wid, rfl, SqL.of hD2, _, _, rfl, rfl, ⟨by decide, by decide, by decide⟩, rfl, _, rfl, ?_⟩
        have q25 : (1 : Int) * 2 ^ (25 : Int).toNat = 2 ^ 25 := by decide +kernel
        by_cases c : (L.map wid).sum = 2 ^ 25
        · have e : decide (V.int (L.map wid).sum = V.int (1 * 2 ^ (25 : Int).toNat)) = true := decide_eq_true (by rw [q25, c])
          rw [e]
          exact iteF (kq1 c _ (sm.trans s2))
        · have e : decide (V.int (L.map wid).sum = V.int (1 * 2 ^ (25 : Int).toNat)) = false := decide_eq_false (fun z => c (by rw [q25] at z; injection z))
          rw [e]
          refine iteT (fun e ne => ⟨?_, e, rfl, upd_same, fun G3 s3 => ⟨rfl, e, rfl, s3 _ _ upd_same, ?_, kq2 c _ fun b o h => ?_⟩⟩)
          · cases he : H e with
            | none => exact he
            | some o => have := (sm.trans s2) _ _ he; rw [ne] at this; cases this
          · cases he : H e with
            | none => exact he
            | some o => have := (sm.trans s2) _ _ he; rw [ne] at this; cases this
          · have h2 := (sm.trans s2) _ _ h
            have be : b ≠ e := ne_of_none h2 ne
            rw [delH_ne be]
            exact s3 b o (by rw [upd_ne be]; exact h2)
end
end Z

set_option Elab.async false
set_option linter.all false
set_option maxRecDepth 100000
set_option maxHeartbeats 8000000
namespace Z
open PySem L2 XV KR PyProof.Rows Builtin Builtin.Str StrLaws
/-! words are checked -/
def isB (x : List Nat) : Bool := x.all fun c => decide (c = 48) || decide (c = 49)
def isW (v : V) (l : Nat) : Bool := match v with
  | .str s => decide (s.cps.toList.length = l) && isB s.cps.toList
  | _ => false
def short (v : V) : Prop := ∀ s, v = .str s → s.cps.toList.length ≤ 1000
theorem cnt_isB (x : List Nat) : cnt 48 x + cnt 49 x ≤ (x.length : Int) ∧ (cnt 48 x + cnt 49 x = (x.length : Int) ↔ isB x = true) := by
  induction x with
  | nil => exact ⟨by decide, by decide⟩
  | cons a r ih =>
    obtain ⟨h1, h2⟩ := ih
    unfold isB at h2 ⊢
    rw [cnt_cons, cnt_cons, List.length_cons, List.all_cons]
    by_cases c : a = 48
    · subst c
      rw [if_pos rfl, if_neg (by decide)]
      refine ⟨by omega, ?_⟩
      rw [show (decide ((48 : Nat) = 48) || decide ((48 : Nat) = 49)) = true from rfl, Bool.true_and, ← h2]
      omega
    · by_cases c2 : a = 49
      · subst c2
        rw [if_neg (by decide), if_pos rfl]
        refine ⟨by omega, ?_⟩
        rw [show (decide ((49 : Nat) = 48) || decide ((49 : Nat) = 49)) = true from rfl, Bool.true_and, ← h2]
        omega
      · rw [if_neg (fun z => c (by omega)), if_neg (fun z => c2 (by omega))]
        refine ⟨by omega, ?_⟩
        rw [decide_eq_false c, decide_eq_false c2, Bool.or_false, Bool.false_and]
        refine ⟨fun h => ?_, fun h => nomatch h⟩
        omega
def nV (l : Nat) : V := V.int (l : Int)
def begT (a b : Str) : Bool := Txt.startswith a b || Txt.startswith b a
def BadW (ws : List V) (L : List Nat) (i : Nat) : Prop := (∃ v l, ws[i]? = some v ∧ L[i]? = some l ∧ isW v l = false) ∧ ∀ (j : Nat) (v : V) (l : Nat), j < i → ws[j]? = some v → L[j]? = some l → isW v l = true
def AllW (ws : List V) (L : List Nat) : Prop := ∀ (j : Nat) (v : V) (l : Nat), ws[j]? = some v → L[j]? = some l → isW v l = true
def BegAt (ss : List Str) (i j : Nat) : Prop := i < j ∧ (∃ a b, ss[i]? = some a ∧ ss[j]? = some b ∧ begT a b = true) ∧ ∀ (i' j' : Nat) (a b : Str), (i' < i ∨ (i' = i ∧ j' < j)) → i' < j' → ss[i']? = some a → ss[j']? = some b → begT a b = false
def Free (ss : List Str) : Prop := ∀ (i j : Nat) (a b : Str), i < j → ss[i]? = some a → ss[j]? = some b → begT a b = false
theorem strs_of : ∀ {ws : List V} {L : List Nat}, ws.length = L.length → AllW ws L → ∃ ss : List Str, ws = ss.map V.str
  | [], _, _, _ => ⟨[], rfl⟩
  | v :: ws, [], h, _ => nomatch h
  | v :: ws, l :: L, h, hA => by
    obtain ⟨ss, e⟩ := strs_of (ws := ws) (L := L) (by simpa using h) fun j w l' a b => hA (j + 1) w l' a b
    have h0 := hA 0 v l rfl rfl
    cases v <;> first | (cases h0; done) | skip
    rename_i s
    exact ⟨s :: ss, by rw [List.map_cons, e]⟩
def spIsW (K : PySem.W.Frag) : Sp := fun vs H Q _ => ∃ (v : V) (l : Nat), vs = [v, nV l] ∧ Odd K H v ∧ short v ∧ Q (.bl (isW v l)) H
def spCw (K : PySem.W.Frag) (C1 C2 : Addr) : Sp := fun vs H Q E => ∃ (b a : Addr) (ws : List V) (L : List Nat), vs = [.ref b, .ref a] ∧ SqE K H b ws ∧ SqE K H a (L.map nV) ∧ ws.length = L.length ∧ L.length ≤ 26 ∧ (∀ v ∈ ws, Odd K H v ∧ short v) ∧
  (∀ i : Nat, BadW ws L i → ∀ d G, Same H G → G d = some (.xd [("index", .int (i : Int))]) → E (.ref C1) (some d) G) ∧
  (∀ ss : List Str, ws = ss.map V.str → AllW ws L → (∀ i j : Nat, BegAt ss i j → ∀ d G, Same H G → G d = some (.xd [("other", .int (j : Int)), ("index", .int (i : Int))]) → E (.ref C2) (some d) G) ∧ (Free ss → ∀ G, Same H G → Q .non G))
section
variable {P : Program} {w : World} {K : PySem.W.Frag} {mg : Str → Option Value} {base : Heap} {A : Ad}
theorem sc_isword : FnScope ["value", "length"] ["value", "length"] (defScope s_isword) := ⟨rfl, rfl, rfl, by decide +kernel, rfl, by decide +kernel, by decide +kernel⟩
theorem ok_isword (T : Txt K mg A) : FnOk P w K mg base CX0 1 A.a_isword A.d_isword ["value", "length"] (spIsW K) := by
  refine T.F_isword.ok sc_isword (fun vs H Q E h => ?_) (fun cdv A outer s H vs Q E hr h => ?_)
  · obtain ⟨x, l, rfl, _⟩ := h; rfl
  · obtain ⟨v, l, rfl, hv, hs, kq⟩ := h
    refine ⟨_, (pss_cons (ps_if (PW.pt (pw_or (pt_not (pt_val (pe_callB call_isi (by rfl) T.z_isinstance (by decide +kernel) (pa_cons (pv 0) (pa_cons (pe_bltn (v := .ty "str") (by rfl) T.z_str (by decide +kernel) rfl) pa_nil))))) (pw_or1 (pt_cmpR op_ne (pe_callB call_len_str (by rfl) T.z_len PySem.boot_len (pa_cons (pv 0) pa_nil)) (pv 1) (nomark _))))) (pss_one (ps_ret pe_bl))
        pss_nil)
      (pss_one (ps_ret (pe_cmpR op_eq (pe_op op_add (pe_m1 PySem.F.slot_str_count PySem.F.type_str_count mt_count (pv 0) pe_str) (pe_m1 PySem.F.slot_str_count PySem.F.type_str_count mt_count (pv 0) pe_str)) (pv 1) (nomark _))))), ?_⟩
    cases hv with
    | non => exact ⟨_, rfl, _, .ty "str", .type "NoneType", .type "str", false, rfl, .ty "str", .base .non, kit_ty (by decide +kernel), false, rfl, iteT kq⟩
    | bl b => exact ⟨_, rfl, _, .ty "str", .type "bool", .type "str", false, rfl, .ty "str", .base (.bl b), kit_ty (by decide +kernel), false, rfl, iteT kq⟩
    | int i => exact ⟨_, rfl, _, .ty "str", .type "int", .type "str", false, rfl, .ty "str", .base (.int i), kit_ty (by decide +kernel), false, rfl, iteT kq⟩
    | lst h => exact ⟨_, rfl, _, .ty "str", .type "list", .type "str", false, rfl, .ty "str", .base (.lst h), kit_ty (by decide +kernel), false, rfl, iteT kq⟩
    | tup h => exact ⟨_, rfl, _, .ty "str", .type "tuple", .type "str", false, rfl, .ty "str", .base (.tup h), kit_ty (by decide +kernel), false, rfl, iteT kq⟩
    | dct h => exact ⟨_, rfl, _, .ty "str", .type "dict", .type "str", false, rfl, .ty "str", .base (.dK h), kit_ty (by decide +kernel), false, rfl, iteT kq⟩
    | ins h I => exact ⟨_, rfl, _, .ty "str", .ref _, .type "str", false, rfl, .ty "str", .base (.ins h I.cl I.ha I.hn I.ht I.hm), I.ks, false, rfl, iteT kq⟩
    | str x =>
      have hl := hs x rfl
      have ex : x = txt x.cps.toList := txt_of rfl
      have kq2 : Q (.bl (decide (x.cps.toList.length = l) && isB x.cps.toList)) H := kq
      clear kq hs
      generalize x.cps.toList = xs at ex hl kq2
      subst ex
      refine ⟨_, rfl, .str _, .ty "str", .type "str", .type "str", true, rfl, .ty "str", .base (.str _), kit_ty (by decide +kernel), true, rfl, iteF ?_⟩
      refine ⟨_, rfl, _, rfl, (by rw [txt_len]; exact Nat.le_trans hl (by decide)), _, rfl, rfl, _, rfl, ?_⟩
      by_cases c : xs.length = l
      · rw [show decide (V.int (((txt xs).length : Nat) : Int) = nV l) = true from decide_eq_true (by rw [txt_len, c]; rfl)]
        refine iteF ?_
        refine ⟨_, rfl, ⟨_, rfl⟩, _, _, rfl, rfl, _, rfl, ⟨_, rfl⟩, _, _, rfl, rfl, _, _, rfl, rfl, _, rfl, rfl, ?_⟩
        show Q (V.bl (decide (V.int (Txt.count (txt xs) ⟨#[48]⟩ + Txt.count (txt xs) ⟨#[49]⟩) = V.int (l : Int)))) H
        rw [count_cnt, count_cnt]
        show Q (V.bl (decide (V.int (cnt 48 xs.toArray.toList + cnt 49 xs.toArray.toList) = V.int (l : Int)))) H
        rw [show xs.toArray.toList = xs by simp]
        rw [decide_eq_true c, Bool.true_and] at kq2
        have e := (cnt_isB xs).2
        rw [c] at e
        cases hB : isB xs with
        | true =>
          rw [hB] at kq2 e
          rw [e.mpr rfl, decide_eq_true rfl]; exact kq2
        | false =>
          rw [hB] at kq2 e
          rw [decide_eq_false (fun z => by injection z with z; exact absurd (e.mp z) (by decide))]; exact kq2
      · rw [show decide (V.int (((txt xs).length : Nat) : Int) = nV l) = false from decide_eq_false (fun z => c (by rw [txt_len] at z; unfold nV at z; injection z with z; omega))]
        rw [decide_eq_false c, Bool.false_and] at kq2
        exact iteT kq2
theorem sc_cwords : FnScope ["words", "lengths", "index", "word", "other"] ["words", "lengths"] (defScope s_cwords) := ⟨rfl, rfl, rfl, by decide +kernel, rfl, by decide +kernel, by decide +kernel⟩
theorem ok_cwords (T : Txt K mg A) : FnOk P w K mg base (L2.CX P w) 4 A.a_cwords A.d_cwords ["words", "lengths"] (spCw K A.c_BadWord A.c_Begins) := by
  have G_isword := ok_isword (P := P) (w := w) (base := base) T
  have G_BadWord := ok_BadWord (P := P) (w := w) (base := base) T
  have G_Begins := ok_Begins (P := P) (w := w) (base := base) T
  refine T.F_cwords.okX sc_cwords (fun vs H Q E h => ?_) (fun cdv Ar outer s H vs Q E hr h => ?_)
  · obtain ⟨b, a, ws, L, rfl, _⟩ := h; rfl
  · obtain ⟨b, a, ws, L, rfl, hb, ha, wl, l26, ho, k1, k2⟩ := h
    refine ⟨_, (pss_cons (ps_for (passes_of rfl) rfl (pi_or (pi_enum (by rfl) T.z_enumerate (pa_cons (pv 0) pa_nil)) (pi_enumF (by rfl) T.z_enumerate (pa_cons (pv 0) pa_nil))) (pg_tup (by rfl) (pgs_cons (pg_name (i := 2) sc_cwords.nd rfl (Or.inl rfl)) (pgs_cons (pg_name (i := 3) sc_cwords.nd rfl (Or.inl rfl)) pgs_nil)))
         (pss_one (ps_if (pt_not (pt_val (pe_call G_isword (hr.mono (by decide)) (by rfl) T.g_isword T.F_isword.kp T.b_isword .nil pass0 (pa_cons (pv 3) (pa_cons (pe_ix ix_seq (pv 1) (pv 2) (fun _ _ => rfl)) pa_nil))))) (pss_one (ps_raise rfl (takes_of rfl rfl rfl rfl) (pmk_oex T.E_BadWord.E.T T.E_BadWord.E.iC T.E_BadWord.E.tI G_BadWord (hr.mono (by decide)) T.E_BadWord.bb .nil pass0 (by rfl) T.E_BadWord.g (pa_cons (pv 2) pa_nil))))
           pss_nil)))
      (pss_one (ps_for (passes_of rfl) rfl (pi_or (pi_enum (by rfl) T.z_enumerate (pa_cons (pv 0) pa_nil)) (pi_enumF (by rfl) T.z_enumerate (pa_cons (pv 0) pa_nil))) (pg_tup (by rfl) (pgs_cons (pg_name (i := 2) sc_cwords.nd rfl (Or.inl rfl)) (pgs_cons (pg_name (i := 3) sc_cwords.nd rfl (Or.inl rfl)) pgs_nil)))
         (pss_one (ps_for (passes_of rfl) rfl (pi_range2 (by rfl) T.z_range (pa_cons (pe_op op_add (pv 2) pe_int) (pa_cons (pe_callB call_len_seq (by rfl) T.z_len PySem.boot_len (pa_cons (pv 0) pa_nil)) pa_nil))) (pg_name (i := 4) sc_cwords.nd rfl (Or.inl rfl))
            (pss_one (ps_if (PW.pt (pw_or (pt_val (pe_m1 PySem.F.slot_str_startswith PySem.F.type_str_startswith mt_startswith (pv 3) (pe_ix ix_seq (pv 0) (pv 4) (fun _ _ => rfl)))) (pw_or1 (pt_val (pe_m1 PySem.F.slot_str_startswith PySem.F.type_str_startswith mt_startswith (pe_ix ix_seq (pv 0) (pv 4) (fun _ _ => rfl)) (pv 3)))))) (pss_one (ps_raise rfl (takes_of rfl rfl rfl rfl) (pmk_oex T.E_Begins.E.T T.E_Begins.E.iC T.E_Begins.E.tI G_Begins (hr.mono (by decide)) T.E_Begins.bb .nil pass0 (by rfl) T.E_Begins.g (pa_cons (pv 2) (pa_cons (pv 4) pa_nil)))))
              pss_nil))))))), ?_⟩
    refine enum_read (a := b) (xs := ws) rfl (enumE hb (fun i ρ G => (∃ y z u, ρ = [some (.ref b), some (.ref a), y, z, u]) ∧ Same H G ∧ ∀ (j : Nat) (v : V) (l : Nat), j < i → ws[j]? = some v → L[j]? = some l → isW v l = true) (fun _ _ _ h => h.2.1) ⟨⟨_, _, _, rfl⟩, Same.refl H, fun j v l hj => absurd hj (Nat.not_lt_zero j)⟩ ?_ ?_)
    · rintro i v ρ G1 t hx ⟨⟨y, z, u, rfl⟩, sm, hB⟩ nT
      have li : i < L.length := by rw [← wl]; exact (List.getElem?_eq_some_iff.mp hx).1
      have hl := List.getElem?_eq_getElem li
      have sm1 : Same H (upd G1 t (.tup [.int (i : Int), v])) := sm.trans (same_new nT)
      obtain ⟨ov, sv⟩ := ho v (List.mem_of_getElem? hx)
      have ov := ov.same sm1
      refine ⟨t, _, rfl, SqT.of upd_same, rfl, _, _, rfl, _, _, rfl, rfl, ?_⟩
      generalize upd G1 t (.tup [.int (i : Int), v]) = G2 at sm1 ov ⊢
      generalize L[i] = l at hl
      refine ⟨_, rfl, _, rfl, _, rfl, (ha.same sm1).ix rfl (by rw [List.getElem?_map, hl]; rfl) ?_⟩
      refine ⟨v, l, rfl, ov, sv, _, rfl, ?_⟩
      cases hw : isW v l with
      | false =>
        exact iteT ⟨_, rfl, err_read (K := K) (Q := E) (C := A.c_BadWord) (fs := ["index"]) (us := [.int (i : Int)]) (H := G2) rfl (by show 1 ≤ 1000; decide) (fun u hu => by simp only [List.mem_cons, List.not_mem_nil, or_false] at hu; subst hu; exact fl_int _)
          (fun u hu => by simp only [List.mem_cons, List.not_mem_nil, or_false] at hu; subst hu; exact .int _) (fun d G s e => k1 i ⟨⟨v, l, hx, hl, hw⟩, hB⟩ d G (sm1.trans s) e)⟩
      | true =>
        refine iteF ⟨⟨_, _, _, rfl⟩, sm1, fun j v' l' hj hv' hl' => ?_⟩
        rcases Nat.lt_succ_iff_lt_or_eq.mp hj with hj | rfl
        · exact hB j v' l' hj hv' hl'
        · rw [hx] at hv'; rw [hl] at hl'; cases hv'; cases hl'; exact hw
    · rintro ρ G1 ⟨⟨y, z, u, rfl⟩, sm, hB⟩
      have hA : AllW ws L := fun j v l hv hl => hB j v l (List.getElem?_eq_some_iff.mp hv).1 hv hl
      obtain ⟨ss, rfl⟩ := strs_of wl hA
      obtain ⟨kb, kf⟩ := k2 ss rfl hA
      rw [List.length_map] at wl
      have lw : (ss.map V.str).length = ss.length := List.length_map ..
      have sat : ∀ {i : Nat} {x : Str}, ss[i]? = some x → (ss.map V.str)[i]? = some (.str x) := fun h => by rw [List.getElem?_map, h]; rfl
      refine enum_read (a := b) (xs := ss.map V.str) rfl (enumE (hb.same sm) (fun i ρ G => (∃ y z u, ρ = [some (.ref b), some (.ref a), y, z, u]) ∧ Same G1 G ∧ ∀ (i' j' : Nat) (x x' : Str), i' < i → i' < j' → ss[i']? = some x → ss[j']? = some x' → begT x x' = false) (fun _ _ _ h => h.2.1) ⟨⟨_, _, _, rfl⟩, Same.refl G1, fun i' j' x x' h => absurd h (Nat.not_lt_zero _)⟩ ?_ ?_)
      · rintro i v ρ G2 t hx ⟨⟨y, z, u, rfl⟩, sm3, hF⟩ nT
        rw [List.getElem?_map] at hx
        obtain ⟨x, hw, rfl⟩ := Option.map_eq_some_iff.mp hx
        have s5 := sm3.trans (same_new (o := .tup [.int (i : Int), .str x]) nT)
        refine ⟨t, _, rfl, SqT.of upd_same, rfl, _, _, rfl, _, _, rfl, rfl, ?_⟩
        generalize upd G2 t (.tup [.int (i : Int), .str x]) = G3 at s5 ⊢
        have iw : i < ss.length := (List.getElem?_eq_some_iff.mp hw).1
        have hb3 := (hb.same sm).same s5
        refine ⟨_, rfl, _, _, rfl, rfl, _, rfl, b, _, rfl, hb3, _, _, rfl, ⟨by omega, by omega, by omega, by omega⟩, ?_⟩
        refine for_range (lo := (i : Int) + 1) (n := (((ss.map V.str).length : Nat) : Int) - ((i : Int) + 1) |>.toNat) (fun j σ G => (∃ z, σ = [some (.ref b), some (.ref a), some (.int (i : Int)), some (.str x), z]) ∧ G = G3 ∧ ∀ (j' : Nat) (x' : Str), i < j' → j' < i + 1 + j → ss[j']? = some x' → begT x x' = false) ⟨⟨_, rfl⟩, rfl, fun j' x' h1 h2 => by omega⟩ ?_ ?_
        · rintro j σ G4 hj ⟨⟨z, rfl⟩, rfl, hJ⟩
          have jw : i + 1 + j < ss.length := by omega
          have hy := List.getElem?_eq_getElem jw
          have ej : (i : Int) + 1 + (j : Int) = ((i + 1 + j : Nat) : Int) := by omega
          generalize ss[i + 1 + j] = y' at hy
          have rd : begT x y' = true → _ := fun n => err_read (K := K) (Q := E) (C := A.c_Begins) (fs := ["index", "other"]) (us := [.int (i : Int), .int ((i : Int) + 1 + (j : Int))]) (H := G4) rfl (by show 2 ≤ 1000; decide) (fun u hu => by simp only [List.mem_cons, List.not_mem_nil, or_false] at hu; rcases hu with rfl | rfl <;> exact fl_int _)
            (fun u hu => by simp only [List.mem_cons, List.not_mem_nil, or_false] at hu; rcases hu with rfl | rfl <;> exact .int _) (fun d G s e => kb i (i + 1 + j) ⟨by omega, ⟨x, y', hw, hy, n⟩, fun i' j' p q hc hij hp hq => by
              rcases hc with hc | ⟨rfl, hc⟩
              · exact hF i' j' p q hc hij hp hq
              · rw [hw] at hp; cases hp; exact hJ j' q hij hc hq⟩ d G ((sm.trans s5).trans s) (by rw [← ej]; exact e))
          refine ⟨_, rfl, ⟨_, rfl⟩, _, rfl, _, rfl, hb3.ix ej (sat hy) ?_⟩
          refine ⟨_, _, rfl, rfl, _, rfl, ?_⟩
          cases n1 : Txt.startswith x y' with
          | true => exact iteT ⟨_, rfl, _, rfl, rd (by unfold begT; rw [n1]; rfl)⟩
          | false =>
          refine iteF ?_
          refine ⟨_, rfl, _, rfl, hb3.ix ej (sat hy) ?_⟩
          refine ⟨⟨_, rfl⟩, _, rfl, _, _, rfl, rfl, _, rfl, ?_⟩
          cases n2 : Txt.startswith y' x with
          | true => exact iteT ⟨_, rfl, _, rfl, rd (by unfold begT; rw [n2, Bool.or_true])⟩
          | false =>
          refine iteF ⟨⟨_, rfl⟩, rfl, fun j' x' h1 h2 h3 => ?_⟩
          by_cases c : j' = i + 1 + j
          · subst c
            rw [hy] at h3; cases h3
            unfold begT; rw [n1, n2]; rfl
          · exact hJ j' x' h1 (by omega) h3
        · rintro σ G4 ⟨⟨z, rfl⟩, rfl, hJ⟩
          refine ⟨⟨_, _, _, rfl⟩, s5, fun i' j' p q hc hij hp hq => ?_⟩
          rcases Nat.lt_succ_iff_lt_or_eq.mp hc with hc | rfl
          · exact hF i' j' p q hc hij hp hq
          · rw [hw] at hp; cases hp
            have := (List.getElem?_eq_some_iff.mp hq).1
            exact hJ j' q hij (by omega) hq
      · rintro ρ G2 ⟨⟨y, z, u, rfl⟩, sm2, hF⟩
        exact kf (fun i j p q hij hp hq => hF i j p q (by rw [lw]; exact (List.getElem?_eq_some_iff.mp hp).1) hij hp hq) G2 (sm.trans sm2)
end
end Z

set_option Elab.async false
set_option linter.all false
set_option maxRecDepth 100000
set_option maxHeartbeats 8000000
namespace Z
open PySem L2 XV KR
/-! canonical words; two_to, lengths of full codes, the law's words -/
def txs (ws : List (List Nat)) : List V := ws.map fun x => V.str (txt x)
def Ls (L : List Nat) : List V := (L.map fun (l : Nat) => (l : Int)).map V.int
def pr (L : List Nat) : List Pr := L.zipIdx
def cw (L : List Nat) : List (List Nat) := (pr L).map (word (pr L))
structure Good (L : List Nat) : Prop where
  lo : 2 ≤ L.length
  hi : L.length ≤ 26
  kr : Kr (pr L)
structure WOk (ws : List (List Nat)) (L : List Nat) : Prop where
  len : ws.length = L.length
  bit : ∀ (i : Nat) (x : List Nat) (l : Nat), ws[i]? = some x → L[i]? = some l → x.length = l ∧ ∀ c ∈ x, c = 48 ∨ c = 49
  free : ∀ (i j : Nat) (x y : List Nat), ws[i]? = some x → ws[j]? = some y → i < j → ¬ y <+: x ∧ ¬ x <+: y
theorem Good.at {L : List Nat} (G : Good L) {i l : Nat} (h : L[i]? = some l) : 1 ≤ l ∧ l ≤ 25 := by
  have : (l, i) ∈ pr L := by
    unfold pr
    rw [List.mem_zipIdx_iff_getElem?]
    exact h
  exact G.kr.2 _ this
theorem Ls_len (L : List Nat) : (Ls L).length = L.length := by simp [Ls]
theorem Ls_at {L : List Nat} {i l : Nat} (h : L[i]? = some l) : (Ls L)[i]? = some (.int (l : Int)) := by simp [Ls, h]
theorem Ls_of {L : List Nat} {i : Nat} {v : V} (h : (Ls L)[i]? = some v) : ∃ l, L[i]? = some l ∧ v = .int (l : Int) := by
  simp only [Ls, List.map_map, List.getElem?_map, Option.map_eq_some_iff] at h
  obtain ⟨l, e, rfl⟩ := h
  exact ⟨l, e, rfl⟩
theorem txs_len (ws : List (List Nat)) : (txs ws).length = ws.length := by simp [txs]
theorem txs_at {ws : List (List Nat)} {i : Nat} {x : List Nat} (h : ws[i]? = some x) : (txs ws)[i]? = some (.str (txt x)) := by simp [txs, h]
theorem txs_of {ws : List (List Nat)} {i : Nat} {v : V} (h : (txs ws)[i]? = some v) : ∃ x, ws[i]? = some x ∧ v = .str (txt x) := by
  simp only [txs, List.getElem?_map, Option.map_eq_some_iff] at h
  obtain ⟨l, e, rfl⟩ := h
  exact ⟨l, e, rfl⟩
theorem wid_eq {l : Nat} (h : l ≤ 25) : wid l = ((2 ^ (25 - l) : Nat) : Int) := by
  unfold wid
  rw [Int.one_mul, show ((25 : Int) - (l : Int)).toNat = 25 - l by omega]
  norm_cast
theorem wid_sum : ∀ (L : List Nat), (∀ l ∈ L, l ≤ 25) → (L.map wid).sum = (((L.map fun l => 2 ^ (25 - l)).sum : Nat) : Int)
  | [], _ => rfl
  | l :: L, h => by
    rw [List.map_cons, List.map_cons, List.sum_cons, List.sum_cons, wid_sum L fun x hx => h x (List.mem_cons_of_mem _ hx), wid_eq (h l (List.mem_cons_self ..))]
    omega
theorem pr_fst (L : List Nat) (f : Nat → Nat) : ((pr L).map fun q => f q.1) = L.map f := by
  unfold pr
  have : (L.zipIdx.map fun q => f q.1) = (L.zipIdx.map Prod.fst).map f := by rw [List.map_map]; rfl
  rw [this, List.zipIdx_map_fst]
theorem Good.le {L : List Nat} (G : Good L) : ∀ l ∈ L, l ≤ 25 := fun l hl => by
  obtain ⟨i, hi, e⟩ := List.getElem_of_mem hl
  exact (G.at (i := i) (by rw [List.getElem?_eq_getElem hi, e])).2
theorem Good.sum {L : List Nat} (G : Good L) : (L.map wid).sum = 1 * 2 ^ (25 : Int).toNat := by
  rw [wid_sum L G.le, ← pr_fst L, G.kr.1]
  rfl
def spCanon (K : PySem.W.Frag) : Sp := fun vs H Q _ => ∃ (a : Addr) (L : List Nat), vs = [.ref a] ∧ SqE K H a (Ls L) ∧ Good L ∧ ∀ p H', H p = none → Same H H' → H' p = some (.lst (txs (cw L))) → Q (.ref p) H'
theorem pr_at (L : List Nat) (i : Nat) : (pr L)[i]? = L[i]?.map fun l => (l, i) := by
  unfold pr
  rw [List.getElem?_zipIdx]
  simp
theorem pr_len (L : List Nat) : (pr L).length = L.length := by simp [pr]
theorem pr_nodup (L : List Nat) : (pr L).Nodup := by
  have h : ((pr L).map Prod.snd).Nodup := by
    unfold pr
    rw [List.zipIdx_map_snd]
    exact List.nodup_range'
  exact List.Pairwise.of_map Prod.snd (fun a b h e => h (by rw [e])) h
theorem cw_at {L : List Nat} {i l : Nat} (h : L[i]? = some l) : (cw L)[i]? = some (word (pr L) (l, i)) := by
  unfold cw
  rw [List.getElem?_map, pr_at, h]
  rfl
theorem cw_len (L : List Nat) : (cw L).length = L.length := by simp [cw, pr_len]
theorem pr_mem {L : List Nat} {r : Pr} (h : r ∈ pr L) : L[r.2]? = some r.1 := by
  unfold pr at h
  exact List.mem_zipIdx_iff_getElem?.mp h
theorem strict {L : List Nat} {S : List Pr} (hp : S.Perm (pr L)) (hs : S.Pairwise fun x y => ltB y x = false) : S.Pairwise fun x y => ltB x y = true := by
  have nd : S.Nodup := hp.nodup_iff.mpr (pr_nodup L)
  refine (hs.and nd).imp fun {x y} h => ?_
  rcases ltB_tri h.2 with k | k
  · exact k
  · rw [h.1] at k; cases k
/-- what a reference to a pair tells -/
def key (G : Hp) : V → Int × Int
  | .ref t => match G t with
    | some (.tup [.int i, .int j]) => (i, j)
    | _ => (0, 0)
  | _ => (0, 0)
theorem key_of {G : Hp} {t : Addr} {i j : Int} (h : G t = some (.tup [.int i, .int j])) : key G (.ref t) = (i, j) := by
  simp only [key, h]
def nat2 (p : Int × Int) : Pr := (p.1.toNat, p.2.toNat)
theorem pad25 {l : Nat} (h : l ≤ 25) : PadOk (l : Int) = true := by
  have : ∀ l : Fin 26, PadOk ((l.val : Nat) : Int) = true := by decide +kernel
  exact this ⟨l, by omega⟩
/-- a sorted list of pairs, cut at i -/
theorem cut {S : List Pr} {i : Nat} {r : Pr} (h : S[i]? = some r) : S = S.take i ++ r :: S.drop (i + 1) ∧ S.take (i + 1) = S.take i ++ [r] ∧ S.drop i = r :: S.drop (i + 1) := by
  obtain ⟨lt, e⟩ := List.getElem?_eq_some_iff.mp h
  have d : S.drop i = r :: S.drop (i + 1) := by rw [← e]; exact List.drop_eq_getElem_cons lt
  refine ⟨?_, ?_, d⟩
  · rw [← d, List.take_append_drop]
  · rw [List.take_succ, h]; rfl
section
variable {P : Program} {w : World} {K : PySem.W.Frag} {mg : Str → Option Value} {base : Heap} {A : Ad}
theorem sc_canon : FnScope ["lengths", "words", "number", "ahead", "length", "sign", "index", "bits"] ["lengths"] (defScope s_canon) := ⟨rfl, rfl, rfl, by decide +kernel, rfl, by decide +kernel, by decide +kernel⟩
theorem ok_canon (T : Txt K mg A) : FnOk P w K mg base CX0 2 A.a_canon A.d_canon ["lengths"] (spCanon K) := by
  refine T.F_canon.ok sc_canon (fun vs H Q E h => ?_) (fun cdv A outer s H vs Q E hr h => ?_)
  · obtain ⟨a, L, rfl, _⟩ := h; rfl
  · obtain ⟨a, L, rfl, ha, G, kq⟩ := h
    have ll := Ls_len L
    have l2 := G.lo
    have l26 := G.hi
    refine ⟨_, (pss_cons (ps_set (i := 1) sc_canon.nd rfl (Or.inl rfl) (pe_op op_rep (pe_lst (pa_cons pe_str pa_nil)) (pe_callB call_len_seq (by rfl) T.z_len PySem.boot_len (pa_cons (pv 0) pa_nil))))
      (pss_cons (ps_set (i := 2) sc_canon.nd rfl (Or.inl rfl) pe_int)
      (pss_cons (ps_set (i := 3) sc_canon.nd rfl (Or.inl rfl) pe_int)
      (pss_cons (ps_for PassesOwn.never rfl (pi_list (pe_callB cr_sortedPO (by rfl) T.z_sorted (by decide +kernel) (pa_cons (pe_lc (own := [("index", 6), ("bits", 7)]) (by rfl) sc_canon.nd (pi_or (pi_enum (by rfl) T.z_enumerate (pa_cons (pv 0) pa_nil)) (pi_enumF (by rfl) T.z_enumerate (pa_cons (pv 0) pa_nil))) (blkOk_by (own := [("index", 6), ("bits", 7)]) (N := ["lengths", "words", "number", "ahead", "length", "sign", "index", "bits"]) (sc := defScope s_canon) (by decide +kernel)) (fun _ _ _ _ _ => (pg_tupK (K := K) (n := 2) rfl (by rfl) (pgs_cons (pg_name (i := 6) sc_canon.nd rfl (Or.inl rfl)) (pgs_cons (pg_name (i := 7) sc_canon.nd rfl (Or.inl rfl)) pgs_nil)))) (fun _ _ _ _ _ => pts_nil) (fun _ _ _ _ _ => (pe_tup (pa_cons (pv 7) (pa_cons (pv 6) pa_nil))))) pa_nil))) (pg_tup (by rfl) (pgs_cons (pg_name (i := 4) sc_canon.nd rfl (Or.inl rfl)) (pgs_cons (pg_name (i := 5) sc_canon.nd rfl (Or.inl rfl)) pgs_nil)))
         (pss_cons (ps_set (i := 2) sc_canon.nd rfl (Or.inl rfl) (pe_op op_shl (pv 2) (pe_op op_sub (pv 4) (pv 3))))
         (pss_cons (ps_asg (pe_m1 PySem.F.slot_str_zfill PySem.F.type_str_zfill mt_zfill (pe_joined1 (pe_fmtB (pv 2))) (pv 4)) (pg_sub (pv 1) (pv 5) set_list))
         (pss_cons (ps_set (i := 2) sc_canon.nd rfl (Or.inl rfl) (pe_op op_add (pv 2) pe_int))
         (pss_one (ps_set (i := 3) sc_canon.nd rfl (Or.inl rfl) (pv 4)))))))
      (pss_one (ps_ret (pv 1))))))), ?_⟩
    refine ⟨(by show 1 ≤ sizeLine; decide), fun p0 np0 => ?_⟩
    have s0 := same_new (o := .lst [V.str ""]) np0
    have e0 : upd H p0 (.lst [V.str ""]) p0 = some (.lst [V.str ""]) := upd_same
    generalize upd H p0 (.lst [V.str ""]) = H0 at s0 e0 ⊢
    refine ⟨_, rfl, a, _, rfl, ha.same s0, p0, _, _, rfl, rfl, e0, by omega, by omega, by show 1 * _ ≤ sizeLine; rw [sizeLine_eq]; omega, fun q nq => ?_⟩
    have nqH : H q = none := s0.free nq
    have eq1 : upd H0 q (.lst (List.replicate ((((Ls L).length : Nat) : Int)).toNat [V.str ""]).flatten) q = some (.lst (List.replicate L.length (V.str ""))) := by
      rw [upd_same, Int.toNat_natCast, ll]
      have : ∀ n : Nat, (List.replicate n [V.str ""]).flatten = List.replicate n (V.str "") := fun n => by
        induction n with
        | zero => rfl
        | succ n ih => rw [List.replicate_succ, List.flatten_cons, ih]; rfl
      rw [this]
    have s1 := s0.trans (same_new (o := .lst (List.replicate ((((Ls L).length : Nat) : Int)).toNat [V.str ""]).flatten) nq)
    generalize upd H0 q (.lst (List.replicate ((((Ls L).length : Nat) : Int)).toNat [V.str ""]).flatten) = H1 at s1 eq1 ⊢
    refine enum_read (a := a) (xs := Ls L) rfl (lc_enumE (ha.same s1) (fun D i G => Same H1 G ∧ ∃ ps : List Addr, G D = some (.lst (ps.map V.ref)) ∧ ps.length = i ∧ ∀ (j : Nat) (p : Addr), ps[j]? = some p → ∃ l : Nat, L[j]? = some l ∧ G p = some (.tup [.int (l : Int), .int (j : Int)])) (fun _ _ _ h => h.1) (fun D hD => ⟨same_new hD, [], upd_same, rfl, fun j p e => nomatch e⟩) ?_ ?_)
    · rintro D i x G1 T hD hx ⟨sm, ps, hps, hlen, hp⟩ nT
      obtain ⟨l, hl, rfl⟩ := Ls_of hx
      refine ⟨T, _, rfl, SqT.of upd_same, rfl, _, _, rfl, _, _, rfl, rfl, rfl, yes_of ?_⟩
      have sT := same_new (o := .tup [.int (i : Int), .int (l : Int)]) nT
      have smT := sm.trans sT
      have hpsT := sT _ _ hps
      have hpT : ∀ (j : Nat) (p : Addr), ps[j]? = some p → ∃ m : Nat, L[j]? = some m ∧ upd G1 T (.tup [.int (i : Int), .int (l : Int)]) p = some (.tup [.int (m : Int), .int (j : Int)]) := fun j p e => by
        obtain ⟨l', h1, h2⟩ := hp j p e
        exact ⟨l', h1, sT _ _ h2⟩
      generalize upd G1 T (.tup [.int (i : Int), .int (l : Int)]) = G2 at smT hpsT hpT ⊢
      refine ⟨_, rfl, _, rfl, (by show 2 ≤ sizeLine; decide), fun t nt => ?_⟩
      have st := same_new (o := .tup [V.int (l : Int), .int (i : Int)]) nt
      have ht : upd G2 t (.tup [V.int (l : Int), .int (i : Int)]) t = some (.tup [V.int (l : Int), .int (i : Int)]) := upd_same
      have sm3 := smT.trans st
      have hps3 := st _ _ hpsT
      refine ⟨_, hps3, by rw [List.length_map, hlen, sizeLine_eq]; have := (List.getElem?_eq_some_iff.mp hl).1; omega, fun b o e => by rw [upd_ne (ne_of_none e hD)]; exact sm3 _ _ e, ps ++ [t], by rw [List.map_append]; exact upd_same, by rw [List.length_append, hlen]; rfl, fun j p e => ?_⟩
      have ne : ∀ (p : Addr) (u v : V), upd G2 t (.tup [V.int (l : Int), .int (i : Int)]) p = some (.tup [u, v]) → upd (upd G2 t (.tup [V.int (l : Int), .int (i : Int)])) D (.lst (ps.map V.ref ++ [V.ref t])) p = some (.tup [u, v]) := fun p u v e => by
        rw [upd_ne (ne_of e hps3 (fun z => nomatch z))]; exact e
      rw [List.getElem?_append] at e
      split at e
      · obtain ⟨l', h1, h2⟩ := hpT j p e
        exact ⟨l', h1, ne _ _ _ (st _ _ h2)⟩
      · rename_i c
        have j0 : j - ps.length = 0 := by
          have := (List.getElem?_eq_some_iff.mp e).1
          simp at this; omega
        rw [j0] at e
        obtain rfl := Option.some.inj e
        have ji : j = i := by omega
        subst ji
        exact ⟨l, hl, ne _ _ _ ht⟩
    · rintro D G1 hD ⟨sm, ps, hps, hlen, hp⟩
      rw [ll] at hlen
      have kx : ∀ x ∈ ps.map V.ref, ∃ t, x = V.ref t ∧ G1 t = some (.tup [.int (key G1 x).1, .int (key G1 x).2]) := fun x hx => by
        obtain ⟨t, ht, rfl⟩ := List.mem_map.mp hx
        obtain ⟨j, hj, e⟩ := List.getElem_of_mem ht
        obtain ⟨l, _, h⟩ := hp j t (by rw [List.getElem?_eq_getElem hj, e])
        exact ⟨t, rfl, by rw [key_of h]; exact h⟩
      refine ⟨D, ps.map V.ref, key G1, rfl, SqL.of hps, kx, fun ys p srt stb np => ?_⟩
      have nqG : ∀ o, G1 q = some o → q ≠ p := fun o e => ne_of_none e np
      have eqG := sm _ _ eq1
      have s2 : Same H G1 := s1.trans sm
      have sp := same_new (o := .lst ys) np
      -- the pairs, in their order
      have back : ∀ y ∈ ys, ∃ (t : Addr) (l j : Nat), y = .ref t ∧ G1 t = some (.tup [.int (l : Int), .int (j : Int)]) ∧ key G1 y = ((l : Int), (j : Int)) := fun y hy => by
        obtain ⟨t, ht, rfl⟩ := List.mem_map.mp (stb.perm.mem_iff.mp hy)
        obtain ⟨j, hj, e⟩ := List.getElem_of_mem ht
        obtain ⟨l, _, h⟩ := hp j t (by rw [List.getElem?_eq_getElem hj, e])
        exact ⟨t, l, j, rfl, h, key_of h⟩
      obtain ⟨S, hS⟩ : ∃ S, S = ys.map fun y => nat2 (key G1 y) := ⟨_, rfl⟩
      have hperm : S.Perm (pr L) := by
        have h1 : S.Perm ((ps.map V.ref).map fun y => nat2 (key G1 y)) := by rw [hS]; exact stb.perm.map _
        have h2 : ((ps.map V.ref).map fun y => nat2 (key G1 y)) = pr L := by
          apply List.ext_getElem?
          intro j
          rw [List.map_map, List.getElem?_map, pr_at]
          by_cases c : j < L.length
          · have c2 : j < ps.length := by omega
            obtain ⟨l, h3, h4⟩ := hp j _ (List.getElem?_eq_getElem c2)
            rw [List.getElem?_eq_getElem c2, h3]
            show some (nat2 (key G1 (.ref ps[j]))) = some (l, j)
            rw [key_of h4]
            rfl
          · rw [List.getElem?_eq_none (by omega), List.getElem?_eq_none (by omega)]
            rfl
        rw [h2] at h1
        exact h1
      have hsort : S.Pairwise fun x y => ltB y x = false := by
        rw [hS]
        refine List.pairwise_map.mpr (List.Pairwise.imp_of_mem (fun {x y} hx hy h => ?_) srt)
        obtain ⟨t, l, j, rfl, _, k1⟩ := back x hx
        obtain ⟨t', l', j', rfl, _, k2⟩ := back y hy
        cases c : ltB (nat2 (key G1 (.ref t'))) (nat2 (key G1 (.ref t))) with
        | false => rfl
        | true =>
          have h : SrtO.lexB (key G1 (.ref t')) (key G1 (.ref t)) = false := h
          rw [k1, k2] at c
          rw [k1, k2] at h
          have c2 := ltB_iff.mp c
          have : SrtO.lexB ((l' : Int), (j' : Int)) ((l : Int), (j : Int)) = true := SrtO.lexB_iff.mpr (by
            have c3 : l' < l ∨ l' = l ∧ j' < j := c2
            show (l' : Int) < l ∨ (l' : Int) = l ∧ (j' : Int) < j
            omega)
          rw [h] at this; cases this
      have hst := strict hperm hsort
      have lS : S.length = ys.length := by rw [hS, List.length_map]
      refine ⟨p, rfl, ⟨ys, SqL.of upd_same⟩, ?_⟩
      have e3 : upd G1 p (.lst ys) p = some (.lst ys) := upd_same
      have s3 := s2.trans sp
      have eq3 := sp _ _ eqG
      have tup3 : ∀ t u v, G1 t = some (.tup [u, v]) → upd G1 p (.lst ys) t = some (.tup [u, v]) := fun t u v e => sp _ _ e
      have qp := nqG _ eqG
      generalize upd G1 p (.lst ys) = G3 at e3 s3 eq3 tup3 ⊢
      refine for_list (K := K) (a := p) (xs := ys) (fun i σ G => (∃ (num ah : Nat) (z4 z5 z6 z7 : Option V) (vs : List V), σ = [some (.ref a), some (.ref q), some (.int (num : Int)), some (.int (ah : Int)), z4, z5, z6, z7] ∧ num = acc (S.take i) ah ∧ (∀ r ∈ S.take i, r.1 ≤ ah) ∧ (∀ r ∈ S.drop i, ah ≤ r.1) ∧ G q = some (.lst vs) ∧ vs.length = L.length ∧
        ∀ r ∈ S.take i, vs[r.2]? = some (.str (txt (word (pr L) r)))) ∧ But q G3 G) ⟨⟨0, 0, none, none, none, none, _, rfl, rfl, fun r h => (by cases h), fun r h => Nat.zero_le _, eq3, List.length_replicate, fun r h => (by cases h)⟩, But.of (Same.refl G3)⟩ (fun i σ G _ h => SqL.of (h.2 _ _ qp.symm e3)) ?_ ?_
      · rintro i y σ G4 hy ⟨⟨num, ah, z4, z5, z6, z7, vs, rfl, hnum, hlo, hhi, hq, hvs, hw⟩, bt⟩
        obtain ⟨t, l, j, rfl, ht, hk⟩ := back y (List.mem_of_getElem? hy)
        have hSi : S[i]? = some (l, j) := by rw [hS, List.getElem?_map, hy]; show some (nat2 (key G1 (.ref t))) = _; rw [hk]; rfl
        obtain ⟨c1, c2, c3⟩ := cut hSi
        have hin : (l, j) ∈ pr L := hperm.mem_iff.mp (List.mem_of_getElem? hSi)
        have hLj : L[j]? = some l := pr_mem hin
        have hjl : j < L.length := (List.getElem?_eq_some_iff.mp hLj).1
        have rl := G.at hLj
        have hal : ah ≤ l := hhi (l, j) (by rw [c3]; exact List.mem_cons_self ..)
        have hsh : num * 2 ^ (l - ah) = acc (S.take i) l := by rw [hnum]; exact acc_shift hlo hal
        have hnl : acc (S.take i) l = KR.num (pr L) (l, j) := by
          rw [← num_perm hperm]
          exact (num_sorted (p := (l, j)) hst c1).symm
        have hlt : acc (S.take i) l < 2 ^ l := by rw [hnl]; exact num_lt G.kr hin
        have h25 : 2 ^ l ≤ 2 ^ 25 := Nat.pow_le_pow_right (by decide) rl.2
        have hsm : num ≤ acc (S.take i) l := by rw [← hsh]; exact Nat.le_mul_of_pos_right _ (Nat.pow_pos (by decide))
        have n25 : num < 2 ^ 25 := by omega
        have ht4 : G4 t = some (.tup [.int (l : Int), .int (j : Int)]) := bt _ _ (ne_of (tup3 _ _ _ ht) eq3 (fun z => nomatch z)) (tup3 _ _ _ ht)
        have esh : (num : Int) * 2 ^ ((l : Int) - (ah : Int)).toNat = ((acc (S.take i) l : Nat) : Int) := by
          rw [← hsh, show ((l : Int) - (ah : Int)).toNat = l - ah by omega]
          norm_cast
        refine ⟨t, _, rfl, SqT.of ht4, rfl, _, _, rfl, _, _, rfl, rfl, ?_⟩
        refine ⟨_, rfl, _, rfl, _, rfl, _, _, rfl, rfl, _, _, rfl, rfl, ⟨by omega, by omega, by rw [Int.natAbs_natCast]; omega⟩, ?_⟩
        refine ⟨_, rfl, acc (S.take i) l, congrArg V.int esh, ?_, ?_⟩
        · exact Nat.le_trans (bin_len rl.1 hlt) (by rw [sizeLine_eq]; omega)
        refine ⟨⟨_, rfl⟩, _, rfl, _, _, rfl, rfl, pad25 rl.2, ?_⟩
        rw [zfill_bin rl.1 hlt]
        have ej : ixN vs.length ((j : Nat) : Int) = some j := by
          unfold ixN
          rw [if_pos (by omega), if_pos (by omega), Int.toNat_natCast]
        refine ⟨_, rfl, _, rfl, q, vs, _, j, rfl, rfl, hq, ej, ?_⟩
        refine ⟨_, rfl, _, _, rfl, rfl, _, rfl, ?_⟩
        have en : (((acc (S.take i) l + 1 : Nat)) : Int) = (num : Int) * 2 ^ ((l : Int) - (ah : Int)).toNat + 1 := by rw [esh]; rfl
        refine ⟨⟨acc (S.take i) l + 1, l, some (.int (l : Int)), some (.int (j : Int)), z6, z7, vs.set j (.str (txt (bitsL l (acc (S.take i) l)))), ?_, ?_, ?_, ?_, upd_same, ?_, ?_⟩, But.upd bt⟩
        · rw [en]; rfl
        · rw [c2]; exact (acc_snoc (S.take i) (l, j)).symm
        · intro r hr
          rw [c2] at hr
          rcases List.mem_append.mp hr with hr | hr
          · exact Nat.le_trans (hlo r hr) hal
          · rw [List.mem_singleton.mp hr]; exact Nat.le_refl _
        · intro r hr
          have h0 := hst
          rw [c1, List.pairwise_append] at h0
          have h1 := (List.pairwise_cons.mp h0.2.1).1 r hr
          have := ltB_iff.mp h1
          show l ≤ r.1
          have h2 : l < r.1 ∨ l = r.1 ∧ j < r.2 := this
          omega
        · rw [List.length_set]; exact hvs
        · intro r hr
          rw [c2] at hr
          rcases List.mem_append.mp hr with hr | hr
          · have h0 := hst
            rw [c1, List.pairwise_append] at h0
            have h1 := ltB_iff.mp (h0.2.2 r hr (l, j) (List.mem_cons_self ..))
            have hrp : r ∈ pr L := hperm.mem_iff.mp (by rw [c1]; exact List.mem_append_left _ hr)
            have hne : j ≠ r.2 := fun e => by
              have h2 := pr_mem hrp
              rw [← e, hLj] at h2
              have h3 : l = r.1 := Option.some.inj h2
              have h4 : r.1 < l ∨ r.1 = l ∧ r.2 < j := h1
              omega
            rw [List.getElem?_set_ne hne]
            exact hw r hr
          · rw [List.mem_singleton.mp hr, List.getElem?_set_self (by omega), hnl]
            rfl
      · rintro σ G4 ⟨⟨num, ah, z4, z5, z6, z7, vs, rfl, hnum, hlo, hhi, hq, hvs, hw⟩, bt⟩
        have ev : vs = txs (cw L) := by
          apply List.ext_getElem?
          intro j
          by_cases c : j < L.length
          · have hl := List.getElem?_eq_getElem c
            have hin : (L[j], j) ∈ S.take ys.length := by
              rw [← lS, List.take_length]
              refine hperm.mem_iff.mpr (List.mem_of_getElem? (i := j) ?_)
              rw [pr_at, hl]; rfl
            rw [hw _ hin, txs_at (cw_at hl)]
          · rw [List.getElem?_eq_none (by omega), List.getElem?_eq_none (by rw [txs_len, cw_len]; omega)]
        rw [ev] at hq
        refine ⟨_, rfl, kq q G4 nqH (fun b o e => bt b o (ne_of_none e nqH) (s3 b o e)) hq⟩
end
theorem sum_set : ∀ (L : List Nat) (i x : Nat) (h : i < L.length), (L.set i x).sum + L[i] = L.sum + x
  | y :: L, 0, x, _ => by simp; omega
  | y :: L, i + 1, x, h => by
    have := sum_set L i x (by simpa using h)
    simp at this ⊢
    omega
def wsum (L : List Nat) : Nat := (L.map fun l => 2 ^ (25 - l)).sum
theorem wsum_step {L : List Nat} {i : Nat} (h : i < L.length) (hl : L[i] ≤ 24) : wsum (L.set i (L[i] + 1) ++ [L[i] + 1]) = wsum L := by
  unfold wsum
  rw [List.map_append, List.sum_append, List.map_set]
  have h' : i < (L.map fun l => 2 ^ (25 - l)).length := by rw [List.length_map]; exact h
  have := sum_set (L.map fun l => 2 ^ (25 - l)) i (2 ^ (25 - (L[i] + 1))) h'
  rw [List.getElem_map] at this
  have e : 2 ^ (25 - L[i]) = 2 ^ (25 - (L[i] + 1)) + 2 ^ (25 - (L[i] + 1)) := by
    rw [show 25 - L[i] = (25 - (L[i] + 1)) + 1 by omega, Nat.pow_succ]; omega
  simp only [List.map_cons, List.map_nil, List.sum_cons, List.sum_nil] at this ⊢
  omega
theorem good_of {L : List Nat} (h1 : 2 ≤ L.length) (h2 : L.length ≤ 26) (hs : wsum L = 2 ^ 25) (hb : ∀ l ∈ L, 1 ≤ l ∧ l ≤ 25) : Good L where
  lo := h1
  hi := h2
  kr := ⟨by rw [pr_fst L fun l => 2 ^ (25 - l)]; exact hs, fun q hq => hb q.1 (List.mem_of_getElem? (pr_mem hq))⟩
theorem lex2 (a b c d : Nat) : HT.lexLt [(a : Int), (b : Int)] [(c : Int), (d : Int)] = ltB (a, b) (c, d) := by
  unfold ltB HT.lexLt
  by_cases e : a = c
  · subst e
    rw [if_pos rfl]
    unfold HT.lexLt
    by_cases f : b = d
    · subst f
      rw [if_pos rfl]
      unfold HT.lexLt
      simp
    · rw [if_neg (by omega)]
      simp
  · rw [if_neg (by omega)]
    have : ((a : Int) < c) = (a < c) := by simp
    simp [e]
theorem sumF_take {P : List Pr} {c : Pr → Bool} {f : Pr → Nat} {j : Nat} {r : Pr} (h : P[j]? = some r) : sumF (P.take (j + 1)) c f = sumF (P.take j) c f + if c r = true then f r else 0 := by
  unfold sumF
  rw [List.take_succ, h]
  simp only [Option.toList, List.filter_append, List.map_append, List.sum_append]
  congr 1
  by_cases e : c r = true
  · simp [e]
  · simp [e]
theorem digit (n : Nat) : (toString ((n : Int) % 2) : String) = toString ((n : Int) % 2) := rfl
theorem str_bit (n : Nat) : Str.ofString (toString ((n : Int) % 2)) = txt [48 + n % 2] := by
  rcases Nat.mod_two_eq_zero_or_one n with e | e
  · have : (n : Int) % 2 = 0 := by omega
    rw [this, e]; rfl
  · have : (n : Int) % 2 = 1 := by omega
    rw [this, e]; rfl
theorem txt_app (a b : List Nat) : txt a ++ txt b = txt (a ++ b) := by
  refine txt_of ?_
  show ((txt a).cps ++ (txt b).cps).toList = _
  simp [txt]
end Z

set_option Elab.async false
set_option linter.all false
set_option maxRecDepth 100000
set_option maxHeartbeats 8000000
namespace Z
open PySem L2 XV KR
/-! Code is made, or refused -/
theorem Ls_eq (L : List Nat) : (L.map fun (l : Nat) => V.int (l : Int)) = Ls L := by unfold Ls; rw [List.map_map]; rfl
theorem nV_eq (L : List Nat) : L.map nV = Ls L := Ls_eq L
theorem SqE.but {K : PySem.W.Frag} {H G : Hp} {x C dx p : Addr} {fs : List (Str × V)} {xs : List V} (hx : H x = some (.ins C dx fs)) (bt : But x H G) (h : SqE K H p xs) : SqE K G p xs := by
  have tb : SqT K H p xs → SqT K G p xs := fun h => by
    rcases h with (h | ⟨o, h⟩) | h
    · exact .inl (.inl (bt _ _ (ne_of h hx (fun z => nomatch z)) h))
    · exact .inl (.inr ⟨o, bt _ _ (ne_of h hx (fun z => nomatch z)) h⟩)
    · exact .inr h
  rcases h with h | h
  · rcases h with (h | ⟨o, h⟩) | h
    · exact .inl (.inl (.inl (bt _ _ (ne_of h hx (fun z => nomatch z)) h)))
    · exact .inl (.inl (.inr ⟨o, bt _ _ (ne_of h hx (fun z => nomatch z)) h⟩))
    · exact .inl (.inr h)
  · exact .inr (tb h)
theorem put1 (u : V) : putF "words" u [] = [(("words" : Str), u)] := by kernel_rfl
theorem put2 (u v : V) : putF "lengths" v [(("words" : Str), u)] = [(("words" : Str), u), ("lengths", v)] := by kernel_rfl
theorem put3 (u v z : V) : putF "size" z [(("words" : Str), u), ("lengths", v)] = [(("words" : Str), u), ("lengths", v), ("size", z)] := by kernel_rfl
theorem put4 (u v z y : V) : putF "longest" y [(("words" : Str), u), ("lengths", v), ("size", z)] = [(("words" : Str), u), ("lengths", v), ("size", z), ("longest", y)] := by kernel_rfl
/-- the words that a Code is given, or none -/
def Giv (K : PySem.W.Frag) (H : Hp) (v : V) (n : Nat) (g : Option (List V)) : Prop := match g with
  | none => v = .non
  | some ws => ∃ b, v = .ref b ∧ SqE K H b ws ∧ ws.length = n ∧ ∀ u ∈ ws, Odd K H u ∧ short u
/-- what Code(lengths, words) does, by what it is given -/
structure Outc (A : Ad) (H : Hp) (xs : List V) (g : Option (List V)) (fin : Prop) (E : XK) : Prop where
  many : ¬ (2 ≤ xs.length ∧ xs.length ≤ 26) → ∀ d G, Same H G → G d = some (.xd [("most", .int 26), ("many", .int ((xs.length : Nat) : Int)), ("what", .str "signs")]) → E (.ref A.c_TooMany) (some d) G
  len : 2 ≤ xs.length ∧ xs.length ≤ 26 → ∀ i : Nat, BadL xs i → ∀ d G, Same H G → G d = some (.xd [("index", .int (i : Int))]) → E (.ref A.c_BadLength) (some d) G
  full : 2 ≤ xs.length ∧ xs.length ≤ 26 → ∀ L : List Nat, xs = Ls L → (∀ l ∈ L, 1 ≤ l ∧ l ≤ 25) → (L.map wid).sum ≠ 2 ^ 25 → ∀ G, Same H G → E (.ref A.c_NotFull) none G
  non : 2 ≤ xs.length ∧ xs.length ≤ 26 → ∀ L : List Nat, xs = Ls L → (∀ l ∈ L, 1 ≤ l ∧ l ≤ 25) → (L.map wid).sum = 2 ^ 25 → g = none → fin
  word : 2 ≤ xs.length ∧ xs.length ≤ 26 → ∀ L : List Nat, xs = Ls L → (∀ l ∈ L, 1 ≤ l ∧ l ≤ 25) → (L.map wid).sum = 2 ^ 25 → ∀ ws, g = some ws → ∀ i : Nat, BadW ws L i → ∀ d G, Same H G → G d = some (.xd [("index", .int (i : Int))]) → E (.ref A.c_BadWord) (some d) G
  begs : 2 ≤ xs.length ∧ xs.length ≤ 26 → ∀ L : List Nat, xs = Ls L → (∀ l ∈ L, 1 ≤ l ∧ l ≤ 25) → (L.map wid).sum = 2 ^ 25 → ∀ ss : List Str, g = some (ss.map V.str) → AllW (ss.map V.str) L → ∀ i j : Nat, BegAt ss i j → ∀ d G, Same H G → G d = some (.xd [("other", .int (j : Int)), ("index", .int (i : Int))]) → E (.ref A.c_Begins) (some d) G
  free : 2 ≤ xs.length ∧ xs.length ≤ 26 → ∀ L : List Nat, xs = Ls L → (∀ l ∈ L, 1 ≤ l ∧ l ≤ 25) → (L.map wid).sum = 2 ^ 25 → ∀ ss : List Str, g = some (ss.map V.str) → AllW (ss.map V.str) L → Free ss → fin
def spInit (K : PySem.W.Frag) (A : Ad) : Sp := fun vs H Q E => ∃ (x dx a : Addr) (v : V) (xs : List V) (g : Option (List V)), vs = [.ref x, .ref a, v] ∧ H x = some (.ins A.c_Code dx []) ∧ SqE K H a xs ∧ (∀ u ∈ xs, Odd K H u) ∧ Giv K H v xs.length g ∧
  Outc A H xs g (∀ H' fs, But x H H' → H' x = some (.ins A.c_Code dx fs) → Q .non H') E
theorem good_L {L : List Nat} (h : 2 ≤ (Ls L).length ∧ (Ls L).length ≤ 26) (hL : ∀ l ∈ L, 1 ≤ l ∧ l ≤ 25) (hs : (L.map wid).sum = 2 ^ 25) : Good L := by
  rw [Ls_len] at h
  refine good_of h.1 h.2 ?_ hL
  have e := wid_sum L fun l hl => (hL l hl).2
  rw [hs] at e
  have : (2 : Int) ^ 25 = ((2 ^ 25 : Nat) : Int) := by norm_cast
  rw [this] at e
  exact (Int.ofNat.inj e).symm
section
variable {P : Program} {w : World} {K : PySem.W.Frag} {mg : Str → Option Value} {base : Heap} {A : Ad}
theorem sc_init : FnScope ["self", "lengths", "words"] ["self", "lengths", "words"] (defScope s_init) := ⟨rfl, rfl, rfl, by decide +kernel, rfl, by decide +kernel, by decide +kernel⟩
theorem ok_init (T : Txt K mg A) : FnOk P w K mg base (L2.CX P w) 6 A.a_init A.d_init ["self", "lengths", "words"] (spInit K A) := by
  have G_lens := ok_lens (P := P) (w := w) (base := base) T
  have G_canon := ok_canon (P := P) (w := w) (base := base) T
  have G_cwords := ok_cwords (P := P) (w := w) (base := base) T
  have Co := T.Co
  refine T.F_init.ok sc_init (fun vs H Q E h => ?_) (fun cdv Ar outer s H vs Q E hr h => ?_)
  · obtain ⟨x, dx, a, v, xs, g, rfl, _⟩ := h; rfl
  · obtain ⟨x, dx, a, v, xs, g, rfl, hx, ha, ho, hg, O⟩ := h
    refine ⟨_, (pss_cons (ps_expr (pe_call G_lens (hr.mono (by decide)) (by rfl) T.g_lens T.F_lens.kp T.b_lens .nil (passes_call (takes_of rfl rfl rfl rfl) (fun _ _ _ _ h => h)) (pa_cons (pv 1) pa_nil)))
      (pss_cons (ps_if (pt_cmpR op_isN (pv 2) pe_non (nomark _)) (pss_one (ps_fld (pv 0) (pe_callTy call_tupE (by rfl) T.z_tuple (by decide +kernel) (pa_cons (pe_call G_canon (hr.mono (by decide)) (by rfl) T.g_canon T.F_canon.kp T.b_canon .nil pass0 (pa_cons (pv 1) pa_nil)) pa_nil)) rfl))
        (pss_cons (ps_expr (pe_call G_cwords (hr.mono (by decide)) (by rfl) T.g_cwords T.F_cwords.kp T.b_cwords .nil (passes_call (takes_of rfl rfl rfl rfl) (fun _ _ _ _ h => h)) (pa_cons (pv 2) (pa_cons (pv 1) pa_nil))))
       (pss_one (ps_fld (pv 0) (pe_callTy call_tupE (by rfl) T.z_tuple (by decide +kernel) (pa_cons (pv 2) pa_nil)) rfl))))
      (pss_cons (ps_fld (pv 0) (pe_callTy call_tupE (by rfl) T.z_tuple (by decide +kernel) (pa_cons (pv 1) pa_nil)) rfl)
      (pss_cons (ps_fld (pv 0) (pe_callB call_len_seq (by rfl) T.z_len PySem.boot_len (pa_cons (pv 1) pa_nil)) rfl)
      (pss_one (ps_fld (pv 0) (pe_callB (cr_maxE rfl) (by rfl) T.z_max (by decide +kernel) (pa_cons (pv 1) pa_nil)) rfl)))))), ?_⟩
    refine ⟨_, rfl, a, xs, rfl, ha, ho, fun h26 L eL hL => ?_, O.many, O.len⟩
    rw [Ls_eq] at eL
    subst eL
    refine ⟨fun hsum H1 s1 => ?_, fun hsum => O.full h26 L rfl hL hsum⟩
    have G := good_L h26 hL hsum
    cases g with
    | none =>
      have fin := O.non h26 L rfl hL hsum rfl
      cases (show v = .non from hg)
      refine ⟨_, rfl, rfl, _, rfl, iteT ?_⟩
      refine ⟨_, rfl, a, L, rfl, ha.same s1, G, fun p H2' np s2 hp => ?_⟩
      refine ⟨p, _, rfl, .inl (SqL.of hp), fun pw H2 s2b hp2 => ?_⟩
      have hx2 := s2b _ _ (s2 _ _ (s1 _ _ hx))
      have b2 : But x H H2 := But.of ((s1.trans s2).trans s2b)
      refine ⟨_, rfl, x, _, dx, _, rfl, hx2, Co.cl, Co.n_words, (by show 0 < 1000; decide), ?_⟩
      rw [put1]
      have b3 : But x H (upd H2 x (.ins A.c_Code dx [("words", .ref pw)])) := But.upd b2
      have hx3 : upd H2 x (.ins A.c_Code dx [("words", V.ref pw)]) x = some (.ins A.c_Code dx [("words", V.ref pw)]) := upd_same
      generalize upd H2 x (.ins A.c_Code dx [("words", V.ref pw)]) = H3 at b3 hx3 ⊢
      refine ⟨_, rfl, a, _, rfl, SqE.but hx b3 ha, fun pl H4 s4 hl4 => ?_⟩
      refine ⟨_, rfl, x, _, dx, _, rfl, s4 _ _ hx3, Co.cl, Co.n_lengths, (by show 1 < 1000; decide), ?_⟩
      rw [put2]
      have b5 : But x H (upd H4 x (.ins A.c_Code dx [("words", V.ref pw), ("lengths", V.ref pl)])) := But.upd (b3.trans (But.of s4))
      have hx5 : upd H4 x (.ins A.c_Code dx [("words", V.ref pw), ("lengths", V.ref pl)]) x = some (.ins A.c_Code dx [("words", V.ref pw), ("lengths", V.ref pl)]) := upd_same
      generalize upd H4 x (.ins A.c_Code dx [("words", V.ref pw), ("lengths", V.ref pl)]) = H5 at b5 hx5 ⊢
      refine ⟨_, rfl, a, _, rfl, SqE.but hx b5 ha, ?_⟩
      refine ⟨_, rfl, x, _, dx, _, rfl, hx5, Co.cl, Co.n_size, (by show 2 < 1000; decide), ?_⟩
      rw [put3]
      have b6 : But x H (upd H5 x (.ins A.c_Code dx [("words", V.ref pw), ("lengths", V.ref pl), ("size", .int (((Ls L).length : Nat) : Int))])) := But.upd b5
      have hx6 : upd H5 x (.ins A.c_Code dx [("words", V.ref pw), ("lengths", V.ref pl), ("size", .int (((Ls L).length : Nat) : Int))]) x = some (.ins A.c_Code dx [("words", V.ref pw), ("lengths", V.ref pl), ("size", .int (((Ls L).length : Nat) : Int))]) := upd_same
      generalize upd H5 x (.ins A.c_Code dx [("words", V.ref pw), ("lengths", V.ref pl), ("size", .int (((Ls L).length : Nat) : Int))]) = H6 at b6 hx6 ⊢
      refine ⟨_, rfl, a, _, rfl, SqE.but hx b6 ha, by rw [List.length_map]; have := G.lo; omega, fun m hm1 hm2 => ?_⟩
      refine ⟨_, rfl, x, _, dx, _, rfl, hx6, Co.cl, Co.n_longest, (by show 3 < 1000; decide), ?_⟩
      rw [put4]
      exact fin _ _ (But.upd b6) upd_same
    | some ws =>
      obtain ⟨b, rfl, hb, hwl, hwo⟩ := hg
      have kw := O.word h26 L rfl hL hsum ws rfl
      refine ⟨_, rfl, rfl, _, rfl, iteF ?_⟩
      refine ⟨_, rfl, _, rfl, b, a, ws, L, rfl, hb.same s1, nV_eq L ▸ ha.same s1, by rw [hwl, Ls_len], by have := G.hi; omega, fun u hu => ⟨(hwo u hu).1.same s1, (hwo u hu).2⟩, fun i hi d G2 s2 e => kw i hi d G2 (s1.trans s2) e, fun ss es hA => ?_⟩
      subst es
      refine ⟨fun i j hij d G2 s2 e => O.begs h26 L rfl hL hsum ss rfl hA i j hij d G2 (s1.trans s2) e, fun hF H2' s2 => ?_⟩
      have fin := O.free h26 L rfl hL hsum ss rfl hA hF
      refine ⟨_, rfl, b, _, rfl, (hb.same s1).same s2, fun pw H2 s2b hp2 => ?_⟩
      have hx2 := s2b _ _ (s2 _ _ (s1 _ _ hx))
      have b2 : But x H H2 := But.of ((s1.trans s2).trans s2b)
      refine ⟨_, rfl, x, _, dx, _, rfl, hx2, Co.cl, Co.n_words, (by show 0 < 1000; decide), ?_⟩
      rw [put1]
      have b3 : But x H (upd H2 x (.ins A.c_Code dx [("words", .ref pw)])) := But.upd b2
      have hx3 : upd H2 x (.ins A.c_Code dx [("words", V.ref pw)]) x = some (.ins A.c_Code dx [("words", V.ref pw)]) := upd_same
      generalize upd H2 x (.ins A.c_Code dx [("words", V.ref pw)]) = H3 at b3 hx3 ⊢
      refine ⟨_, rfl, a, _, rfl, SqE.but hx b3 ha, fun pl H4 s4 hl4 => ?_⟩
      refine ⟨_, rfl, x, _, dx, _, rfl, s4 _ _ hx3, Co.cl, Co.n_lengths, (by show 1 < 1000; decide), ?_⟩
      rw [put2]
      have b5 : But x H (upd H4 x (.ins A.c_Code dx [("words", V.ref pw), ("lengths", V.ref pl)])) := But.upd (b3.trans (But.of s4))
      have hx5 : upd H4 x (.ins A.c_Code dx [("words", V.ref pw), ("lengths", V.ref pl)]) x = some (.ins A.c_Code dx [("words", V.ref pw), ("lengths", V.ref pl)]) := upd_same
      generalize upd H4 x (.ins A.c_Code dx [("words", V.ref pw), ("lengths", V.ref pl)]) = H5 at b5 hx5 ⊢
      refine ⟨_, rfl, a, _, rfl, SqE.but hx b5 ha, ?_⟩
      refine ⟨_, rfl, x, _, dx, _, rfl, hx5, Co.cl, Co.n_size, (by show 2 < 1000; decide), ?_⟩
      rw [put3]
      have b6 : But x H (upd H5 x (.ins A.c_Code dx [("words", V.ref pw), ("lengths", V.ref pl), ("size", .int (((Ls L).length : Nat) : Int))])) := But.upd b5
      have hx6 : upd H5 x (.ins A.c_Code dx [("words", V.ref pw), ("lengths", V.ref pl), ("size", .int (((Ls L).length : Nat) : Int))]) x = some (.ins A.c_Code dx [("words", V.ref pw), ("lengths", V.ref pl), ("size", .int (((Ls L).length : Nat) : Int))]) := upd_same
      generalize upd H5 x (.ins A.c_Code dx [("words", V.ref pw), ("lengths", V.ref pl), ("size", .int (((Ls L).length : Nat) : Int))]) = H6 at b6 hx6 ⊢
      refine ⟨_, rfl, a, _, rfl, SqE.but hx b6 ha, by rw [List.length_map]; have := G.lo; omega, fun m hm1 hm2 => ?_⟩
      refine ⟨_, rfl, x, _, dx, _, rfl, hx6, Co.cl, Co.n_longest, (by show 3 < 1000; decide), ?_⟩
      rw [put4]
      exact fin _ _ (But.upd b6) upd_same
end
end Z

set_option Elab.async false
set_option linter.all false
set_option maxRecDepth 100000
set_option maxHeartbeats 8000000
namespace Z
open PySem L2 XV KR
/-! counts and spoilt lists -/
theorem Pen.newl {H : Hp} {d l D : Addr} {k : Nat} {o : HO} (h : Pen H d l k) (n : H D = none) : Pen (L2.upd H D o) d l k := by
  obtain ⟨x, e⟩ := h.some
  obtain ⟨y, f⟩ := h.cells
  exact h.upd (ne_of_none e n) (ne_of_none f n)
theorem But.newl {d D : Addr} {H G : Hp} {o : HO} (h : But d H G) (n : H D = none) : But d H (L2.upd G D o) := fun x u ne e => by
  rw [upd_ne (ne_of_none e n)]
  exact h x u ne e
theorem ixN_nat {n i : Nat} (h : i < n) : ixN n (i : Int) = some i := by
  unfold ixN
  rw [if_pos (by omega), if_pos (by omega)]; simp
def spCo : Sp := fun vs H Q _ => ∃ (d l : Addr) (k n : Nat), vs = [.ref d, .int (n : Int)] ∧ Pen H d l k ∧ n ≤ 30 ∧ k ≤ 900000 ∧
  ∀ (p : Addr) (cs : List Int) (G : Hp) (k' : Nat), cs.length = n → (∀ x ∈ cs, 0 ≤ x) → k' ≤ k + 1 + n → Pen G d l k' → G p = some (.lst (cs.map V.int)) → But d H G → Q (.ref p) G
def spSp : Sp := fun vs H Q _ => ∃ (d l p q : Addr) (k : Nat) (xs os : List V), vs = [.ref d, .ref p, .ref q] ∧ Pen H d l k ∧ H p = some (.lst xs) ∧ 0 < xs.length ∧ xs.length ≤ 100 ∧ H q = some (.lst os) ∧ 0 < os.length ∧ os.length < 1000 ∧ k ≤ 900000 ∧
  ∀ (r : Addr) (ys : List V) (G : Hp) (k' : Nat), G r = some (.lst ys) → ys.length ≤ xs.length + 1 → (∀ y ∈ ys, y ∈ xs ∨ y ∈ os) → k' ≤ k + 3 → Pen G d l k' → But d H G → Q (.ref r) G
theorem cut_to {xs : List V} {i : Nat} (h : i ≤ xs.length) : cutV xs none (some (i : Int)) = xs.take i := by
  unfold cutV
  rw [HT.sIx_none, HT.sIx_nat, Nat.min_eq_left h, List.drop_zero, Nat.sub_zero]
theorem cut_fromN {xs : List V} {i : Nat} (h : i ≤ xs.length) : cutV xs (some (i : Int)) none = xs.drop i := by
  unfold cutV
  rw [HT.sIx_none, HT.sIx_nat, Nat.min_eq_left h, List.take_of_length_le (by rw [List.length_drop]; omega)]
section
variable {P : Program} {w : World} {K : PySem.W.Frag} {mg : Str → Option Value} {base : Heap} {A : Ad}
theorem sc_countsof : FnScope ["_law_pen", "_law_many", "_law_way", "_law_found", "_law_k", "_law_small", "_law_power"] ["_law_pen", "_law_many"] (defScope s_countsof) := ⟨rfl, rfl, rfl, by decide +kernel, rfl, by decide +kernel, by decide +kernel⟩
theorem ok_countsof (T : Txt K mg A) : FnOk P w K mg base CX0 3 A.a_countsof A.d_countsof ["_law_pen", "_law_many"] spCo := by
  have G_draw := ok_draw (P := P) (w := w) (base := base) T
  refine T.F_countsof.ok sc_countsof (fun vs H Q E h => ?_) (fun cdv Ar outer s H vs Q E hr h => ?_)
  · obtain ⟨d, l, k, n, rfl, _⟩ := h; rfl
  · obtain ⟨d, l, k, n, rfl, pen, hn0, hk, kq⟩ := h
    refine ⟨_, (pss_cons (ps_par (i := 2) (j := 3) (by rfl) sc_countsof.nd rfl rfl (by decide) rfl rfl (pa_cons (pe_call G_draw (hr.mono (by decide)) (by rfl) T.g_draw T.F_draw.kp T.b_draw .nil pass0 (pa_cons (pv 0) (pa_cons pe_int pa_nil))) (pa_cons (pe_lst pa_nil) pa_nil)) (by rfl))
      (pss_cons (ps_for PassesOwn.never rfl (pi_range1 (by rfl) T.z_range (pa_cons (pv 1) pa_nil)) (pg_name (i := 4) sc_countsof.nd rfl (Or.inl rfl))
         (pss_cons (ps_set (i := 5) sc_countsof.nd rfl (Or.inl rfl) (pe_call G_draw (hr.mono (by decide)) (by rfl) T.g_draw T.F_draw.kp T.b_draw .nil pass0 (pa_cons (pv 0) (pa_cons pe_int pa_nil))))
         (pss_cons (ps_set (i := 6) sc_countsof.nd rfl (Or.inl rfl) (pe_ix ix_list (pe_lst (pa_cons pe_int (pa_cons pe_int (pa_cons pe_int (pa_cons pe_int (pa_cons pe_int (pa_cons pe_int (pa_cons pe_int (pa_cons pe_int (pa_cons pe_int (pa_cons pe_int pa_nil))))))))))) (pv 5) (fun _ _ => rfl)))
         (pss_one (ps_expr (pe_bm PySem.F.plainAttrs_list PySem.F.slot_list_append PySem.F.type_list_append mt_append (pv 3) (pa_cons (pe_ix ix_list (pe_lst (pa_cons (pv 5) (pa_cons (pe_op op_add pe_int (pe_op op_mod (pv 5) pe_int)) (pa_cons (pv 6) (pa_cons (pe_op op_add (pe_op op_mul (pv 5) (pe_op op_pow pe_int pe_int)) pe_int) (pa_cons (pe_op op_mul (pv 5) (pv 5)) pa_nil)))))) (pv 2) (fun _ _ => rfl)) pa_nil)))))))
      (pss_one (ps_ret (pv 3))))), ?_⟩
    refine ⟨_, rfl, d, l, 5, k, rfl, pen, by decide, by decide, by omega, fun v1 G1 k1 v1a v1b hk1 pen1 bt1 => ⟨(by show 0 ≤ sizeLine; decide), fun p np => ⟨_, _, rfl, ?_⟩⟩⟩
    have nd : d ≠ p := let ⟨x, e⟩ := pen1.some; ne_of_none e np
    have nl : l ≠ p := let ⟨x, e⟩ := pen1.cells; ne_of_none e np
    have npH : H p = none := by
      cases e : H p with
      | none => rfl
      | some o => have := bt1 _ _ nd.symm e; rw [np] at this; cases this
    have hten : ∀ m : Nat, m < 10 → ∃ z : Int, 0 ≤ z ∧ ([V.int 1, V.int 1, V.int 2, V.int 4, V.int 8, V.int 16, V.int 32, V.int 64, V.int 128, V.int 256] : List V)[m]? = some (.int z) := fun m hm => match m, hm with
      | 0, _ => ⟨_, by decide, rfl⟩ | 1, _ => ⟨_, by decide, rfl⟩ | 2, _ => ⟨_, by decide, rfl⟩ | 3, _ => ⟨_, by decide, rfl⟩ | 4, _ => ⟨_, by decide, rfl⟩
      | 5, _ => ⟨_, by decide, rfl⟩ | 6, _ => ⟨_, by decide, rfl⟩ | 7, _ => ⟨_, by decide, rfl⟩ | 8, _ => ⟨_, by decide, rfl⟩ | 9, _ => ⟨_, by decide, rfl⟩
      | m + 10, h => absurd h (by omega)
    refine ⟨_, rfl, _, rfl, by omega, by omega, ?_⟩
    refine for_range (lo := 0) (n := n) (fun i σ G => ∃ (acc : List Int) (k' : Nat), (∃ z4 z5 z6, σ = [some (.ref d), some (.int (n : Int)), some (.int v1), some (.ref p), z4, z5, z6]) ∧ acc.length = i ∧ (∀ x ∈ acc, 0 ≤ x) ∧ k' ≤ k1 + i ∧ Pen G d l k' ∧ But d H G ∧ G p = some (.lst (acc.map V.int))) ⟨[], k1, ⟨_, _, _, rfl⟩, rfl, by simp, Nat.le_refl _, pen1.upd nd nl, fun x u ne e => by rw [upd_ne (ne_of_none e npH)]; exact bt1 _ _ ne e, upd_same⟩ ?_ ?_
    · rintro i σ G hi ⟨acc, k', ⟨z4, z5, z6, rfl⟩, ha, hc, hk', pen', bt, gp⟩
      refine ⟨_, rfl, d, l, 10, k', rfl, pen', by decide, by decide, by omega, fun v2 G2 k2 v2a v2b hk2 pen2 bt2 => ?_⟩
      have gp2 := bt2 _ _ nd.symm gp
      have b2 := bt.trans bt2
      obtain ⟨m, rfl⟩ : ∃ m : Nat, v2 = (m : Int) := ⟨v2.toNat, (Int.toNat_of_nonneg v2a).symm⟩
      obtain ⟨pw, pw0, hpw⟩ := hten m (by omega)
      refine ⟨(by show 10 ≤ sizeLine; decide), fun L nL => ⟨_, rfl, L, _, _, _, rfl, rfl, SqL.of upd_same, at_of rfl hpw, ?_⟩⟩
      have sL : Same G2 (upd G2 L (.lst [V.int 1, V.int 1, V.int 2, V.int 4, V.int 8, V.int 16, V.int 32, V.int 64, V.int 128, V.int 256])) := same_new nL
      generalize upd G2 L (.lst [V.int 1, V.int 1, V.int 2, V.int 4, V.int 8, V.int 16, V.int 32, V.int 64, V.int 128, V.int 256]) = G3 at *
      refine ⟨_, rfl, .inl ⟨rfl, _, SqL.of (sL _ _ gp2)⟩, _, rfl, _, rfl, _, _, rfl, rfl, (by decide : (0 : Int) < 2), _, _, rfl, rfl, _, rfl, _, rfl, _, _, rfl, rfl, ⟨by decide, by decide, by decide⟩, _, _, rfl, rfl, mul_l (by omega) (by omega), _, _, rfl, rfl, _, rfl, _, rfl, _, _, rfl, rfl, mul_l (by omega) (by omega), (by show 5 ≤ sizeLine; decide), fun M nM => ?_⟩
      obtain ⟨j, hj⟩ : ∃ j : Nat, v1 = (j : Int) := ⟨v1.toNat, (Int.toNat_of_nonneg v1a).symm⟩
      have hfive : ∃ z : Int, 0 ≤ z ∧ ([V.int (m : Int), V.int (1 + (m : Int) % 2), V.int pw, V.int ((m : Int) * 10 ^ Int.toNat 28 + 5), V.int ((m : Int) * (m : Int))] : List V)[j]? = some (.int z) := by
        have j5 : j < 5 := by omega
        match j, j5 with
        | 0, _ => exact ⟨_, by omega, rfl⟩
        | 1, _ => exact ⟨_, by omega, rfl⟩
        | 2, _ => exact ⟨_, pw0, rfl⟩
        | 3, _ => exact ⟨_, Int.add_nonneg (Int.mul_nonneg (by omega) (by decide +kernel)) (by decide), rfl⟩
        | 4, _ => exact ⟨_, Int.mul_nonneg (by omega) (by omega), rfl⟩
        | j + 5, h => exact absurd h (by omega)
      obtain ⟨z, z0, hz⟩ := hfive
      have sM := same_new (o := .lst [V.int (m : Int), V.int (1 + (m : Int) % 2), V.int pw, V.int ((m : Int) * 10 ^ Int.toNat 28 + 5), V.int ((m : Int) * (m : Int))]) nM
      have s23 := sL.trans sM
      refine ⟨_, rfl, M, _, _, _, rfl, rfl, SqL.of upd_same, at_of hj hz, p, _, _, rfl, rfl, s23 _ _ gp2, by rw [List.length_map, ha, sizeLine_eq]; omega, acc ++ [z], k2, ⟨_, _, _, rfl⟩, by rw [List.length_append, ha]; rfl, fun x hx => ?_, by omega, (pen2.same s23).upd nd nl, fun x u ne e => ?_, by rw [upd_same, List.map_append]; rfl⟩
      · rcases List.mem_append.mp hx with h | h
        · exact hc x h
        · simp at h; subst h; exact z0
      · rw [upd_ne (ne_of_none e npH)]
        exact s23 _ _ (b2 _ _ ne e)
    · rintro σ G ⟨acc, k', ⟨z4, z5, z6, rfl⟩, ha, hc, hk', pen', bt, gp⟩
      exact ⟨_, rfl, kq p acc G k' ha hc (by omega) pen' gp bt⟩
end
end Z

set_option Elab.async false
set_option linter.all false
set_option maxRecDepth 100000
set_option maxHeartbeats 8000000
namespace Z
open PySem L2 XV KR
/-! counts are checked against a code -/
/-- counts for a code of n signs -/
def spCheckOf (K : PySem.W.Frag) (A : Ad) : Sp := fun vs H Q E => ∃ (x dx a pw pl : Addr) (n m : Int) (xs : List V), vs = [.ref x, .ref a] ∧
  H x = some (.ins A.c_Code dx [("words", .ref pw), ("lengths", .ref pl), ("size", .int n), ("longest", .int m)]) ∧ SqE K H a xs ∧ (∀ x ∈ xs, Odd K H x) ∧
  (2 ≤ xs.length ∧ xs.length ≤ 26 → (∀ x ∈ xs, isC x = true) → (xs.length : Int) = n → ∀ G, Same H G → Q .non G) ∧
  (2 ≤ xs.length ∧ xs.length ≤ 26 → (∀ x ∈ xs, isC x = true) → (xs.length : Int) ≠ n → ∀ d G, Same H G → G d = some (.xd [("wanted", .int n), ("many", .int (xs.length : Int))]) → E (.ref A.c_OtherSize) (some d) G) ∧
  (¬ (2 ≤ xs.length ∧ xs.length ≤ 26) → ∀ d G, Same H G → G d = some (.xd [("most", .int 26), ("many", .int ((xs.length : Nat) : Int)), ("what", .str "signs")]) → E (.ref A.c_TooMany) (some d) G) ∧
  (2 ≤ xs.length ∧ xs.length ≤ 26 → ∀ i : Nat, BadAt xs i → ∀ d G, Same H G → G d = some (.xd [("index", .int (i : Int))]) → E (.ref A.c_BadCount) (some d) G)
section
variable {P : Program} {w : World} {K : PySem.W.Frag} {mg : Str → Option Value} {base : Heap} {A : Ad}
theorem sc_checkcountsof : FnScope ["code", "counts"] ["code", "counts"] (defScope s_checkcountsof) := ⟨rfl, rfl, rfl, by decide +kernel, rfl, by decide +kernel, by decide +kernel⟩
theorem ok_checkcountsof (T : Txt K mg A) : FnOk P w K mg base (L2.CX P w) 6 A.a_checkcountsof A.d_checkcountsof ["code", "counts"] (spCheckOf K A) := by
  have G_OtherSize := ok_OtherSize (P := P) (w := w) (base := base) T
  have G_checkcounts := ok_checkcounts (P := P) (w := w) (base := base) T
  refine T.F_checkcountsof.okX sc_checkcountsof (fun vs H Q E h => ?_) (fun cdv Ar outer s H vs Q E hr h => ?_)
  · obtain ⟨x, dx, a, pw, pl, n, m, xs, rfl, _⟩ := h; rfl
  · obtain ⟨x, dx, a, pw, pl, n, m, xs, rfl, hx, hs, ho, kq, k0, k1, k2⟩ := h
    have Co := T.Co
    refine ⟨_, (pss_cons (ps_expr (pe_call G_checkcounts (hr.mono (by decide)) (by rfl) T.g_checkcounts T.F_checkcounts.kp T.b_checkcounts .nil (passes_call (takes_of rfl rfl rfl rfl) (fun _ _ _ _ h => h)) (pa_cons (pv 1) pa_nil)))
      (pss_one (ps_if (pt_cmpR op_ne (pe_callB call_len_seq (by rfl) T.z_len PySem.boot_len (pa_cons (pv 1) pa_nil)) (pe_fld (pv 0) rfl) (nomark _)) (pss_one (ps_raise rfl (takes_of rfl rfl rfl rfl) (pmk_oex T.E_OtherSize.E.T T.E_OtherSize.E.iC T.E_OtherSize.E.tI G_OtherSize (hr.mono (by decide)) T.E_OtherSize.bb .nil pass0 (by rfl) T.E_OtherSize.g (pa_cons (pe_callB call_len_seq (by rfl) T.z_len PySem.boot_len (pa_cons (pv 1) pa_nil)) (pa_cons (pe_fld (pv 0) rfl) pa_nil)))))
        pss_nil))), ?_⟩
    refine ⟨_, rfl, a, xs, rfl, hs, ho, fun h26 hc G sm => ?_, k1, k2⟩
    have rd : ((xs.length : Nat) : Int) ≠ n → _ := fun ne => err_read (K := K) (Q := E) (C := A.c_OtherSize) (fs := ["many", "wanted"]) (us := [.int ((xs.length : Nat) : Int), .int n]) (H := G) rfl (by show 2 ≤ 1000; decide) (fun u hu => by simp only [List.mem_cons, List.not_mem_nil, or_false] at hu; rcases hu with rfl | rfl <;> exact fl_int _)
      (fun u hu => by simp only [List.mem_cons, List.not_mem_nil, or_false] at hu; rcases hu with rfl | rfl <;> exact .int _) (fun d G2 s e => k0 h26 hc ne d G2 (sm.trans s) e)
    refine ⟨_, rfl, a, xs, rfl, hs.same sm, _, rfl, x, _, dx, _, _, rfl, sm _ _ hx, Co.cl, Co.n_size, rfl, rfl, _, rfl, ?_⟩
    by_cases c : ((xs.length : Nat) : Int) = n
    · rw [show decide (V.int ((xs.length : Nat) : Int) = V.int n) = true from decide_eq_true (by rw [c])]
      exact iteF (kq h26 hc c G sm)
    · rw [show decide (V.int ((xs.length : Nat) : Int) = V.int n) = false from decide_eq_false (fun z => c (by injection z))]
      exact iteT ⟨_, rfl, a, xs, rfl, hs.same sm, _, rfl, x, _, dx, _, _, rfl, sm _ _ hx, Co.cl, Co.n_size, rfl, rd c⟩
end
end Z

set_option Elab.async false
set_option linter.all false
set_option maxRecDepth 100000
set_option maxHeartbeats 8000000
namespace Z
open PySem L2 XV KR PL LamX
theorem reps_ints {F : Fz} : ∀ is : List Int, Reps F (is.map PV.int) (is.map V.int)
  | [] => trivial
  | i :: is => ⟨(rfl : V.int i = V.int i), reps_ints is⟩
theorem ints_reps {F : Fz} : ∀ (is : List Int) (vs : List V), Reps F (is.map PV.int) vs → vs = is.map V.int
  | [], [], _ => rfl
  | i :: is, v :: vs, r => by
    rw [show v = V.int i from r.1, ints_reps is vs r.2]
    rfl
  | [], _ :: _, r => r.elim
  | _ :: _, [], r => r.elim
/-! the pen in pure defs: a dict that one slot knows -/
def penKs : List Key := [.inr "cells", .inr "next", .inr "left"]
def penS (ns : List Int) (k : Nat) (m : Int) : SV := .oK penKs [.lst (ns.map PV.int), .int (k : Int), .int m]
theorem map_int_inj {a b : List Int} (h : a.map V.int = b.map V.int) : a = b := (List.map_inj_right fun x y e => by injection e).mp h
section
variable {S : Sit}
/-- what an own slot with a pen tells -/
theorem Rel.pen {O : Addr → Prop} {env : PEnv} {σ : L2.St} {H : Hp} (R : PL.Rel S O env σ H) {i : Nat} {ns : List Int} {k : Nat} {m : Int} (e : env[i]? = some (some (penS ns k m))) :
    ∃ d l, σ[i]? = some (some (.ref d)) ∧ H d = some (.dK (penK l (k : Int) m)) ∧ fz O H l (.lst (ns.map V.int)) ∧ l ≠ d := by
  obtain ⟨d, hs, vs, hd, hlen, rs⟩ := R.ownAt e rfl
  match vs, rs with
  | [v1, v2, v3], ⟨⟨l, us, e1, hl, rus⟩, r2, r3, _⟩ =>
    subst e1
    cases ints_reps ns us rus
    rw [show v2 = V.int (k : Int) from r2, show v3 = V.int m from r3] at hd
    exact ⟨d, l, hs, hd, hl, fun z => by subst z; rw [hl.2.lst] at hd; cases hd⟩
/-- the pen is drawn, nothing else is touched -/
theorem Rel.drawn {O : Addr → Prop} {env : PEnv} {σ : L2.St} {H H' : Hp} (R : PL.Rel S O env σ H) {i : Nat} {ns : List Int} {k k' : Nat} {m : Int} {d l : Addr} (e : env[i]? = some (some (penS ns k m))) (hs : σ[i]? = some (some (.ref d))) (hl : fz O H l (.lst (ns.map V.int))) (ld : l ≠ d) (pen : Pen H' d l k') (bt : But d H H') :
    ∃ m', 0 ≤ m' ∧ PL.Rel S O (env.set i (some (penS ns k' m'))) σ H' ∧ Lt S σ O env H O (env.set i (some (penS ns k' m'))) H' := by
  obtain ⟨ns', m', hd', hl', hm', _⟩ := pen
  rw [bt l _ ld hl.2.lst] at hl'
  injection hl' with hl'
  injection hl' with hl'
  cases map_int_inj hl'
  obtain ⟨R2, L2⟩ := R.mut e rfl hs (o := .dK (penK l (k' : Int) m')) trivial (sw := penS ns k' m') rfl fun H2 le e => ⟨[.ref l, .int (k' : Int), .int m'], e, rfl, ⟨l, _, rfl, le _ _ hl, reps_ints ns⟩, rfl, rfl, trivial⟩
  have sm : Same (upd H d (.dK (penK l (k' : Int) m'))) H' := fun x o e => by
    by_cases n : x = d
    · subst n; rw [upd_same] at e; cases e; exact hd'
    · rw [upd_ne n] at e; exact bt x o n e
  exact ⟨m', hm', R2.same sm, L2.trans (.same sm)⟩
/-- _law_draw(pen, b), the pen in the slot i -/
def fDraw (i : Nat) (f : FE) : FE := fun env Q => (∃ ns k m, env[i]? = some (some (penS ns k m))) ∧ f env fun x env1 => ∃ ns k m b, env1[i]? = some (some (penS ns k m)) ∧ x = .int b ∧ ns.length ≤ 63 ∧ 0 ≤ m ∧ 0 < b ∧ b < 1000000 ∧ k ≤ 1000000 ∧
  ∀ v m' k', 0 ≤ v → v < b → k' ≤ k + 1 → 0 ≤ m' → Q (.int v) (env1.set i (some (penS ns k' m')))
instance {E : XK} {i : Nat} {te : TE} {f : FE} [h : PureE S te f] : PureE S (tCall spDraw [] E (tCons (tVar i) (tCons te tNil))) (fDraw i f) := ⟨fun {O env σ H Q Qp} R q k => by
  obtain ⟨⟨ns0, k0, m0, e0⟩, q⟩ := q
  obtain ⟨d0, l0, hs0, _⟩ := Rel.pen R e0
  refine ⟨_, hs0, h.snd R q fun w x env1 H1 O1 R1 L1 r1 q1 => ?_⟩
  obtain ⟨ns, kk, m, b, e1, rfl, hl, hm, hb0, hb1, hk, q1⟩ := q1
  obtain ⟨d, l, hs, hd, hll, ld⟩ := Rel.pen R1 e1
  rw [hs0] at hs
  injection hs with hs; injection hs with hs; injection hs with hs; subst hs
  rw [show w = V.int b from r1]
  refine ⟨d0, l, b, kk, rfl, ⟨ns, m, hd, hll.2.lst, hm, hl⟩, hb0, hb1, hk, fun v H' k' h1 h2 h3 pen bt => ?_⟩
  obtain ⟨m', hm', R2, L2⟩ := Rel.drawn R1 e1 hs0 hll ld pen bt
  exact k _ (.int v) _ H' O1 R2 (L1.trans L2) (show V.int v = V.int v from rfl) (q1 v m' k' h1 h2 h3 hm')⟩
/-- the pen is new, and so are its cells -/
def spPenN (K : PySem.W.Frag) : Sp := fun vs H Q _ => ∃ (a : Addr) (ns : List Int), vs = [.ref a] ∧ SqL K H a (ns.map V.int) ∧ ns.length ≤ 63 ∧ ∀ d l H', Pen H' d l 0 → Same H H' → H d = none → H l = none → Q (.ref d) H'
/-- _law_pen_of(script): a pen for one slot -/
def fPenO (f : FE) : FO := fun env Q => f env fun x env1 => ∃ ns : List Int, x = .lst (ns.map PV.int) ∧ ns.length ≤ 63 ∧ ∀ ns' m, ns'.length ≤ 63 → 0 ≤ m → Q (penS ns' 0 m) env1
instance {K : PySem.W.Frag} {E : XK} {te : TE} {f : FE} [h : PureE S te f] : PureO S (tCall (spPenN K) [] E (tCons te tNil)) (fPenO f) := ⟨fun {O env σ H Q Qp} R q k => h.snd R q fun w x env1 H1 O1 R1 L1 r1 q1 => by
  obtain ⟨ns, rfl, hn, q1⟩ := q1
  obtain ⟨a, us, rfl, ha, rs⟩ := r1
  cases ints_reps ns us rs
  refine ⟨a, ns, rfl, fz_list ha, hn, fun d l H' pen sm nd nl => ?_⟩
  obtain ⟨ns', m, hd, hl, hm, hn'⟩ := pen
  obtain ⟨R2, L2⟩ := R1.hold nd (.dK (penK l 0 m)) trivial
  have sm2 : Same (upd H1 d (.dK (penK l 0 m))) H' := fun x o e => by
    by_cases n : x = d
    · subst n; rw [upd_same] at e; cases e; exact hd
    · rw [upd_ne n] at e; exact sm x o e
  have R3 := R2.same sm2
  have nO : ¬ (O1 l ∨ l = d) := fun z => z.elim (fun z => by obtain ⟨o, e, _⟩ := R1.oH l z; rw [nl] at e; cases e) fun z => by subst z; rw [hl] at hd; cases hd
  exact k _ (penS ns' 0 m) env1 H' _ R3 (L1.trans (L2.trans (.same sm2))) (.mk (.inr rfl) (R1.new0 nd) ⟨[.ref l, .int 0, .int m], hd, rfl, ⟨l, _, rfl, ⟨nO, .of hl⟩, reps_ints ns'⟩, rfl, rfl, trivial⟩)
    (fun _ => ⟨d, rfl, L1.at nd, fun i sw e w => R1.ownThere e w nd⟩) (q1 ns' m hn' hm)⟩
end
/-! the pen's makers and drawers for pure defs -/
section
variable {P : Program} {w : World} {K : PySem.W.Frag} {mg : Str → Option Value} {base : Heap} {A : Ad}
theorem ok_penN (T : Txt K mg A) : FnOk P w K mg base CX0 1 A.a_penof A.d_penof ["_law_script"] (spPenN K) := by
  refine T.F_penof.ok sc_penof (fun vs H Q E h => ?_) (fun cdv A outer s H vs Q E hr h => ?_)
  · obtain ⟨a, ns, rfl, _⟩ := h; rfl
  · obtain ⟨a, ns, rfl, hs, hl, k⟩ := h
    refine ⟨_, (pss_one (ps_ret (pe_disp (pps_cons pe_str (pe_callTy call_list_of (by rfl) T.z_list (by decide +kernel) (pa_cons (pe_slice sl_list (pv 0) po_none (po_some pe_int)) pa_nil)) (pps_cons pe_str pe_int (pps_cons pe_str pe_int pps_nil))) (by rfl) (by rfl) (fun z => by cases z) (by decide)))), ?_⟩
    intro p np
    have s1 : ∀ o, Same H (upd H p o) := fun o b u e => by rw [upd_ne (ne_of_none e np)]; exact e
    refine ⟨_, rfl, 63, rfl, a, _, rfl, (s1 _).seq hs, fun q nq => ⟨q, _, rfl, .inl (SqL.of upd_same), fun l nl => ?_⟩⟩
    have nqp : p ≠ q := ne_of_none upd_same nq
    have nlp : p ≠ l := by
      refine ne_of_none (H := upd (upd H p (.dK [])) q (.lst _)) (o := .dK []) ?_ nl
      rw [upd_ne nqp]; exact upd_same
    refine ⟨?_, penK l 0 0, rfl, (by show 3 ≤ 15; decide), ?_⟩
    · rw [upd_ne nlp, upd_ne nqp]; exact upd_same
    · rw [pen_merge]
      have nl0 : H l = none := by
        have nl' := nl
        by_cases c1 : l = q
        · subst c1; rw [upd_same] at nl'; cases nl'
        · rw [upd_ne c1, upd_ne nlp.symm] at nl'
          exact nl'
      refine k p l _ ⟨(ns.drop (HT.sIx (ns.map V.int).length 0 none)).take (HT.sIx (ns.map V.int).length (ns.map V.int).length (some 63) - HT.sIx (ns.map V.int).length 0 none), 0, upd_same, ?_, Int.le_refl 0, ?_⟩ ?_ np nl0
      · rw [upd_ne nlp.symm, upd_same]
        unfold cutV
        rw [List.map_take, List.map_drop]
      · rw [List.length_take, List.length_drop]; omega
      · intro b u e
        have nb := ne_of_none e np
        have e1 : upd H p (.dK []) b = some u := by rw [upd_ne nb]; exact e
        have nbq := ne_of_none e1 nq
        have e2 : (upd (upd H p (.dK [])) q (.lst (cutV (ns.map V.int) none (some 63)))) b = some u := by rw [upd_ne nbq]; exact e1
        rw [upd_ne nb, upd_ne (ne_of_none e2 nl)]
        exact e2
def spPickE (K : PySem.W.Frag) : Sp := fun vs H Q _ => ∃ (d l p : Addr) (xs : List V) (k : Nat), vs = [.ref d, .ref p] ∧ Pen H d l k ∧ (H p = some (.lst xs) ∨ H p = some (.tup xs)) ∧ 0 < xs.length ∧ xs.length < 1000000 ∧ k ≤ 1000000 ∧
  ∀ v H' k', v ∈ xs → k' ≤ k + 1 → Pen H' d l k' → But d H H' → Q v H'
theorem ok_pickE (T : Txt K mg A) : FnOk P w K mg base CX0 2 A.a_pick A.d_pick ["_law_pen", "_law_items"] (spPickE K) := by
  have G_draw := ok_draw (P := P) (w := w) (base := base) T
  refine T.F_pick.ok sc_pick (fun vs H Q E h => ?_) (fun cdv Ar outer s H vs Q E hr h => ?_)
  · obtain ⟨d, l, p, xs, k, rfl, _⟩ := h; rfl
  · obtain ⟨d, l, p, xs, k, rfl, pen, hp, h0, h1, hk, kq⟩ := h
    refine ⟨_, (pss_one (ps_ret (pe_ix ix_seq (pv 1) (pe_call G_draw (hr.mono (by decide)) (by rfl) T.g_draw T.F_draw.kp T.b_draw .nil pass0 (pa_cons (pv 0) (pa_cons (pe_callB call_len_seq (by rfl) T.z_len PySem.boot_len (pa_cons (pv 1) pa_nil)) pa_nil))) (fun _ _ => rfl)))), ?_⟩
    have sq : ∀ {G : Hp}, (G p = some (.lst xs) ∨ G p = some (.tup xs)) → SqL K G p xs ∨ SqT K G p xs := fun h => h.imp SqL.of SqT.of
    refine ⟨_, rfl, _, rfl, _, rfl, p, xs, rfl, sq hp, d, l, _, k, rfl, pen, by omega, by omega, hk, fun v G k' v0 v1 kk pen' bt => ?_⟩
    obtain ⟨x, e⟩ := pen.some
    have hv : v.toNat < xs.length := by omega
    have at' := at_of (Int.toNat_of_nonneg v0).symm (List.getElem?_eq_getElem hv)
    have qk := kq _ _ _ (List.getElem_mem hv) kk pen' bt
    rcases hp with hp | hp
    · exact .inl ⟨p, xs, v, xs[v.toNat], rfl, rfl, SqL.of (bt _ _ (ne_of hp e (fun z => nomatch z)) hp), at', qk⟩
    · exact .inr (.inl ⟨p, xs, v, xs[v.toNat], rfl, rfl, SqT.of (bt _ _ (ne_of hp e (fun z => nomatch z)) hp), at', qk⟩)
def spCoN : Sp := fun vs H Q _ => ∃ (d l : Addr) (k n : Nat), vs = [.ref d, .int (n : Int)] ∧ Pen H d l k ∧ n ≤ 30 ∧ k ≤ 900000 ∧
  ∀ (p : Addr) (cs : List Int) (G : Hp) (k' : Nat), cs.length = n → (∀ x ∈ cs, 0 ≤ x ∧ x < 10 ^ 30) → k' ≤ k + 1 + n → Pen G d l k' → G p = some (.lst (cs.map V.int)) → H p = none → But d H G → Q (.ref p) G
theorem ok_countsofN (T : Txt K mg A) : FnOk P w K mg base CX0 3 A.a_countsof A.d_countsof ["_law_pen", "_law_many"] spCoN := by
  have G_draw := ok_draw (P := P) (w := w) (base := base) T
  refine T.F_countsof.ok sc_countsof (fun vs H Q E h => ?_) (fun cdv Ar outer s H vs Q E hr h => ?_)
  · obtain ⟨d, l, k, n, rfl, _⟩ := h; rfl
  · obtain ⟨d, l, k, n, rfl, pen, hn0, hk, kq⟩ := h
    refine ⟨_, (pss_cons (ps_par (i := 2) (j := 3) (by rfl) sc_countsof.nd rfl rfl (by decide) rfl rfl (pa_cons (pe_call G_draw (hr.mono (by decide)) (by rfl) T.g_draw T.F_draw.kp T.b_draw .nil pass0 (pa_cons (pv 0) (pa_cons pe_int pa_nil))) (pa_cons (pe_lst pa_nil) pa_nil)) (by rfl))
      (pss_cons (ps_for PassesOwn.never rfl (pi_range1 (by rfl) T.z_range (pa_cons (pv 1) pa_nil)) (pg_name (i := 4) sc_countsof.nd rfl (Or.inl rfl))
         (pss_cons (ps_set (i := 5) sc_countsof.nd rfl (Or.inl rfl) (pe_call G_draw (hr.mono (by decide)) (by rfl) T.g_draw T.F_draw.kp T.b_draw .nil pass0 (pa_cons (pv 0) (pa_cons pe_int pa_nil))))
         (pss_cons (ps_set (i := 6) sc_countsof.nd rfl (Or.inl rfl) (pe_ix ix_list (pe_lst (pa_cons pe_int (pa_cons pe_int (pa_cons pe_int (pa_cons pe_int (pa_cons pe_int (pa_cons pe_int (pa_cons pe_int (pa_cons pe_int (pa_cons pe_int (pa_cons pe_int pa_nil))))))))))) (pv 5) (fun _ _ => rfl)))
         (pss_one (ps_expr (pe_bm PySem.F.plainAttrs_list PySem.F.slot_list_append PySem.F.type_list_append mt_append (pv 3) (pa_cons (pe_ix ix_list (pe_lst (pa_cons (pv 5) (pa_cons (pe_op op_add pe_int (pe_op op_mod (pv 5) pe_int)) (pa_cons (pv 6) (pa_cons (pe_op op_add (pe_op op_mul (pv 5) (pe_op op_pow pe_int pe_int)) pe_int) (pa_cons (pe_op op_mul (pv 5) (pv 5)) pa_nil)))))) (pv 2) (fun _ _ => rfl)) pa_nil)))))))
      (pss_one (ps_ret (pv 3))))), ?_⟩
    refine ⟨_, rfl, d, l, 5, k, rfl, pen, by decide, by decide, by omega, fun v1 G1 k1 v1a v1b hk1 pen1 bt1 => ⟨(by show 0 ≤ sizeLine; decide), fun p np => ⟨_, _, rfl, ?_⟩⟩⟩
    have nd : d ≠ p := let ⟨x, e⟩ := pen1.some; ne_of_none e np
    have nl : l ≠ p := let ⟨x, e⟩ := pen1.cells; ne_of_none e np
    have npH : H p = none := by
      cases e : H p with
      | none => rfl
      | some o => have := bt1 _ _ nd.symm e; rw [np] at this; cases this
    have hten : ∀ m : Nat, m < 10 → ∃ z : Int, (0 ≤ z ∧ z ≤ 256) ∧ ([V.int 1, V.int 1, V.int 2, V.int 4, V.int 8, V.int 16, V.int 32, V.int 64, V.int 128, V.int 256] : List V)[m]? = some (.int z) := fun m hm => match m, hm with
      | 0, _ => ⟨_, by decide, rfl⟩ | 1, _ => ⟨_, by decide, rfl⟩ | 2, _ => ⟨_, by decide, rfl⟩ | 3, _ => ⟨_, by decide, rfl⟩ | 4, _ => ⟨_, by decide, rfl⟩
      | 5, _ => ⟨_, by decide, rfl⟩ | 6, _ => ⟨_, by decide, rfl⟩ | 7, _ => ⟨_, by decide, rfl⟩ | 8, _ => ⟨_, by decide, rfl⟩ | 9, _ => ⟨_, by decide, rfl⟩
      | m + 10, h => absurd h (by omega)
    refine ⟨_, rfl, _, rfl, by omega, by omega, ?_⟩
    refine for_range (lo := 0) (n := n) (fun i σ G => ∃ (acc : List Int) (k' : Nat), (∃ z4 z5 z6, σ = [some (.ref d), some (.int (n : Int)), some (.int v1), some (.ref p), z4, z5, z6]) ∧ acc.length = i ∧ (∀ x ∈ acc, 0 ≤ x ∧ x < 10 ^ 30) ∧ k' ≤ k1 + i ∧ Pen G d l k' ∧ But d H G ∧ G p = some (.lst (acc.map V.int))) ⟨[], k1, ⟨_, _, _, rfl⟩, rfl, by simp, Nat.le_refl _, pen1.upd nd nl, fun x u ne e => by rw [upd_ne (ne_of_none e npH)]; exact bt1 _ _ ne e, upd_same⟩ ?_ ?_
    · rintro i σ G hi ⟨acc, k', ⟨z4, z5, z6, rfl⟩, ha, hc, hk', pen', bt, gp⟩
      refine ⟨_, rfl, d, l, 10, k', rfl, pen', by decide, by decide, by omega, fun v2 G2 k2 v2a v2b hk2 pen2 bt2 => ?_⟩
      have gp2 := bt2 _ _ nd.symm gp
      have b2 := bt.trans bt2
      obtain ⟨m, rfl⟩ : ∃ m : Nat, v2 = (m : Int) := ⟨v2.toNat, (Int.toNat_of_nonneg v2a).symm⟩
      obtain ⟨pw, pw0, hpw⟩ := hten m (by omega)
      refine ⟨(by show 10 ≤ sizeLine; decide), fun L nL => ⟨_, rfl, L, _, _, _, rfl, rfl, SqL.of upd_same, at_of rfl hpw, ?_⟩⟩
      have sL : Same G2 (upd G2 L (.lst [V.int 1, V.int 1, V.int 2, V.int 4, V.int 8, V.int 16, V.int 32, V.int 64, V.int 128, V.int 256])) := same_new nL
      generalize upd G2 L (.lst [V.int 1, V.int 1, V.int 2, V.int 4, V.int 8, V.int 16, V.int 32, V.int 64, V.int 128, V.int 256]) = G3 at *
      refine ⟨_, rfl, .inl ⟨rfl, _, SqL.of (sL _ _ gp2)⟩, _, rfl, _, rfl, _, _, rfl, rfl, (by decide : (0 : Int) < 2), _, _, rfl, rfl, _, rfl, _, rfl, _, _, rfl, rfl, ⟨by decide, by decide, by decide⟩, _, _, rfl, rfl, mul_l (by omega) (by omega), _, _, rfl, rfl, _, rfl, _, rfl, _, _, rfl, rfl, mul_l (by omega) (by omega), (by show 5 ≤ sizeLine; decide), fun M nM => ?_⟩
      obtain ⟨j, hj⟩ : ∃ j : Nat, v1 = (j : Int) := ⟨v1.toNat, (Int.toNat_of_nonneg v1a).symm⟩
      have hfive : ∃ z : Int, (0 ≤ z ∧ z < 10 ^ 30) ∧ ([V.int (m : Int), V.int (1 + (m : Int) % 2), V.int pw, V.int ((m : Int) * 10 ^ Int.toNat 28 + 5), V.int ((m : Int) * (m : Int))] : List V)[j]? = some (.int z) := by
        have j5 : j < 5 := by omega
        match j, j5 with
        | 0, _ => exact ⟨_, by omega, rfl⟩
        | 1, _ => exact ⟨_, by omega, rfl⟩
        | 2, _ => exact ⟨_, ⟨pw0.1, by omega⟩, rfl⟩
        | 3, _ => exact ⟨_, show 0 ≤ (m : Int) * 10 ^ 28 + 5 ∧ (m : Int) * 10 ^ 28 + 5 < 10 ^ 30 by omega, rfl⟩
        | 4, _ => exact ⟨_, ⟨Int.mul_nonneg (by omega) (by omega), Int.lt_of_le_of_lt (Int.mul_le_mul (show (m : Int) ≤ 9 by omega) (show (m : Int) ≤ 9 by omega) (by omega) (by omega)) (by decide)⟩, rfl⟩
        | j + 5, h => exact absurd h (by omega)
      obtain ⟨z, z0, hz⟩ := hfive
      have sM := same_new (o := .lst [V.int (m : Int), V.int (1 + (m : Int) % 2), V.int pw, V.int ((m : Int) * 10 ^ Int.toNat 28 + 5), V.int ((m : Int) * (m : Int))]) nM
      have s23 := sL.trans sM
      refine ⟨_, rfl, M, _, _, _, rfl, rfl, SqL.of upd_same, at_of hj hz, p, _, _, rfl, rfl, s23 _ _ gp2, by rw [List.length_map, ha, sizeLine_eq]; omega, acc ++ [z], k2, ⟨_, _, _, rfl⟩, by rw [List.length_append, ha]; rfl, fun x hx => ?_, by omega, (pen2.same s23).upd nd nl, fun x u ne e => ?_, by rw [upd_same, List.map_append]; rfl⟩
      · rcases List.mem_append.mp hx with h | h
        · exact hc x h
        · simp at h; subst h; exact z0
      · rw [upd_ne (ne_of_none e npH)]
        exact s23 _ _ (b2 _ _ ne e)
    · rintro σ G ⟨acc, k', ⟨z4, z5, z6, rfl⟩, ha, hc, hk', pen', bt, gp⟩
      exact ⟨_, rfl, kq p acc G k' ha hc (by omega) pen' gp npH bt⟩
end
section
variable {S : Sit}
theorem reps_mem {F : Fz} : ∀ {xs : List PV} {vs : List V} {v : V}, Reps F xs vs → v ∈ vs → ∃ x ∈ xs, Rep F x v
  | [], [], v, _, h => by cases h
  | x :: xs, u :: vs, v, r, h => by
    rcases List.mem_cons.mp h with rfl | h
    · exact ⟨x, List.mem_cons_self .., r.1⟩
    · obtain ⟨y, h1, h2⟩ := reps_mem r.2 h
      exact ⟨y, List.mem_cons_of_mem _ h1, h2⟩
  | [], _ :: _, _, r, _ => r.elim
  | _ :: _, [], _, r, _ => r.elim
/-- _law_pick(pen, xs) -/
def fPick (i : Nat) (f : FE) : FE := fun env Q => (∃ ns k m, env[i]? = some (some (penS ns k m))) ∧ f env fun x env1 => ∃ ns k m ys, env1[i]? = some (some (penS ns k m)) ∧ x.seq = some ys ∧ ns.length ≤ 63 ∧ 0 ≤ m ∧ 0 < ys.length ∧ ys.length < 1000000 ∧ k ≤ 1000000 ∧
  ∀ y m' k', y ∈ ys → k' ≤ k + 1 → 0 ≤ m' → Q y (env1.set i (some (penS ns k' m')))
instance {K : PySem.W.Frag} {E : XK} {i : Nat} {te : TE} {f : FE} [h : PureE S te f] : PureE S (tCall (spPickE K) [] E (tCons (tVar i) (tCons te tNil))) (fPick i f) := ⟨fun {O env σ H Q Qp} R q k => by
  obtain ⟨⟨ns0, k0, m0, e0⟩, q⟩ := q
  obtain ⟨d0, l0, hs0, _⟩ := Rel.pen R e0
  refine ⟨_, hs0, h.snd R q fun w x env1 H1 O1 R1 L1 r1 q1 => ?_⟩
  obtain ⟨ns, kk, m, ys, e1, ey, hl, hm, hb0, hb1, hk, q1⟩ := q1
  obtain ⟨d, l, hs, hd, hll, ld⟩ := Rel.pen R1 e1
  rw [hs0] at hs
  injection hs with hs; injection hs with hs; injection hs with hs; subst hs
  obtain ⟨p, vs, rfl, hp, rs⟩ : ∃ p vs, w = .ref p ∧ (H1 p = some (.lst vs) ∨ H1 p = some (.tup vs)) ∧ Reps (fz O1 H1) ys vs := by
    cases x with
    | lst zs => cases ey; obtain ⟨a, vs, rfl, b, c⟩ := r1; exact ⟨a, vs, rfl, .inl b.2.lst, c⟩
    | tup zs => cases ey; obtain ⟨a, vs, rfl, b, c⟩ := r1; exact ⟨a, vs, rfl, .inr b.2.tup, c⟩
    | _ => cases ey
  refine ⟨d0, l, p, vs, kk, rfl, ⟨ns, m, hd, hll.2.lst, hm, hl⟩, hp, by rw [← rs.length]; exact hb0, by rw [← rs.length]; exact hb1, hk, fun v H' k' hv h3 pen bt => ?_⟩
  obtain ⟨y, hy, ry⟩ := reps_mem rs hv
  obtain ⟨m', hm', R2, L2⟩ := Rel.drawn R1 e1 hs0 hll ld pen bt
  exact k _ y _ H' O1 R2 (L1.trans L2) (Rep.mono L2.fz _ _ ry) (q1 y m' k' hy h3 hm')⟩
/-- _law_counts_of(pen, many) -/
def fCounts (i : Nat) (f : FE) : FE := fun env Q => (∃ ns k m, env[i]? = some (some (penS ns k m))) ∧ f env fun x env1 => ∃ (ns : List Int) (k : Nat) (m : Int) (n : Nat), env1[i]? = some (some (penS ns k m)) ∧ x = .int (n : Int) ∧ ns.length ≤ 63 ∧ 0 ≤ m ∧ n ≤ 30 ∧ k ≤ 900000 ∧
  ∀ (cs : List Int) m' k', cs.length = n → (∀ c ∈ cs, 0 ≤ c ∧ c < 10 ^ 30) → k' ≤ k + 1 + n → 0 ≤ m' → Q (.lst (cs.map PV.int)) (env1.set i (some (penS ns k' m')))
instance {E : XK} {i : Nat} {te : TE} {f : FE} [h : PureE S te f] : PureE S (tCall spCoN [] E (tCons (tVar i) (tCons te tNil))) (fCounts i f) := ⟨fun {O env σ H Q Qp} R q k => by
  obtain ⟨⟨ns0, k0, m0, e0⟩, q⟩ := q
  obtain ⟨d0, l0, hs0, _⟩ := Rel.pen R e0
  refine ⟨_, hs0, h.snd R q fun w x env1 H1 O1 R1 L1 r1 q1 => ?_⟩
  obtain ⟨ns, kk, m, n, e1, rfl, hl, hm, hn, hk, q1⟩ := q1
  obtain ⟨d, l, hs, hd, hll, ld⟩ := Rel.pen R1 e1
  rw [hs0] at hs
  injection hs with hs; injection hs with hs; injection hs with hs; subst hs
  rw [show w = V.int (n : Int) from r1]
  refine ⟨d0, l, kk, n, rfl, ⟨ns, m, hd, hll.2.lst, hm, hl⟩, hn, hk, fun p cs H' k' hc h0 h3 pen gp np bt => ?_⟩
  obtain ⟨m', hm', R2, L2⟩ := Rel.drawn R1 e1 hs0 hll ld pen bt
  have nO : ¬ O1 p := fun z => by obtain ⟨o, e, _⟩ := R1.oH p z; rw [np] at e; cases e
  exact k _ (.lst (cs.map PV.int)) _ H' O1 R2 (L1.trans L2) ⟨p, _, rfl, ⟨nO, .of gp⟩, reps_ints cs⟩ (q1 cs m' k' hc h0 h3 hm')⟩
end
/-- the pen, made of the script -/
def fPenS (S : Sit) (K : PySem.W.Frag) (i : Nat) : FO := fun env Q => ∃ a ns, env[i]? = some (some (.fr (.raw (.ref a)))) ∧ S.K = K ∧ Scr S a ns ∧ ns.length ≤ 63 ∧ ∀ ns' m, ns'.length ≤ 63 → 0 ≤ m → Q (penS ns' 0 m) env
instance (priority := high) {S : Sit} {K : PySem.W.Frag} {E : XK} {i : Nat} : PureO S (tCall (spPenN K) [] E (tCons (tVar i) tNil)) (fPenS S K i) := ⟨fun {O env σ H Q Qp} R q k => by
  obtain ⟨a, ns, e, rfl, sc, hn, q⟩ := q
  obtain ⟨v, h1, h2⟩ := R.slot i _ e
  cases (show v = V.ref a from h2)
  refine ⟨_, h1, a, ns, rfl, sc H R.fr, hn, fun d l H' pen sm nd nl => ?_⟩
  obtain ⟨ns', m, hd, hl, hm, hn'⟩ := pen
  obtain ⟨R2, L2⟩ := R.hold nd (.dK (penK l 0 m)) trivial
  have sm2 : Same (upd H d (.dK (penK l 0 m))) H' := fun x o e => by
    by_cases n : x = d
    · subst n; rw [upd_same] at e; cases e; exact hd
    · rw [upd_ne n] at e; exact sm x o e
  have nO : ¬ (O l ∨ l = d) := fun z => z.elim (fun z => by obtain ⟨o, e, _⟩ := R.oH l z; rw [nl] at e; cases e) fun z => by subst z; rw [hl] at hd; cases hd
  exact k _ (penS ns' 0 m) env H' _ (R2.same sm2) (L2.trans (.same sm2)) (.mk (.inr rfl) (R.new0 nd) ⟨[.ref l, .int 0, .int m], hd, rfl, ⟨l, _, rfl, ⟨nO, .of hl⟩, reps_ints ns'⟩, rfl, rfl, trivial⟩)
    (fun _ => ⟨d, rfl, nd, fun i sw e w => R.ownThere e w nd⟩) (q ns' m hn' hm)⟩
end Z

set_option Elab.async false
set_option linter.all false
set_option maxRecDepth 100000
set_option maxHeartbeats 4000000
/-! max of a list or a tuple; sorted of any data, as a list -/
namespace PL
open PySem L2
def fMaxE : List PV → (PV → Prop) → Prop := fun xs Q => one (fun x => ∃ ns : List Int, x.seq = some (ns.map PV.int) ∧ 0 < ns.length ∧ ∀ m, m ∈ ns → (∀ y, y ∈ ns → y ≤ m) → Q (.int m)) xs
instance {S : Sit} {K : PySem.W.Frag} : CallP S (fun xs H Q => ∃ (a : Addr) (ns : List Int), xs = [V.ref a] ∧ SqE K H a (ns.map V.int) ∧ 0 < ns.length ∧ ∀ m, m ∈ ns → (∀ y, y ∈ ns → y ≤ m) → Q (V.int m) H) fMaxE := ⟨fun {O H vs xs Q Qp} _ r q k => by
  obtain ⟨x, v, rfl, rfl, r1, ns, e, h0, q⟩ := one_rep r q
  obtain ⟨a, ws, rfl, h, rs⟩ := seq_rep (K := K) r1 e
  cases rs.ints
  exact ⟨a, ns, rfl, h, h0, fun m h1 h2 => k _ (.int m) H (.refl _) (show V.int m = V.int m from rfl) (q m h1 h2)⟩⟩
end PL

set_option Elab.async false
set_option linter.all false
set_option maxRecDepth 100000
set_option maxHeartbeats 4000000
set_option synthInstance.maxHeartbeats 4000000
set_option synthInstance.maxSize 100000
namespace Z
open PySem L2 XV KR PL LamX
section

def pn (l : Nat) : PV := .int (l : Int)
def T1 (r : List Nat) : PV := .tup (r.map pn)
structure GoodC (L : List Nat) : Prop where
  lo : 2 ≤ L.length
  hi : L.length ≤ 26
  all : ∀ l ∈ L, 1 ≤ l ∧ l ≤ 25
  sum : (L.map wid).sum = 2 ^ 25
def mx (L : List Nat) : Nat := L.foldr max 0
theorem mx_ge : ∀ {L : List Nat} {l : Nat}, l ∈ L → l ≤ mx L
  | a :: L, l, h => by
    show l ≤ max a (mx L)
    rcases List.mem_cons.mp h with rfl | h
    · exact Nat.le_max_left _ _
    · exact Nat.le_trans (mx_ge h) (Nat.le_max_right _ _)
theorem mx_in : ∀ {L : List Nat}, L ≠ [] → mx L ∈ L
  | [a], _ => by
    show max a 0 ∈ [a]
    rw [Nat.max_eq_left (Nat.zero_le _)]
    exact List.mem_singleton.mpr rfl
  | a :: b :: L, _ => by
    have ih := mx_in (L := b :: L) (by simp)
    show max a (mx (b :: L)) ∈ a :: b :: L
    rcases Nat.le_total a (mx (b :: L)) with h | h
    · rw [Nat.max_eq_right h]; exact List.mem_cons_of_mem _ ih
    · rw [Nat.max_eq_left h]; exact List.mem_cons_self ..
theorem Ls_inj {L M : List Nat} (h : Ls L = Ls M) : L = M := by
  rw [← Ls_eq, ← Ls_eq] at h
  exact (List.map_inj_right fun x y e => by injection e with e; omega).mp h
theorem Ls_mem {L : List Nat} {u : V} (h : u ∈ Ls L) : ∃ l ∈ L, u = V.int (l : Int) := by
  rw [← Ls_eq] at h
  obtain ⟨l, hl, rfl⟩ := List.mem_map.mp h
  exact ⟨l, hl, rfl⟩
theorem mx_of {L : List Nat} (h : L ≠ []) {m : Int} (h1 : m ∈ L.map fun (l : Nat) => (l : Int)) (h2 : ∀ y, y ∈ (L.map fun (l : Nat) => (l : Int)) → y ≤ m) : m = (mx L : Int) := by
  obtain ⟨l, hl, rfl⟩ := List.mem_map.mp h1
  have := mx_ge hl
  have := h2 _ (List.mem_map.mpr ⟨_, mx_in h, rfl⟩)
  omega
/-- a code, its words the canonical ones -/
def codeP (C : Addr) (L : List Nat) : PV := .ins C ["words", "lengths", "size", "longest"] [.tup ((cw L).map fun x => .str (txt x)), T1 L, .int (L.length : Int), .int (mx L : Int)]
theorem reps_txs {F : Fz} : ∀ ws : List (List Nat), Reps F (ws.map fun x => PV.str (txt x)) (txs ws)
  | [] => trivial
  | x :: ws => ⟨(rfl : V.str _ = V.str _), reps_txs ws⟩
theorem reps_Ls {F : Fz} (L : List Nat) : Reps F (L.map pn) (Ls L) := by
  rw [← Ls_eq]
  induction L with
  | nil => exact trivial
  | cons l L ih => exact ⟨(rfl : V.int _ = V.int _), ih⟩
theorem Ls_reps {F : Fz} : ∀ (L : List Nat) (vs : List V), Reps F (L.map pn) vs → vs = Ls L := fun L vs r => by
  rw [← Ls_eq]
  induction L generalizing vs with
  | nil => cases vs with
    | nil => rfl
    | cons v vs => exact r.elim
  | cons l L ih => cases vs with
    | nil => exact r.elim
    | cons v vs => rw [show v = V.int (l : Int) from r.1, ih vs r.2]; rfl
def lenP (x : PV) (L : List Nat) : Prop := x = .lst (L.map pn) ∨ x = .tup (L.map pn)
theorem txs_reps {F : Fz} : ∀ (ws : List (List Nat)) (vs : List V), Reps F (ws.map fun x => PV.str (txt x)) vs → vs = txs ws
  | [], [], _ => rfl
  | x :: ws, v :: vs, r => by rw [show v = V.str (txt x) from r.1, txs_reps ws vs r.2]; rfl
theorem lenP.rep {K : PySem.W.Frag} {O : Addr → Prop} {H : Hp} {x : PV} {L : List Nat} {v : V} (h : lenP x L) (r : Rep (fz O H) x v) : ∃ a, v = .ref a ∧ SqE K H a (Ls L) := by
  rcases h with rfl | rfl
  · obtain ⟨a, vs, rfl, f, r⟩ := r
    cases Ls_reps L vs r
    exact ⟨a, rfl, .inl (SqL.of f.2.lst)⟩
  · obtain ⟨a, vs, rfl, f, r⟩ := r
    cases Ls_reps L vs r
    exact ⟨a, rfl, .inr (SqT.of f.2.tup)⟩
theorem odd_Ls {K : PySem.W.Frag} {H : Hp} {L : List Nat} : ∀ u ∈ Ls L, Odd K H u := fun u hu => by
  obtain ⟨l, _, rfl⟩ := Ls_mem hu
  exact .int _
theorem GoodC.nb {L : List Nat} (gc : GoodC L) (i : Nat) : ¬ BadL (Ls L) i := fun h => by
  obtain ⟨⟨v, hv, hb⟩, _⟩ := h
  obtain ⟨l, hl, rfl⟩ := Ls_mem (List.mem_of_getElem? hv)
  obtain ⟨b1, b2⟩ := gc.all l hl
  have : isL (.int (l : Int)) = true := by
    simp only [isL, Bool.and_eq_true, decide_eq_true_eq]
    omega
  rw [this] at hb; cases hb
theorem GoodC.good {L : List Nat} (gc : GoodC L) : Good L := good_L ⟨by rw [Ls_len]; exact gc.lo, by rw [Ls_len]; exact gc.hi⟩ gc.all gc.sum
def pLensG : List PV → (PV → Prop) → (Addr → List (Str × PV) → Prop) → Prop := fun xs Q _ => ∃ x L, xs = [x] ∧ lenP x L ∧ GoodC L ∧ Q .non
def pCanonG : List PV → (PV → Prop) → (Addr → List (Str × PV) → Prop) → Prop := fun xs Q _ => ∃ x L, xs = [x] ∧ lenP x L ∧ GoodC L ∧ Q (.lst ((cw L).map fun x => .str (txt x)))
variable {P : Program} {w : World} {K : PySem.W.Frag} {mg : Str → Option Value} {base : Heap} {A : Ad}
theorem ok_lensG (T : Txt K mg A) : FnOk P w K mg base (L2.CX P w) 5 A.a_lens A.d_lens ["lengths"] (spP pLensG) := (ok_lens (P := P) (w := w) (base := base) T).imp fun vs H Q E h => by
  obtain ⟨O, xs, Qp, Ep, oh, r, ⟨x, L, rfl, hx, gc, q⟩, kq, ke⟩ := h
  match vs, r with
  | [v], ⟨r1, _⟩ =>
    obtain ⟨a, rfl, ha⟩ := hx.rep (K := K) r1
    refine ⟨a, _, rfl, ha, odd_Ls, fun h26 L' eL hL => ?_, fun n => absurd ⟨by rw [Ls_len]; exact gc.lo, by rw [Ls_len]; exact gc.hi⟩ n, fun _ i hb => absurd hb (gc.nb i)⟩
    rw [Ls_eq] at eL
    cases Ls_inj eL
    exact ⟨fun _ G s => kq _ .non G s (rfl : V.non = V.non) q, fun n => absurd gc.sum n⟩
theorem ok_canonG (T : Txt K mg A) : FnOk P w K mg base CX0 2 A.a_canon A.d_canon ["lengths"] (spP pCanonG) := (ok_canon (P := P) (w := w) (base := base) T).imp fun vs H Q E h => by
  obtain ⟨O, xs, Qp, Ep, oh, r, ⟨x, L, rfl, hx, gc, q⟩, kq, ke⟩ := h
  match vs, r with
  | [v], ⟨r1, _⟩ =>
    obtain ⟨a, rfl, ha⟩ := hx.rep (K := K) r1
    refine ⟨a, L, rfl, ha, gc.good, fun p H' np s hp => kq _ (.lst _) H' s ⟨p, _, rfl, ⟨fun z => ?_, .of hp⟩, reps_txs _⟩ q⟩
    obtain ⟨o, e, _⟩ := oh p z
    rw [np] at e; cases e
theorem sc_initP : FnScope ["self", "lengths", "words"] ["self", "lengths", "words"] (defScope s_init) := ⟨rfl, rfl, rfl, by decide +kernel, rfl, by decide +kernel, by decide +kernel⟩
def pInit : PInit := fun xs Q _ => ∃ x L, xs = [x, .non] ∧ lenP x L ∧ GoodC L ∧ Q ["words", "lengths", "size", "longest"] [.tup ((cw L).map fun x => .str (txt x)), T1 L, .int (L.length : Int), .int (mx L : Int)]
theorem ok_initP (T : Txt K mg A) : FnOk P w K mg base (L2.CX P w) 6 A.a_init A.d_init ["self", "lengths", "words"] (spInitP A.c_Code pInit) := by
  have G_lens := ok_lensG (P := P) (w := w) (base := base) T
  have G_canon := ok_canonG (P := P) (w := w) (base := base) T
  refine T.F_init.ok sc_initP (fun vs H Q E h => ?_) (fun cdv Ar outer s H vs Q E hr h => ?_)
  · obtain ⟨x, dx, us, O, xs, Qp, Ep, rfl, _, _, r, q, _⟩ := h
    obtain ⟨z, L, rfl, hz, gc, q⟩ := q
    show us.length + 1 = 3
    rw [← r.length]; rfl
  · refine ⟨_, (pss_cons (ps_expr (pe_call G_lens (hr.mono (by decide)) (by rfl) T.g_lens T.F_lens.kp T.b_lens .nil (passes_call (takes_of rfl rfl rfl rfl) (fun _ _ _ _ h => h)) (pa_cons (pv 1) pa_nil)))
      (pss_cons (ps_if (pt_cmpR op_isN (pv 2) pe_non (nomark _)) (pss_one (ps_fld (pv 0) (pe_callTy call_tuple_of (by rfl) T.z_tuple (show PySem.bootBuiltins "tuple" = some (.type "tuple") by decide +kernel) (pa_cons (pe_call G_canon (hr.mono (by decide)) (by rfl) T.g_canon T.F_canon.kp T.b_canon .nil pass0 (pa_cons (pv 1) pa_nil)) pa_nil)) rfl))
        (pss_cons (ps_expr (pe_call (fn_no (k := 4) (P := P) (w := w) (K := K) (mg := mg) (base := base) (CX := L2.CX P w) (f := A.a_cwords) (fd := A.d_cwords) (ps := ["words", "lengths"])) (hr.mono (by decide)) (by rfl) T.g_cwords T.F_cwords.kp T.b_cwords .nil (passes_call (takes_of rfl rfl rfl rfl) (fun _ _ _ _ h => h)) (pa_cons (pv 2) (pa_cons (pv 1) pa_nil))))
       (pss_one (ps_fld (pv 0) (pe_callTy call_tuple_of (by rfl) T.z_tuple (show PySem.bootBuiltins "tuple" = some (.type "tuple") by decide +kernel) (pa_cons (pv 2) pa_nil)) rfl))))
      (pss_cons (ps_fld (pv 0) (pe_callTy call_tuple_of (by rfl) T.z_tuple (show PySem.bootBuiltins "tuple" = some (.type "tuple") by decide +kernel) (pa_cons (pv 1) pa_nil)) rfl)
      (pss_cons (ps_fld (pv 0) (pe_callB call_len_seq (by rfl) T.z_len PySem.boot_len (pa_cons (pv 1) pa_nil)) rfl)
      (pss_one (ps_fld (pv 0) (pe_callB (cr_maxE rfl) (by rfl) T.z_max (by decide +kernel) (pa_cons (pv 1) pa_nil)) rfl)))))), ?_⟩
    refine init_end (N := ["self", "lengths", "words"]) K h fun H0 O0 x dx Ep xs Qp q => ⟨_, inferInstance, ?_⟩
    obtain ⟨z, L, rfl, hz, gc, q⟩ := q
    have fl : ∀ f : Str, f ∈ (["lengths", "size", "longest", "words"] : List Str) → FldP K A.c_Code f := fun f hf => T.O_Code.fl hf
    have ln : z.seq = some (L.map pn) := by rcases hz with rfl | rfl <;> rfl
    have hmap : (L.map fun (l : Nat) => (l : Int)).map PV.int = L.map pn := by rw [List.map_map]; rfl
    change fnSeq _ _ _ [] [] [some (.fr (.raw (.ref x))), some (.fr z), some (.fr .non)]
    simp only [fnSeq, fnPut, fnIf, fnDrop, fnNext, fSeq, fSet, fOfE, fOp, fUn, fIU, fVar, fC, fII, fIB, fIIc, fIxT, fIxL, fLst, fLstO, fCons, fTup, fNil, fB, fTrue, fgName, fgTup, fgCons, fgNil, fIt, fRng3, fRng2, fRng1, fLc2O, fLc2L, fLcO, fLc, fLcL, fRet, fCB, fStar, fCall, wipeE, List.getElem?_cons_zero, List.getElem?_cons_succ, List.set_cons_zero, List.set_cons_succ, SV.pv, PV.seq, fIsN, PV.isNon, fTupleOf, one, fMaxE, Bool.false_eq_true, if_false, if_true]
    intro S1 h1
    refine ⟨z, L, rfl, hz, gc, ?_⟩
    intro S2 h2
    refine ⟨rfl, fun S3 h3 => ⟨z, L, rfl, hz, gc, _, rfl, fl _ (by simp), rfl, by decide, rfl, fun S4 h4 => ⟨_, ln, fl _ (by simp), rfl, by decide, rfl, fun S5 h5 => ?_⟩⟩⟩
    have ml : (L.map pn).length = L.length := List.length_map ..
    have sz : ∀ Q : PV → PEnv → Prop, Q (.int (L.length : Int)) [some (.fr (.raw (.ref x))), some (.fr z), some (.fr .non)] → fLenV 1 [some (.fr (.raw (.ref x))), some (.fr z), some (.fr .non)] Q := by
      intro Q q
      rw [← ml] at q
      rcases hz with rfl | rfl
      · exact q
      · exact q
    refine sz _ ?_
    refine ⟨fl _ (by simp), rfl, by decide, rfl, ?_⟩
    intro S6 h6
    refine ⟨_, ln.trans (by rw [hmap]), by rw [List.length_map]; exact Nat.lt_of_lt_of_le (by decide) gc.lo, fun m m1 m2 => ⟨fl _ (by simp), rfl, by decide, ?_⟩⟩
    rw [mx_of (fun e => by have := gc.lo; rw [e] at this; exact absurd this (by decide)) m1 m2]
    exact q
end
end Z

set_option Elab.async false
set_option linter.all false
set_option maxRecDepth 100000
set_option maxHeartbeats 4000000
/-! list(reversed(xs)), xs a list -/
namespace RT
open PySem PySem.Spec PyProof.Rows
theorem call_list_rev {prog : Program} {w : World} {A : Around} {E : Value → Shared → Prop} {s : Shared} {it l : Addr} {vs : Array Value} {Q : Value → Shared → Prop} (hd : A.handled = none) (ri : s.heap.IsRevIter it l ((vs.size : Int) - 1)) (il : s.heap.IsList l vs) (ne : l ≠ it) (hz : vs.size ≤ sizeLine)
    (k : ∀ (g : Heap) (tk : Nat) (acc : Array Value) (cap : Nat), (∀ b o, b ≠ it → s.heap.get? b = some o → g.get? b = some o) → g.get? s.heap.objs.size = some { cls := .type "list", dict := none, data := .seq acc cap, slots := #[] } → ItemsOf (fun i v => vs[vs.size - 1 - i]? = some v) acc vs.size →
      Q (.ref s.heap.objs.size) { s with heap := g, toks := tk }) :
    wpAny (model prog w) A (call (.type "list") [.ref it]) Q E s := by
  obtain ⟨o1, g1, _⟩ := id ri
  obtain ⟨o2, g2, _⟩ := id il
  have n1 : s.heap.objs.size ≠ it := Nat.ne_of_gt (Heap.lt_size g1)
  have n2 : s.heap.objs.size ≠ l := Nat.ne_of_gt (Heap.lt_size g2)
  have nf : s.heap.objs.size ∉ [it, l] := by simp [n1, n2]
  refine callType_codes (Q₁ := fun v z => v = .ref s.heap.objs.size ∧ z = { s with heap := s.heap.push { cls := .type "list", data := .seq #[] } }) F.called_list (F.typeCall_list_1 _) F.entry_list_init (code_list_new _ ⟨rfl, rfl⟩) fun v z h => ?_
  obtain ⟨rfl, rfl⟩ := h
  have new : (s.heap.push { cls := .type "list", data := .seq #[] }).get? s.heap.objs.size = some { cls := .type "list", data := .seq #[] } := Heap.get?_push_size _ rfl
  refine ⟨⟨_, new, rfl⟩, F.args_list_init_2 _ _, ?_⟩
  -- the new list is emptied, then filled
  show wpAny _ _ (do let old ← Builtin.List.listItems (.ref s.heap.objs.size); Builtin.List.listUpdate (.ref s.heap.objs.size) (fun _ => #[]); letGo old.toList.reverse; Builtin.List.listExtendWith (.ref s.heap.objs.size) (.ref it) .none) _ _ _
  refine wpAny_bind ?_
  unfold Builtin.List.listItems
  refine wpAny_bind (wpAny_seqItems new rfl (wpAny_pure ?_))
  show wpAny _ _ (updateSeq s.heap.objs.size (fun _ => #[]) >>= fun _ => letGo (#[] : Array Value).toList.reverse >>= fun _ => Builtin.List.listExtendWith (.ref s.heap.objs.size) (.ref it) .none) _ _ _
  refine wpAny_bind (wpAny_updateSeq new rfl ?_)
  have mine := Heap.get?_update_self (Obj.mapSeq (fun _ => (#[] : Array Value))) new rfl
  have rest : ∀ b o, b ≠ s.heap.objs.size → (s.heap.push { cls := .type "list", data := .seq #[] }).get? b = some o → ((s.heap.push { cls := .type "list", data := .seq #[] }).update s.heap.objs.size (Obj.mapSeq (fun _ => (#[] : Array Value)))).get? b = some o := fun b o nb e => (Heap.get?_update_other _ _ (Ne.symm nb)).trans e
  have all : ∀ b o, s.heap.get? b = some o → ((s.heap.push { cls := .type "list", data := .seq #[] }).update s.heap.objs.size (Obj.mapSeq (fun _ => (#[] : Array Value)))).get? b = some o := fun b o e => rest b o (Nat.ne_of_lt (Heap.lt_size e)) (Heap.get?_push_of_some _ e)
  refine wpAny_bind (wpAny_letGo ?_)
  generalize (s.heap.push { cls := .type "list", data := .seq #[] }).update s.heap.objs.size (Obj.mapSeq (fun _ => (#[] : Array Value))) = G at mine all ⊢
  have ri' : G.IsRevIter it l ((vs.size : Int) - 1) := ri.at fun o e => all it o e
  have il' : G.IsList l vs := by
    obtain ⟨o, e, r⟩ := il
    exact ⟨o, all l o e, r⟩
  have ty : ({ s with heap := G } : Shared).TypeIs (.ref it) "list_reverseiterator" := Heap.IsRevIter.typeIs (s := { s with heap := G }) ri'
  have W := (Walks.listRev (prog := prog) (w := w) (A := A.in1.in1) hd it l ne vs).toS
  unfold Builtin.List.listExtendWith
  refine wpAny_bind (wpAny_typeOf ty ?_)
  rw [if_neg (by rw [show Builtin.List.listSameRef (.ref s.heap.objs.size) (.ref it) = false by simp [Builtin.List.listSameRef, n1]]; decide)]
  refine wpAny_bind (wpAny_pyIter_revIter (s := { s with heap := G }) ri' ?_)
  refine wpAny_bind (wpAny_holding ?_)
  unfold Builtin.List.listLengthHint
  refine wpAny_bind (wpAny_specialOf ty nolen_lri ?_)
  show wpAny _ _ (specialOf (Value.ref it) (Str.ofString "__length_hint__") >>= _) _ _ _
  refine wpAny_bind (wpAny_specialOf ty hint_lri ?_)
  generalize hid : ("list_reverseiterator.__length_hint__" : String) = id0
  wp_delta
  rw [show splitId id0 = some ("list_reverseiterator", "__length_hint__") from by subst hid; decide +kernel]
  subst hid
  refine wpAny_bind (wpAny_isInstance (b := true) ty (by rw [isSubtype_type]; kernel_rfl) ?_)
  refine wpAny_pure ?_
  rw [if_neg (by decide)]
  have e0 : ((vs.size : Nat) : Int) - 1 - ((0 : Nat) : Int) = (vs.size : Int) - 1 := by omega
  refine wpAny_pure ⟨plainId_quiet F.plain_extend_loop _, codeAny_extend_loopS W hz _ nf _ vs.size 0 _ _ _ rfl (Nat.zero_le _) ⟨Nat.zero_le _, by rw [e0]; exact ri', il'⟩ mine (ItemsOf.nil _) fun z acc cap mv at' ac => ?_⟩
  have h := k z.heap z.toks acc cap (fun b o nb e => mv.heap b o (fun hm => ?_) (all b o e)) at' ac
  · rw [← Moved.eq_with mv] at h
    exact ⟨rfl, h⟩
  · rcases List.mem_cons.mp hm with e' | hm
    · exact absurd (Heap.lt_size e) (by rw [e']; exact Nat.lt_irrefl _)
    · exact nb (List.mem_singleton.mp hm)
end RT
namespace L2
open PySem PyProof.Rows
/-- list(reversed(e)) -/
def tListRev (K : PySem.W.Frag) (te : TE) : TE := fun σ H Q => te σ H fun v H1 => ∃ (a : Addr) (xs : List V), v = .ref a ∧ SqL K H1 a xs ∧ ∀ l, H1 l = none → Q (.ref l) (upd H1 l (.lst xs.reverse))
theorem pe_listRev {X : Cx} {e : Expr} {te : TE} {p p2 pos pos2 : Pos} (hc : X.calm = true) (hg : Gl X "list") (hm : X.mg "list" = none) (hg2 : Gl X "reversed") (hm2 : X.mg "reversed" = none) (he : PE X e te)
    (hs : starEach [e] X.env = (false, eval e X.env) :: starEach [] X.env := by rfl)
    (hs2 : starEach [.Call (.Name "reversed" p2) [e] [] pos2] X.env = (false, eval (.Call (.Name "reversed" p2) [e] [] pos2) X.env) :: starEach [] X.env := by rfl) :
    PE X (.Call (.Name "list" p) [.Call (.Name "reversed" p2) [e] [] pos2] [] pos) (tListRev X.K te) := by
  refine ⟨fun pins s σ H Q I h => Call_ (ld_blt I hg hm (show bootBuiltins "list" = some (.type "list") by decide +kernel) (PyProof.Rows.callWith_type1 (args_cons (Call_ (ld_blt I hg2 hm2 PyProof.Rows.boot_reversed (PyProof.Rows.callWith_type1 (args_cons (thn (he.run pins s σ H _ I h) fun u s1 ⟨v, H1, I1, r1, q1⟩ => args_nil ?_) hs) hs rfl) (by decide) (by decide)) rfl) hs2) hs2 rfl) (by decide) (by decide)) rfl⟩
  obtain ⟨a, xs, rfl, hq, q⟩ := q1
  obtain rfl : u = Value.ref a := r1
  obtain ⟨its, rv, tr, hz⟩ := I1.list hq
  refine call_reversed_list tr.isList (args_nil ?_)
  have I2 : Inv X pins σ H1 { s1 with heap := s1.heap.push (revObj a ((its.toArray.size : Int) - 1)) } := I1.kept (t' := s1.toks) fun b o e => Heap.get?_push_of_some _ e
  obtain ⟨ol, hol, _⟩ := id tr.isList
  refine RT.call_list_rev (s := { s1 with heap := s1.heap.push (revObj a ((its.toArray.size : Int) - 1)) }) (I1.ok.hd hc) ⟨_, Heap.get?_push_size _ rfl, rfl, rfl⟩ (tr.isList.push _) (Nat.ne_of_lt (Heap.lt_size hol)) (by rw [List.size_toArray, ← rv.length]; exact hz) fun g tk acc cap keep at' ac => ?_
  have sz : (s1.heap.push (revObj a ((its.toArray.size : Int) - 1))).objs.size = s1.heap.objs.size + 1 := by rw [Heap.size_push]
  have rv' := RT.vals_rev (its := its) rv (by simpa using ac)
  have I3 := I2.laid (t' := tk) (h' := (s1.heap.push (revObj a ((its.toArray.size : Int) - 1))).push { cls := .type "list", dict := none, data := .seq acc cap, slots := #[] }) (fun b o e => Heap.get?_push_of_some _ e) (Nat.le_refl _)
    (show ObjOk X.prog X.w _ _ _ (.lst xs.reverse) from ⟨by rw [List.length_reverse]; exact hz, acc.toList, cap, rv', by rw [Array.toArray_toList]; exact Heap.get?_push_size _ rfl⟩)
  have nN : H1 ((s1.heap.push (revObj a ((its.toArray.size : Int) - 1))).objs.size) = none := I2.hok.fresh (Nat.le_refl _)
  obtain ⟨f0, f1, f2, f3, f4, f5⟩ := I1.fpOk (H' := upd H1 ((s1.heap.push (revObj a ((its.toArray.size : Int) - 1))).objs.size) (.lst xs.reverse)) (b := s1.heap.objs.size) (Nat.le_refl _) (by
    rw [upd_ne (by rw [sz]; exact Nat.ne_of_lt (Nat.lt_succ_self _))]
    exact I1.hok.fresh (Nat.le_refl _))
  refine ⟨.ref ((s1.heap.push (revObj a ((its.toArray.size : Int) - 1))).objs.size), _, I3.turned (t' := tk) (h' := g) (fun b o hb e => ?_) f0 f1 f3 f4 f5, rfl, q _ nN⟩
  by_cases c : b = (s1.heap.push (revObj a ((its.toArray.size : Int) - 1))).objs.size
  · subst c
    rw [Heap.get?_push_size _ rfl] at e
    cases e
    exact at'
  · rw [Heap.get?_push_ne _ _ _ c] at e
    exact keep b o hb e
end L2

set_option Elab.async false
set_option linter.all false
set_option maxRecDepth 100000
set_option maxHeartbeats 4000000
/-! more that is walked and made: enumerate of a tuple, reversed, list(x), xs[i] = v -/
namespace PL
open PySem L2
section
variable {S : Sit}
def fIOr (f g : FI) : FI := fun env Q => f env Q ∨ g env Q
instance {u v : TI} {f g : FI} [h1 : PureI S u f] [h2 : PureI S v g] : PureI S (fun σ H R => u σ H R ∨ v σ H R) (fIOr f g) := ⟨fun R q k => q.elim (fun q => .inl (h1.snd R q k)) fun q => .inr (h2.snd R q k)⟩
theorem walk_enumF {K : PySem.W.Frag} {a : Addr} {xs : List V} : Walk (Itf K a) xs.length (fun H => SqT K H a xs) (YPair (fun i => some (.int (i : Nat))) (fun i => xs[i]?)) := by
  refine ⟨fun i _ hi q => ⟨xs, xs[i], q, by simp [hi]⟩, fun _ q => ⟨xs, q, rfl⟩, fun i H v H' _ q y => ?_⟩
  obtain ⟨T, x, h1, h2, h3, h4⟩ := y
  exact ⟨T, .int (i : Nat), x, h1, h2, h3, rfl, h4 xs q⟩
def fEnumT (f : FA) : FI := fun env Q => f env fun xs env1 => match xs with
  | [.tup ys] => Q (enumP ys) env1
  | _ => False
instance {K : PySem.W.Frag} {ta : TA} {f : FA} [h : PureA S ta f] : PureI S (iEnumF K ta) (fEnumT f) := ⟨fun R q k => h.snd R q fun vs xs env1 H1 O1 R1 L1 r1 q1 => by
  match xs, vs, r1, q1 with
  | [.tup ys], [v], r1, q1 =>
    obtain ⟨a, ws, rfl, b, c⟩ := r1.1
    refine ⟨a, ws, rfl, fz_tup b, k _ _ env1 H1 O1 R1 L1 (walkP_pair (walk_enumF (K := K) (a := a) (xs := ws)) (by simp [enumP, c.length]) (fun H2 h => SqT.of (h _ _ b).tup) fun i x y hi e1 e2 => ?_) q1⟩
    cases e1
    have hi' : i < ys.length := by rw [c.length]; exact hi
    obtain ⟨z, h1, h2⟩ := c.geti e2
    refine ⟨.int (i : Nat), ys[i], enumP_at hi', (show V.int _ = V.int _ from rfl), ?_⟩
    rw [List.getElem?_eq_getElem hi'] at h1
    cases h1
    exact h2⟩
def fRev (f : FA) : FI := fun env Q => f env fun xs env1 => match xs with
  | [.lst ys] => Q ys.reverse env1
  | _ => False
instance {K : PySem.W.Frag} {ta : TA} {f : FA} [h : PureA S ta f] : PureI S (iRev K ta) (fRev f) := ⟨fun R q k => h.snd R q fun vs xs env1 H1 O1 R1 L1 r1 q1 => by
  match xs, vs, r1, q1 with
  | [.lst ys], [v], r1, q1 =>
    obtain ⟨a, ws, rfl, b, c⟩ := r1.1
    refine ⟨a, ws, rfl, fz_list b, k _ _ env1 H1 O1 R1 L1 ⟨_, _, _, walk_rev (K := K) (a := a) (xs := ws), by rw [List.length_reverse, c.length], fun H2 h => SqL.of (h _ _ b).lst, fun i H2 O2 v H3 hi le _ ⟨y1, y2⟩ => ?_⟩ q1⟩
    subst y1
    obtain ⟨x, h1, h2⟩ := c.geti y2
    refine ⟨.refl _, x, ?_, Rep.mono le _ _ h2⟩
    have hi' : i < ys.length := by rw [c.length]; exact hi
    rw [List.getElem?_reverse hi', ← h1, c.length]⟩
/-- list(reversed(e)) -/
def fListRev (f : FE) : FE := fun env Q => f env fun x env1 => match x with
  | .lst ys => Q (.lst ys.reverse) env1
  | _ => False
theorem Reps.rev {F : Fz} : ∀ {xs : List PV} {vs : List V}, Reps F xs vs → Reps F xs.reverse vs.reverse
  | [], [], _ => trivial
  | x :: xs, v :: vs, r => by
    rw [List.reverse_cons, List.reverse_cons]
    exact Reps.append (Reps.rev r.2) ⟨r.1, trivial⟩
instance {K : PySem.W.Frag} {t : TE} {f : FE} [h : PureE S t f] : PureE S (tListRev K t) (fListRev f) := ⟨fun R q k => h.snd R q fun v x env1 H1 O1 R1 L1 r1 q1 => by
  cases x with
  | lst ys =>
    obtain ⟨a, ws, rfl, b, c⟩ := r1
    exact ⟨a, ws, rfl, fz_list b, fun l hl => k _ (.lst ys.reverse) env1 _ O1 (R1.same (same_upd hl)) (L1.trans (.same (same_upd hl))) ⟨l, _, rfl, ⟨R1.new hl, .of upd_same⟩, Reps.mono (fz_same (same_upd hl)) _ _ c.rev⟩ q1⟩
  | _ => exact q1.elim⟩
/-- list(x) -/
abbrev rListOf (K : PySem.W.Frag) : List V → Hp → VK → Prop := fun xs H Q => ∃ p ys, xs = [V.ref p] ∧ (SqL K H p ys ∨ SqT K H p ys) ∧ ∀ l, H l = none → Q (V.ref l) (upd H l (.lst ys))
def fListOf : List PV → (PV → Prop) → Prop := fun xs Q => one (fun x => ∃ ys, x.seq = some ys ∧ Q (.lst ys)) xs
instance {K : PySem.W.Frag} : CallP S (rListOf K) fListOf := ⟨fun {O H vs xs Q Qp} oh r q k => by
  obtain ⟨x, v, rfl, rfl, r1, ys, e, q⟩ := one_rep r q
  obtain ⟨a, ws, rfl, h, rs⟩ := seq_rep (K := K) r1 e
  exact ⟨a, ws, rfl, h, fun l hl => k _ (.lst ys) _ (rep_new oh hl _).1 ⟨l, ws, rfl, (rep_new oh hl (.lst ws)).2.2, Reps.mono (rep_new oh hl _).2.1 _ _ rs⟩ q⟩⟩
/-- list(x), for one slot -/
def fListOfO (f : FA) : FO := fun env Q => f env fun xs env1 => one (fun x => ∃ ys, x.seq = some ys ∧ Q (.ol ys) env1) xs
instance {K : PySem.W.Frag} {t : TA} {f : FA} [h : PureA S t f] : PureO S (tCB (rListOf K) t) (fListOfO f) := ⟨fun {O env σ H Q Qp} R q k => h.snd R q fun vs xs env1 H1 O1 R1 L1 r1 q1 => by
  obtain ⟨x, v, rfl, rfl, r2, ys, e, q2⟩ := one_rep r1 q1
  obtain ⟨a, ws, rfl, hq, rs⟩ := seq_rep (K := K) r2 e
  refine ⟨a, ws, rfl, hq, fun p hp => ?_⟩
  obtain ⟨O2, R2, L2, sr, no⟩ := R1.newOwn hp (o := .lst ws) trivial (sv := .ol ys) rfl fun O' H' le e => ⟨ws, e, Reps.mono le _ _ rs⟩
  exact k _ (.ol ys) env1 _ O2 R2 (L1.trans L2) sr (fun _ => ⟨p, rfl, L1.at hp, no⟩) q2⟩
/-- xs[i] = e -/
def fStore (i : Nat) (fe fi : FE) : FS := fun D env => fe env fun z env1 => (peek env1 i).isSome = true ∧ fi env1 fun y env2 => ∃ xs k j, env2[i]? = some (some (.ol xs)) ∧ y = .int k ∧ ixN xs.length k = some j ∧ D.nx (env2.set i (some (.ol (xs.set j z))))
instance {i : Nat} {te ti : TE} {fe fi : FE} [h1 : PureE S te fe] [h2 : PureE S ti fi] : PureS S (tAsg te (gSub (tVar i) ti rSetL)) (fStore i fe fi) := ⟨fun {O env σ H D De} R q k _ _ _ =>
  h1.snd R q fun v z env1 H1 O1 R1 L1 r1 ⟨p1, q1⟩ => by
    obtain ⟨u, hu⟩ := R1.has p1
    refine ⟨u, hu, h2.snd R1 q1 fun w y env2 H2 O2 R2 L2 r2 ⟨xs, n, j, e2, ey, ej, q2⟩ => ?_⟩
    subst ey
    obtain ⟨l, hs, vs, hl, rs⟩ := R2.ownAt e2 rfl
    rw [hu] at hs
    cases Option.some.inj (Option.some.inj hs)
    obtain ⟨R3, L3⟩ := R2.mut e2 rfl hu (o := .lst (vs.set j v)) trivial (sw := .ol (xs.set j z)) rfl fun H' le e => ⟨_, e, Reps.set (Rep.mono le _ _ (Rep.mono L2.fz _ _ r1)) _ (Reps.mono le _ _ rs)⟩
    exact ⟨l, vs, n, j, rfl, r2, hl, by rw [← rs.length]; exact ej, k _ _ _ O2 R3 ((L1.trans L2).trans L3).raw q2⟩⟩
end
end PL

set_option Elab.async false
set_option linter.all false
set_option maxRecDepth 100000
set_option maxHeartbeats 4000000
set_option synthInstance.maxHeartbeats 4000000
set_option synthInstance.maxSize 100000
namespace Z
open PySem L2 XV KR PL LamX
section
variable {P : Program} {w : World} {K : PySem.W.Frag} {mg : Str → Option Value} {base : Heap} {A : Ad}
/-- a value that frozen gives back as it is -/
def leafK (K : PySem.W.Frag) (x : PV) : Prop := ∃ t, TyP K x t ∧ PySem.W.kitAny K t [.type "list", .type "tuple"] = some false ∧ PySem.W.kitOne K t (.type "dict") = some false
def pFzS (K : PySem.W.Frag) (p : PV → Prop) (f : PV → PV) : List PV → (PV → Prop) → (Addr → List (Str × PV) → Prop) → Prop := fun xs Q _ => ∃ x, xs = [x] ∧ ((leafK K x ∧ Q x) ∨ ∃ ys, (x = .lst ys ∨ x = .tup ys) ∧ ys.length ≤ sizeLine ∧ (∀ y ∈ ys, p y) ∧ Q (.tup (ys.map f)))
def frz : Nat → PV → PV
  | 0, x => x
  | n + 1, .lst xs => .tup (xs.map (frz n))
  | n + 1, .tup xs => .tup (xs.map (frz n))
  | _ + 1, x => x
def FzP (K : PySem.W.Frag) : Nat → PV → Prop
  | 0, x => leafK K x
  | n + 1, x => (leafK K x ∧ ∀ ys, x ≠ .lst ys ∧ x ≠ .tup ys) ∨ ∃ ys, (x = .lst ys ∨ x = .tup ys) ∧ ys.length ≤ sizeLine ∧ ∀ y ∈ ys, FzP K n y
def pFz (K : PySem.W.Frag) (n : Nat) : List PV → (PV → Prop) → (Addr → List (Str × PV) → Prop) → Prop := fun xs Q _ => ∃ x, xs = [x] ∧ FzP K n x ∧ Q (frz n x)
def pOne (p : PV → Prop) (f : PV → PV) : List PV → (PV → Prop) → (Addr → List (Str × PV) → Prop) → Prop := fun xs Q _ => ∃ x, xs = [x] ∧ p x ∧ Q (f x)
theorem sc_frozen : FnScope ["value", "key", "part"] ["value"] (defScope s_frozen) := ⟨rfl, rfl, rfl, by decide +kernel, rfl, by decide +kernel, by decide +kernel⟩
theorem ok_fzS (T : Txt K mg A) {k : Nat} {p : PV → Prop} {f : PV → PV} (G : FnOk P w K mg base CX0 k A.a_frozen A.d_frozen ["value"] (spP (pOne p f))) : FnOk P w K mg base CX0 (k + 1) A.a_frozen A.d_frozen ["value"] (spP (pFzS K p f)) := by
  refine T.F_frozen.ok sc_frozen (fun vs H Q E h => spP_len (n := 1) h fun xs Qp Ep q => ?_) (fun cdv Ar outer s H vs Q E hr h => ?_)
  · obtain ⟨x, rfl, _⟩ := q; rfl
  · refine ⟨_, (pss_cons (ps_if (pt_val (pe_callB call_isiT (by rfl) T.z_isinstance (by decide +kernel) (pa_cons (pv 0) (pa_cons (pe_tup (pa_cons (pe_bltn (v := .ty "list") (by rfl) T.z_list (by decide +kernel) rfl) (pa_cons (pe_bltn (v := .ty "tuple") (by rfl) T.z_tuple (by decide +kernel) rfl) pa_nil))) pa_nil)))) (pss_one (ps_ret (pe_callTy call_tuple_of (by rfl) T.z_tuple (by decide +kernel) (pa_cons (pe_lc (own := [("part", 2)]) (by rfl) sc_frozen.nd (pi_or (pi_list (pv 0)) (pi_tup (pv 0))) (blkOk_by (own := [("part", 2)]) (N := ["value", "key", "part"]) (sc := defScope s_frozen) (by decide +kernel)) (fun s1 H1 C1 cl1 fp1 => (pg_name (i := 2) sc_frozen.nd rfl (Or.inl rfl))) (fun s1 H1 C1 cl1 fp1 => pts_nil) (fun s1 H1 C1 cl1 fp1 => (pe_call (X := Cx.blk _ s1 H1 _ (PySem.compEnvC _ cl1 C1 _) fp1) G hr (by rfl) T.g_frozen T.F_frozen.kp T.b_frozen .nil pass0 (pa_cons (pv 2) pa_nil)))) pa_nil))))
        pss_nil)
      (pss_cons (ps_if (pt_val (pe_callB call_isi (by rfl) T.z_isinstance (by decide +kernel) (pa_cons (pv 0) (pa_cons (pe_bltn (v := .ty "dict") (by rfl) T.z_dict (by decide +kernel) rfl) pa_nil)))) (pss_one ps_never)
        pss_nil)
      (pss_one (ps_ret (pv 0))))), ?_⟩
    refine def_end2 (N := ["value", "key", "part"]) K h fun S xs Qp hK hE q => ⟨_, inferInstance, ?_⟩
    obtain ⟨x, rfl, q⟩ := q
    simp only [fSeq, fSet, fOfE, fOp, fUn, fIU, fVar, fC, fII, fIB, fIIc, fIxT, fIxL, fLst, fLstO, fCons, fTup, fNil, fB, fTrue, fgName, fgTup, fgCons, fgNil, fIt, fRng3, fRng2, fRng1, fLc2O, fLc2L, fLcO, fLc, fLcL, fRet, fCB, fStar, fCall, wipeE, List.getElem?_cons_zero, List.getElem?_cons_succ, List.set_cons_zero, List.set_cons_succ, SV.pv, PV.seq, fIfS, fIsiT2, fIsiX, fTupleOf, one, fIOr, fItT]
    rcases q with ⟨⟨t, ht, h1, h2⟩, q⟩ | ⟨ys, hx, hl, hp, q⟩
    · refine ⟨t, false, ht, h1, ?_⟩
      refine ⟨t, false, ht, h2, ?_⟩
      exact q
    · have turn : ∀ x' : PV, x'.seq = some ys → True := fun _ _ => trivial
      rcases hx with rfl | rfl
      · refine ⟨_, true, rfl, kit_two (b := true) (c := false) (by decide +kernel) (by decide +kernel), ?_⟩
        refine .inl ⟨hl, by decide, ?_⟩
        refine plc_map f (fun y hy K1 K' k => ?_) ?_
        · exact ⟨y, rfl, hp y hy, k⟩
        · exact ⟨_, rfl, q⟩
      · refine ⟨_, true, rfl, kit_two (b := false) (c := true) (by decide +kernel) (by decide +kernel), ?_⟩
        refine .inr ⟨hl, by decide, ?_⟩
        refine plc_map f (fun y hy K1 K' k => ?_) ?_
        · exact ⟨y, rfl, hp y hy, k⟩
        · exact ⟨_, rfl, q⟩
theorem ok_frozen (T : Txt K mg A) : ∀ n : Nat, FnOk P w K mg base CX0 (n + 1) A.a_frozen A.d_frozen ["value"] (spP (pFz K n))
  | 0 => (ok_fzS (P := P) (w := w) (base := base) T (k := 0) (p := fun _ => False) (f := id) (fn_no.imp fun vs H Q E h => by obtain ⟨O, xs, Qp, Ep, oh, r, ⟨x, rfl, hx, q⟩, _⟩ := h; exact hx.elim)).imp fun vs H Q E h => by
    obtain ⟨O, xs, Qp, Ep, oh, r, ⟨x, rfl, hx, q⟩, kq, ke⟩ := h
    exact ⟨O, _, Qp, Ep, oh, r, ⟨x, rfl, .inl ⟨hx, q⟩⟩, kq, ke⟩
  | n + 1 => (ok_fzS (P := P) (w := w) (base := base) T (k := n + 1) (p := FzP K n) (f := frz n) (ok_frozen T n)).imp fun vs H Q E h => by
    obtain ⟨O, xs, Qp, Ep, oh, r, ⟨x, rfl, hx, q⟩, kq, ke⟩ := h
    refine ⟨O, _, Qp, Ep, oh, r, ⟨x, rfl, ?_⟩, kq, ke⟩
    rcases hx with ⟨hx, ne⟩ | ⟨ys, hx, hl, hp⟩
    · refine .inl ⟨hx, ?_⟩
      have : frz (n + 1) x = x := by
        cases x <;> first | rfl | exact absurd rfl (ne _).1 | exact absurd rfl (ne _).2
      rw [this] at q; exact q
    · refine .inr ⟨ys, hx, hl, hp, ?_⟩
      rcases hx with rfl | rfl <;> exact q
end
end Z

set_option Elab.async false
set_option linter.all false
set_option maxRecDepth 100000
set_option maxHeartbeats 4000000
set_option synthInstance.maxHeartbeats 4000000
set_option synthInstance.maxSize 100000
namespace Z
open PySem L2 XV KR PL LamX
section
variable {P : Program} {w : World} {K : PySem.W.Frag} {mg : Str → Option Value} {base : Heap} {A : Ad}
theorem sc_Least : FnScope ["self", "code", "counts", "levels"] ["self", "code", "counts", "levels"] (defScope s_Least) := ⟨rfl, rfl, rfl, by decide +kernel, rfl, by decide +kernel, by decide +kernel⟩
def pLeast (K : PySem.W.Frag) : PInit := fun xs Q _ => ∃ a0 a1 a2, xs = [a0, a1, a2] ∧ FzP K 4 a0 ∧ FzP K 4 a1 ∧ FzP K 4 a2 ∧ Q ["code", "counts", "levels"] [frz 4 a0, frz 4 a1, frz 4 a2]
theorem ok_Least (T : Txt K mg A) : FnOk P w K mg base (L2.CX P w) 6 A.a_Least A.d_Least ["self", "code", "counts", "levels"] (spInitP A.c_Least (pLeast K)) := by
  have G_frozen := ok_frozen (P := P) (w := w) (base := base) T 4
  refine T.F_Least.okX sc_Least (fun vs H Q E h => ?_) (fun cdv Ar outer s H vs Q E hr h => ?_)
  · obtain ⟨x, dx, us, O, xs, Qp, Ep, rfl, _, _, r, q, _⟩ := h
    obtain ⟨a0, a1, a2, rfl, ha0, ha1, ha2, q⟩ := q
    show us.length + 1 = 4
    rw [← r.length]; rfl
  · refine ⟨_, (pss_cons (ps_fld (pv 0) (pe_call G_frozen (hr.mono (by decide)) (by rfl) T.g_frozen T.F_frozen.kp T.b_frozen .nil pass0 (pa_cons (pv 1) pa_nil)) rfl)
      (pss_cons (ps_fld (pv 0) (pe_call G_frozen (hr.mono (by decide)) (by rfl) T.g_frozen T.F_frozen.kp T.b_frozen .nil pass0 (pa_cons (pv 2) pa_nil)) rfl)
      (pss_one (ps_fld (pv 0) (pe_call G_frozen (hr.mono (by decide)) (by rfl) T.g_frozen T.F_frozen.kp T.b_frozen .nil pass0 (pa_cons (pv 3) pa_nil)) rfl)))), ?_⟩
    refine init_end (N := ["self", "code", "counts", "levels"]) K h fun H0 O0 x dx Ep xs Qp q => ⟨_, inferInstance, ?_⟩
    obtain ⟨a0, a1, a2, rfl, ha0, ha1, ha2, q⟩ := q
    have fl : ∀ f : Str, f ∈ (["code", "counts", "levels"] : List Str) → FldP K A.c_Least f := fun f hf => T.O_Least.fl hf
    change fnSeq _ _ _ [] [] _
    simp only [fnSeq, fnPut, fnIf, fnDrop, fnNext, fSeq, fSet, fOfE, fOp, fUn, fIU, fVar, fC, fII, fIB, fIIc, fIxT, fIxL, fLst, fLstO, fCons, fTup, fNil, fB, fTrue, fgName, fgTup, fgCons, fgNil, fIt, fRng3, fRng2, fRng1, fLc2O, fLc2L, fLcO, fLc, fLcL, fRet, fCB, fStar, fCall, wipeE, List.getElem?_cons_zero, List.getElem?_cons_succ, List.set_cons_zero, List.set_cons_succ, SV.pv, PV.seq]
    refine ⟨rfl, fun S0 h0 => ⟨a0, rfl, ha0, fl _ (by simp), by decide, by decide, ?_⟩⟩
    refine ⟨rfl, fun S1 h1 => ⟨a1, rfl, ha1, fl _ (by simp), by decide, by decide, ?_⟩⟩
    refine ⟨rfl, fun S2 h2 => ⟨a2, rfl, ha2, fl _ (by simp), by decide, by decide, ?_⟩⟩
    exact q
theorem sc_Better : FnScope ["self", "code", "counts", "light", "heavy", "other"] ["self", "code", "counts", "light", "heavy", "other"] (defScope s_Better) := ⟨rfl, rfl, rfl, by decide +kernel, rfl, by decide +kernel, by decide +kernel⟩
def pBetter (K : PySem.W.Frag) : PInit := fun xs Q _ => ∃ a0 a1 a2 a3 a4, xs = [a0, a1, a2, a3, a4] ∧ FzP K 4 a0 ∧ FzP K 4 a1 ∧ FzP K 4 a2 ∧ FzP K 4 a3 ∧ FzP K 4 a4 ∧ Q ["code", "counts", "light", "heavy", "other"] [frz 4 a0, frz 4 a1, frz 4 a2, frz 4 a3, frz 4 a4]
theorem ok_Better (T : Txt K mg A) : FnOk P w K mg base (L2.CX P w) 6 A.a_Better A.d_Better ["self", "code", "counts", "light", "heavy", "other"] (spInitP A.c_Better (pBetter K)) := by
  have G_frozen := ok_frozen (P := P) (w := w) (base := base) T 4
  refine T.F_Better.okX sc_Better (fun vs H Q E h => ?_) (fun cdv Ar outer s H vs Q E hr h => ?_)
  · obtain ⟨x, dx, us, O, xs, Qp, Ep, rfl, _, _, r, q, _⟩ := h
    obtain ⟨a0, a1, a2, a3, a4, rfl, ha0, ha1, ha2, ha3, ha4, q⟩ := q
    show us.length + 1 = 6
    rw [← r.length]; rfl
  · refine ⟨_, (pss_cons (ps_fld (pv 0) (pe_call G_frozen (hr.mono (by decide)) (by rfl) T.g_frozen T.F_frozen.kp T.b_frozen .nil pass0 (pa_cons (pv 1) pa_nil)) rfl)
      (pss_cons (ps_fld (pv 0) (pe_call G_frozen (hr.mono (by decide)) (by rfl) T.g_frozen T.F_frozen.kp T.b_frozen .nil pass0 (pa_cons (pv 2) pa_nil)) rfl)
      (pss_cons (ps_fld (pv 0) (pe_call G_frozen (hr.mono (by decide)) (by rfl) T.g_frozen T.F_frozen.kp T.b_frozen .nil pass0 (pa_cons (pv 3) pa_nil)) rfl)
      (pss_cons (ps_fld (pv 0) (pe_call G_frozen (hr.mono (by decide)) (by rfl) T.g_frozen T.F_frozen.kp T.b_frozen .nil pass0 (pa_cons (pv 4) pa_nil)) rfl)
      (pss_one (ps_fld (pv 0) (pe_call G_frozen (hr.mono (by decide)) (by rfl) T.g_frozen T.F_frozen.kp T.b_frozen .nil pass0 (pa_cons (pv 5) pa_nil)) rfl)))))), ?_⟩
    refine init_end (N := ["self", "code", "counts", "light", "heavy", "other"]) K h fun H0 O0 x dx Ep xs Qp q => ⟨_, inferInstance, ?_⟩
    obtain ⟨a0, a1, a2, a3, a4, rfl, ha0, ha1, ha2, ha3, ha4, q⟩ := q
    have fl : ∀ f : Str, f ∈ (["code", "counts", "light", "heavy", "other"] : List Str) → FldP K A.c_Better f := fun f hf => T.O_Better.fl hf
    change fnSeq _ _ _ [] [] _
    simp only [fnSeq, fnPut, fnIf, fnDrop, fnNext, fSeq, fSet, fOfE, fOp, fUn, fIU, fVar, fC, fII, fIB, fIIc, fIxT, fIxL, fLst, fLstO, fCons, fTup, fNil, fB, fTrue, fgName, fgTup, fgCons, fgNil, fIt, fRng3, fRng2, fRng1, fLc2O, fLc2L, fLcO, fLc, fLcL, fRet, fCB, fStar, fCall, wipeE, List.getElem?_cons_zero, List.getElem?_cons_succ, List.set_cons_zero, List.set_cons_succ, SV.pv, PV.seq]
    refine ⟨rfl, fun S0 h0 => ⟨a0, rfl, ha0, fl _ (by simp), by decide, by decide, ?_⟩⟩
    refine ⟨rfl, fun S1 h1 => ⟨a1, rfl, ha1, fl _ (by simp), by decide, by decide, ?_⟩⟩
    refine ⟨rfl, fun S2 h2 => ⟨a2, rfl, ha2, fl _ (by simp), by decide, by decide, ?_⟩⟩
    refine ⟨rfl, fun S3 h3 => ⟨a3, rfl, ha3, fl _ (by simp), by decide, by decide, ?_⟩⟩
    refine ⟨rfl, fun S4 h4 => ⟨a4, rfl, ha4, fl _ (by simp), by decide, by decide, ?_⟩⟩
    exact q
end
end Z

set_option Elab.async false
set_option linter.all false
set_option maxRecDepth 100000
set_option maxHeartbeats 4000000
set_option synthInstance.maxHeartbeats 4000000
set_option synthInstance.maxSize 100000
namespace Z
open PySem L2 XV KR PL LamX
section

theorem dat_pn : ∀ l : List Nat, allDat (l.map pn) = true
  | [] => by rw [List.map_nil, allDat]
  | x :: l => by
    rw [List.map_cons, allDat_cons, dat_pn l]
    unfold pn
    rw [PV.isDat]
    rfl
def dN (r : List Nat) : List PyData := r.map fun (l : Nat) => PyData.int ((l : Nat) : Int)
theorem T1_dat (r : List Nat) : (T1 r).dat = .tuple (dN r) := by
  unfold T1 dN
  rw [dat_tup, dats_map, List.map_map]
  congr 1
/-- tuple(x) -/
abbrev rTupOf (K : PySem.W.Frag) : List V → Hp → VK → Prop := fun xs H Q => ∃ p ys, xs = [V.ref p] ∧ ((SqL K H p ys ∧ ∀ l, H l = none → Q (V.ref l) (upd H l (.tup ys))) ∨ (SqT K H p ys ∧ Q (V.ref p) H))
/-- a node: its weight, its signs -/
abbrev Nd := Int × List Nat
def ndV (n : Nd) : PV := .tup [.int n.1, .tup (n.2.map pn)]
noncomputable def sortS (l : List Nat) : List Nat := l.mergeSort (PySem.W.dataLe false fun x => (pn x).dat)
noncomputable def sortNd (l : List Nd) : List Nd := l.mergeSort (PySem.W.dataLe false fun x => (ndV x).dat)
theorem sortP_pn (l : List Nat) : sortP (l.map pn) = (sortS l).map pn := (List.map_mergeSort (f := pn) (r := PySem.W.dataLe false fun x => (pn x).dat) (s := PySem.W.dataLe false PV.dat) (fun _ _ _ _ => rfl)).symm
theorem sortP_nd (l : List Nd) : sortP (l.map ndV) = (sortNd l).map ndV := (List.map_mergeSort (f := ndV) (r := PySem.W.dataLe false fun x => (ndV x).dat) (s := PySem.W.dataLe false PV.dat) (fun _ _ _ _ => rfl)).symm
theorem sortS_perm (l : List Nat) : (sortS l).Perm l := List.mergeSort_perm _ _
theorem sortNd_perm (l : List Nd) : (sortNd l).Perm l := List.mergeSort_perm _ _
noncomputable def joinN (a b : Nd) : Nd := (a.1 + b.1, sortS (a.2 ++ b.2))
noncomputable def pairs (ns : List Nd) : List Nd := (List.range (ns.length / 2)).map fun i => joinN (ns.getD (2 * i) (0, [])) (ns.getD (2 * i + 1) (0, []))
theorem pn_dat (x : Nat) : (pn x).dat = .int (x : Int) := by unfold pn; rw [PV.dat]
theorem dats_pn : ∀ l : List Nat, dats (l.map pn) = dN l
  | [] => by rw [List.map_nil, dats]; rfl
  | x :: l => by rw [List.map_cons, dats_cons, dats_pn l, pn_dat]; rfl
theorem ndV_dat (n : Nd) : (ndV n).dat = .tuple [.int n.1, .tuple (dN n.2)] := by
  unfold ndV
  rw [dat_tup, dats_cons, dats_cons, dats, PV.dat, dat_tup, dats_pn]
theorem dat_nd : ∀ l : List Nd, allDat (l.map ndV) = true
  | [] => by rw [List.map_nil, allDat]
  | x :: l => by
    rw [List.map_cons, allDat_cons, dat_nd l]
    unfold ndV
    rw [isDat_tup, allDat_cons, allDat_cons, allDat, isDat_tup, dat_pn, PV.isDat]
    rfl
theorem alike_ints : ∀ a b : List Nat, PySem.W.alikeAll (dN a) (dN b) = true
  | [], _ => rfl
  | x :: a, [] => rfl
  | x :: a, y :: b => by
    show (PySem.W.alike (.int (x : Int)) (.int (y : Int)) && PySem.W.alikeAll (dN a) (dN b)) = true
    rw [alike_ints a b]
    rfl
theorem depth_ints : ∀ l : List Nat, PyData.depthAll (dN l) = 0
  | [] => rfl
  | x :: l => by
    show max (PyData.depth (.int (x : Int))) (PyData.depthAll (dN l)) = 0
    rw [depth_ints l]
    rfl
theorem okS (l : List Nat) : SortOk (l.map pn) := by
  have mem : ∀ d ∈ dats (l.map pn), ∃ x : Nat, d = .int (x : Int) := fun d hd => by
    rw [dats_map, List.map_map] at hd
    obtain ⟨r, hr, rfl⟩ := List.mem_map.mp hd
    exact ⟨r, pn_dat r⟩
  refine ⟨dat_pn l, fun d hd d' hd' => ?_, .inr fun d hd => ?_, fun d hd => ?_⟩
  · obtain ⟨x, rfl⟩ := mem d hd
    obtain ⟨y, rfl⟩ := mem d' hd'
    rfl
  · obtain ⟨x, rfl⟩ := mem d hd
    exact ⟨(fun z => nomatch z), (fun _ z => nomatch z)⟩
  · obtain ⟨x, rfl⟩ := mem d hd
    exact Nat.zero_le _
theorem okNd (l : List Nd) : SortOk (l.map ndV) := by
  have mem : ∀ d ∈ dats (l.map ndV), ∃ n : Nd, d = .tuple [.int n.1, .tuple (dN n.2)] := fun d hd => by
    rw [dats_map, List.map_map] at hd
    obtain ⟨r, hr, rfl⟩ := List.mem_map.mp hd
    exact ⟨r, ndV_dat r⟩
  refine ⟨dat_nd l, fun d hd d' hd' => ?_, .inl fun d hd => ?_, fun d hd => ?_⟩
  · obtain ⟨x, rfl⟩ := mem d hd
    obtain ⟨y, rfl⟩ := mem d' hd'
    show (PySem.W.alike (.int x.1) (.int y.1) && (PySem.W.alikeAll (dN x.2) (dN y.2) && PySem.W.alikeAll [] [])) = true
    rw [alike_ints]
    rfl
  · obtain ⟨x, rfl⟩ := mem d hd
    exact ⟨_, _, rfl⟩
  · obtain ⟨x, rfl⟩ := mem d hd
    show max 0 (max (PyData.depthAll (dN x.2) + 1) 0) + 1 ≤ 60
    rw [depth_ints]
    decide
theorem atI_map {α : Type} {f : α → PV} {l : List α} {i : Int} {n : Nat} {x : α} (h : i = (n : Int)) (e : l[n]? = some x) : atI (l.map f) i = some (f x) := by
  subst h
  have hn := (List.getElem?_eq_some_iff.mp e).1
  unfold atI ixN
  rw [if_pos (by omega), if_pos (by rw [List.length_map]; omega)]
  show (l.map f)[(n : Int).toNat]? = _
  rw [Int.toNat_natCast, List.getElem?_map, e]
  rfl
theorem rg2 {j : Int} {m : Nat} (hm : m ≤ 1000) (hj : j = (m : Int) - 1) : RgC 0 j 2 (m / 2) := by
  subst hj
  have size : Builtin.Range.rangeSize 0 ((m : Int) - 1) 2 = ((m / 2 : Nat) : Int) := by
    by_cases h : m = 0
    · subst h; decide
    · rw [PyProof.Rows.rangeSize_pos (by decide) (by omega)]
      omega
  refine ⟨by decide, by decide, ?_, size⟩
  unfold Builtin.Range.small
  rw [size]
  simp [Builtin.Range.rangeFitsLong]
  omega
theorem pairs_len (ns : List Nd) : (pairs ns).length = ns.length / 2 := by unfold pairs; rw [List.length_map, List.length_range]

variable {P : Program} {w : World} {K : PySem.W.Frag} {mg : Str → Option Value} {base : Heap} {A : Ad}
theorem sc_paired : FnScope ["nodes", "at"] ["nodes"] (defScope s_paired) := ⟨rfl, rfl, rfl, by decide +kernel, rfl, by decide +kernel, by decide +kernel⟩
def pPaired : List PV → (PV → Prop) → (Addr → List (Str × PV) → Prop) → Prop := fun xs Q _ => ∃ ns : List Nd, xs = [.lst (ns.map ndV)] ∧ ns.length ≤ 1000 ∧ (∀ n ∈ ns, n.2.length ≤ 1000) ∧ Q (.lst ((pairs ns).map ndV))
theorem ok_paired (T : Txt K mg A) : FnOk P w K mg base CX0 1 A.a_paired A.d_paired ["nodes"] (spP pPaired) := by
  refine T.F_paired.ok sc_paired (fun vs H Q E h => spP_len (n := 1) h fun xs Qp Ep q => ?_) (fun cdv Ar outer s H vs Q E hr h => ?_)
  · obtain ⟨ns, rfl, hn, hs, q⟩ := q; rfl
  · refine ⟨_, (pss_one (ps_ret (pe_lc (own := [("at", 1)]) (by rfl) sc_paired.nd (pi_range3 (by rfl) T.z_range (pa_cons pe_int (pa_cons (pe_op op_sub (pe_callB call_len_seq (by rfl) T.z_len PySem.boot_len (pa_cons (pv 0) pa_nil)) pe_int) (pa_cons pe_int pa_nil)))) (blkOk_by (own := [("at", 1)]) (N := ["nodes", "at"]) (sc := defScope s_paired) (by decide +kernel)) (fun s1 H1 C1 cl1 fp1 => (pg_name (i := 1) sc_paired.nd rfl (Or.inl rfl))) (fun s1 H1 C1 cl1 fp1 => pts_nil) (fun s1 H1 C1 cl1 fp1 => (pe_tup (pa_cons (pe_op op_add (pe_ix (r := rIxT K) ix_tup (pe_ix (r := rIxL K) ix_list (pv 0) (pv 1) (fun _ _ => rfl)) pe_int (fun _ _ => rfl)) (pe_ix (r := rIxT K) ix_tup (pe_ix (r := rIxL K) ix_list (pv 0) (pe_op op_add (pv 1) pe_int) (fun _ _ => rfl)) pe_int (fun _ _ => rfl))) (pa_cons (pe_callTy (r := rTupOf K) call_tuple_of (by rfl) T.z_tuple (show PySem.bootBuiltins "tuple" = some (.type "tuple") by decide +kernel) (pa_cons (pe_callB (r := rSortD K) (call_sortD hr.units) (by rfl) T.z_sorted (show PySem.bootBuiltins "sorted" = some (.builtin "sorted") by decide +kernel) (pa_cons (pe_op (r := rCatA K) op_catA (pe_ix (r := rIxT K) ix_tup (pe_ix (r := rIxL K) ix_list (pv 0) (pv 1) (fun _ _ => rfl)) pe_int (fun _ _ => rfl)) (pe_ix (r := rIxT K) ix_tup (pe_ix (r := rIxL K) ix_list (pv 0) (pe_op op_add (pv 1) pe_int) (fun _ _ => rfl)) pe_int (fun _ _ => rfl))) pa_nil)) pa_nil)) pa_nil))))))), ?_⟩
    refine def_end2 (N := ["nodes", "at"]) K h fun S xs Qp hK hE q => ⟨_, inferInstance, ?_⟩
    obtain ⟨ns, rfl, hn, hs, q⟩ := q
    change fRet _ _ [some (.fr (.lst (ns.map ndV))), none]
    simp only [fSeq, fSet, fOfE, fOp, fUn, fIU, fVar, fC, fII, fIB, fIIc, fIxT, fIxL, fLst, fLstO, fCons, fTup, fNil, fB, fTrue, fgName, fgTup, fgCons, fgNil, fIt, fRng3, fRng2, fRng1, fLc2O, fLc2L, fLcO, fLc, fLcL, fRet, fCB, fStar, fCall, wipeE, List.getElem?_cons_zero, List.getElem?_cons_succ, List.set_cons_zero, List.set_cons_succ, SV.pv, PV.seq, fLen, fSorted, fCatT, fTupleOf, one]
    change ∃ n, RgC 0 (((ns.map ndV).length : Int) - 1) 2 n ∧ _
    refine ⟨ns.length / 2, rg2 hn (by rw [List.length_map]), by rw [rangeC, List.length_map, List.length_range]; exact Nat.le_trans (Nat.div_le_self _ _) (Nat.le_trans hn (by decide)), by decide, ?_⟩
    refine plc_map (fun x => match x with | .int i => ndV (joinN (ns.getD i.toNat (0, [])) (ns.getD (i.toNat + 1) (0, []))) | _ => .non) (fun x hx K1 K' k => ?_) ?_
    · obtain ⟨i, hi, rfl⟩ := List.mem_map.mp hx
      rw [List.mem_range] at hi
      have h1 : 2 * i + 1 < ns.length := by omega
      have g0 : ns[2 * i]? = some (ns.getD (2 * i) (0, [])) := by rw [List.getD_eq_getElem?_getD, List.getElem?_eq_getElem (by omega)]; rfl
      have g1 : ns[2 * i + 1]? = some (ns.getD (2 * i + 1) (0, [])) := by rw [List.getD_eq_getElem?_getD, List.getElem?_eq_getElem h1]; rfl
      have e0 : (0 + (i : Int) * 2).toNat = 2 * i := by omega
      simp only [e0] at k
      generalize ns.getD (2 * i) (0, []) = a at *
      generalize ns.getD (2 * i + 1) (0, []) = b at *
      have a0 : atI (ns.map ndV) (0 + (i : Int) * 2) = some (ndV a) := atI_map (by omega) g0
      have a1 : atI (ns.map ndV) (0 + (i : Int) * 2 + 1) = some (ndV b) := atI_map (by omega) g1
      have la : a.2.length ≤ 1000 := hs a (List.mem_of_getElem? g0)
      have lb : b.2.length ≤ 1000 := hs b (List.mem_of_getElem? g1)
      refine ⟨rfl, _, _, _, rfl, rfl, a0, _, rfl, rfl, _, _, _, rfl, rfl, a1, _, rfl, ?_⟩
      refine ⟨rfl, _, _, _, rfl, rfl, a0, _, rfl, rfl, _, _, _, rfl, rfl, a1, _, rfl, by rw [List.length_map, List.length_map]; exact Nat.le_trans (Nat.add_le_add la lb) (by decide), ?_⟩
      rw [← List.map_append]
      refine ⟨_, rfl, okS _, _, rfl, ?_⟩
      rw [sortP_pn]
      exact ⟨by show 2 ≤ sizeLine; decide, k⟩
    · have e : (rangeC 0 2 (ns.length / 2)).map (fun x => match x with | .int i => ndV (joinN (ns.getD i.toNat (0, [])) (ns.getD (i.toNat + 1) (0, []))) | _ => .non) = (pairs ns).map ndV := by
        unfold rangeC pairs
        rw [List.map_map, List.map_map]
        apply List.map_congr_left
        intro i _
        show ndV (joinN (ns.getD (0 + (i : Int) * 2).toNat (0, [])) (ns.getD ((0 + (i : Int) * 2).toNat + 1) (0, []))) = _
        rw [show (0 + (i : Int) * 2).toNat = 2 * i by omega]
        rfl
      show Qp (.lst ([] ++ _))
      rw [List.nil_append, e]
      exact q
end
end Z

set_option Elab.async false
set_option linter.all false
set_option maxRecDepth 100000
set_option maxHeartbeats 4000000
set_option synthInstance.maxHeartbeats 4000000
set_option synthInstance.maxSize 100000
namespace Z
open PySem L2 XV KR PL LamX
section

theorem fVar_at {i : Nat} {env : PEnv} {lv : SV} {x : PV} {Q : PV → PEnv → Prop} (h : env[i]? = some (some lv)) (e : lv.pv = x) (q : Q x (env.set i (some (.fr x)))) : fVar i env Q := by
  unfold fVar
  rw [h]
  cases lv with
  | fr y =>
    cases e
    have : env.set i (some (.fr y)) = env := by
      obtain ⟨hi, e⟩ := List.getElem?_eq_some_iff.mp h
      have e' : some (SV.fr y) = env[i] := e.symm
      show env.set i (some (.fr y)) = env
      rw [e', List.set_getElem_self]
    exact this ▸ q
  | ol xs => cases e; exact q
  | oK ks xs => cases e; exact q
  | oT ks xs => cases e; exact q
/-! packed -/
noncomputable def pairsR : List Nd → List Nd
  | a :: b :: t => joinN a b :: pairsR t
  | _ => []
theorem pairs_eq : ∀ ns : List Nd, pairs ns = pairsR ns
  | [] => rfl
  | [_] => by simp [pairs, pairsR]
  | a :: b :: t => by
    rw [pairsR, ← pairs_eq t]
    unfold pairs
    rw [show (a :: b :: t).length / 2 = t.length / 2 + 1 by simp only [List.length_cons]; omega, List.range_succ_eq_map, List.map_cons, List.map_map]
    congr 1
def wt (ns : List Nd) : Nat := (ns.map fun n => n.2.length).sum
theorem wt_cons (a : Nd) (t : List Nd) : wt (a :: t) = a.2.length + wt t := by unfold wt; rw [List.map_cons, List.sum_cons]
theorem wt_append (a b : List Nd) : wt (a ++ b) = wt a + wt b := by unfold wt; rw [List.map_append, List.sum_append]
theorem wt_perm {a b : List Nd} (h : a.Perm b) : wt a = wt b := by
  induction h with
  | nil => rfl
  | cons x _ ih => rw [wt_cons, wt_cons, ih]
  | swap x y l => rw [wt_cons, wt_cons, wt_cons, wt_cons]; omega
  | trans _ _ h1 h2 => exact h1.trans h2
theorem joinN_len (a b : Nd) : (joinN a b).2.length = a.2.length + b.2.length := by
  show (sortS (a.2 ++ b.2)).length = _
  rw [(sortS_perm _).length_eq, List.length_append]
theorem wt_pairs : ∀ ns : List Nd, wt (pairsR ns) ≤ wt ns
  | [] => Nat.le_refl _
  | [_] => Nat.zero_le _
  | a :: b :: t => by
    have := wt_pairs t
    rw [pairsR, wt_cons, wt_cons, wt_cons, joinN_len]
    omega
def Full (ns : List Nd) : Prop := ∀ n ∈ ns, 1 ≤ n.2.length
theorem Full.pairs : ∀ {ns : List Nd}, Full ns → Full (pairsR ns)
  | [], _ => fun _ h => nomatch h
  | [_], _ => fun _ h => nomatch h
  | a :: b :: t, h => fun n hn => by
    rw [pairsR] at hn
    rcases List.mem_cons.mp hn with rfl | hn
    · rw [joinN_len]
      have := h a (List.mem_cons_self ..)
      omega
    · exact Full.pairs (fun m hm => h m (List.mem_cons_of_mem _ (List.mem_cons_of_mem _ hm))) n hn
theorem Full.len : ∀ {ns : List Nd}, Full ns → ns.length ≤ wt ns
  | [], _ => Nat.zero_le _
  | a :: t, h => by
    have := Full.len (ns := t) fun m hm => h m (List.mem_cons_of_mem _ hm)
    have := h a (List.mem_cons_self ..)
    rw [wt_cons, List.length_cons]
    omega
theorem Full.perm {a b : List Nd} (h : a.Perm b) (f : Full b) : Full a := fun n hn => f n (h.mem_iff.mp hn)
theorem Full.one {ns : List Nd} (f : Full ns) {B : Nat} (h : wt ns ≤ B) : ∀ n ∈ ns, n.2.length ≤ B := fun n hn => by
  refine Nat.le_trans ?_ h
  clear h f
  induction ns with
  | nil => cases hn
  | cons a t ih =>
    rw [wt_cons]
    rcases List.mem_cons.mp hn with rfl | hn
    · exact Nat.le_add_right _ _
    · exact Nat.le_trans (ih hn) (Nat.le_add_left _ _)
/-- the levels, the one at the top first -/
noncomputable def lv : List (List Nd) → List (List Nd)
  | [] => []
  | g :: t => sortNd (g ++ pairsR ((lv t).headD [])) :: lv t
theorem lv_len : ∀ gs, (lv gs).length = gs.length
  | [] => rfl
  | g :: t => by rw [lv, List.length_cons, lv_len t, List.length_cons]
def wts (gs : List (List Nd)) : Nat := (gs.map wt).sum
theorem lv_head : ∀ {gs : List (List Nd)}, (∀ g ∈ gs, Full g) → Full ((lv gs).headD []) ∧ wt ((lv gs).headD []) ≤ wts gs
  | [], _ => ⟨(fun _ h => nomatch h), Nat.le_refl _⟩
  | g :: t, h => by
    obtain ⟨f, l⟩ := lv_head (gs := t) fun x hx => h x (List.mem_cons_of_mem _ hx)
    show Full (sortNd (g ++ pairsR ((lv t).headD []))) ∧ wt (sortNd (g ++ pairsR ((lv t).headD []))) ≤ wts (g :: t)
    have p := sortNd_perm (g ++ pairsR ((lv t).headD []))
    refine ⟨.perm p fun n hn => ?_, ?_⟩
    · rcases List.mem_append.mp hn with hn | hn
      · exact h g (List.mem_cons_self ..) n hn
      · exact f.pairs n hn
    · rw [wt_perm p, wt_append]
      have := wt_pairs ((lv t).headD [])
      unfold wts at *
      rw [List.map_cons, List.sum_cons]
      omega
def rowV (r : List Nd) : PV := .lst (r.map ndV)
structure GOk (gs : List (List Nd)) : Prop where
  f : ∀ g ∈ gs, Full g
  w : wts gs ≤ 1000
  l : gs.length ≤ 1000
theorem wts_append (a b : List (List Nd)) : wts (a ++ b) = wts a + wts b := by unfold wts; rw [List.map_append, List.sum_append]
theorem GOk.drop {gs : List (List Nd)} (h : GOk gs) (i : Nat) : GOk (gs.drop i) :=
  ⟨fun g hg => h.f g (List.mem_of_mem_drop hg), by have := wts_append (gs.take i) (gs.drop i); rw [List.take_append_drop] at this; have := h.w; omega, by rw [List.length_drop]; have := h.l; omega⟩

variable {P : Program} {w : World} {K : PySem.W.Frag} {mg : Str → Option Value} {base : Heap} {A : Ad}
theorem sc_packed : FnScope ["groups", "rows", "nodes", "group"] ["groups"] (defScope s_packed) := ⟨rfl, rfl, rfl, by decide +kernel, rfl, by decide +kernel, by decide +kernel⟩
def pPacked : List PV → (PV → Prop) → (Addr → List (Str × PV) → Prop) → Prop := fun xs Q _ => ∃ gs : List (List Nd), xs = [.lst (gs.map rowV)] ∧ GOk gs ∧ Q (.lst ((lv gs).map rowV))
theorem ok_packed (T : Txt K mg A) : FnOk P w K mg base CX0 2 A.a_packed A.d_packed ["groups"] (spP pPacked) := by
  have G_paired := ok_paired (P := P) (w := w) (base := base) T
  refine T.F_packed.ok sc_packed (fun vs H Q E h => spP_len (n := 1) h fun xs Qp Ep q => ?_) (fun cdv Ar outer s H vs Q E hr h => ?_)
  · obtain ⟨gs, rfl, hg, q⟩ := q; rfl
  · refine ⟨_, (pss_cons (ps_set (i := 1) sc_packed.nd rfl (Or.inl rfl) (pe_lst pa_nil))
      (pss_cons (ps_set (i := 2) sc_packed.nd rfl (Or.inl rfl) (pe_lst pa_nil))
      (pss_cons (ps_for PassesOwn.never rfl (pi_reversed (by rfl) T.z_reversed (pa_cons (pv 0) pa_nil)) (pg_name (i := 3) sc_packed.nd rfl (Or.inl rfl))
         (pss_cons (ps_set (i := 2) sc_packed.nd rfl (Or.inl rfl) (pe_callB (call_sortD hr.units) (by rfl) T.z_sorted (show PySem.bootBuiltins "sorted" = some (.builtin "sorted") by decide +kernel) (pa_cons (pe_lst (pa_starK (K := K) rfl (pv 3) (pa_starK (K := K) rfl (pe_call G_paired (hr.mono (by decide)) (by rfl) T.g_paired T.F_paired.kp T.b_paired .nil pass0 (pa_cons (pv 2) pa_nil)) pa_nil))) pa_nil)))
         (pss_one (ps_expr (pe_bm PySem.F.plainAttrs_list PySem.F.slot_list_append PySem.F.type_list_append mt_append (pv 1) (pa_cons (pv 2) pa_nil))))))
      (pss_one (ps_ret (pe_listRev (by rfl) (by rfl) T.z_list (by rfl) T.z_reversed (pv 1))))))), ?_⟩
    refine def_end2 (N := ["groups", "rows", "nodes", "group"]) K h fun S xs Qp hK hE q => ⟨_, inferInstance, ?_⟩
    obtain ⟨gs, rfl, hg, q⟩ := q
    change fSeq _ _ _ [some (.fr (.lst (gs.map rowV))), none, none, none]
    simp only [fSeq, fSet, fOfE, fOp, fUn, fIU, fVar, fC, fII, fIB, fIIc, fIxT, fIxL, fLst, fLstO, fCons, fTup, fNil, fB, fTrue, fgName, fgTup, fgCons, fgNil, fIt, fRng3, fRng2, fRng1, fLc2O, fLc2L, fLcO, fLc, fLcL, fRet, fCB, fStar, fCall, wipeE, List.getElem?_cons_zero, List.getElem?_cons_succ, List.set_cons_zero, List.set_cons_succ, SV.pv, PV.seq, fRev]
    refine ⟨by decide, by decide, ?_⟩
    show pfor _ _ _ (gs.map rowV).reverse _
    refine pfor_inv (fun i env => ∃ sv z, env = [some (.fr (.lst (gs.map rowV))), some (.ol ((lv (gs.drop (gs.length - i))).map rowV).reverse), some sv, z] ∧ sv.pv = rowV ((lv (gs.drop (gs.length - i))).headD [])) ?_ (fun i x env hx hI Nx hN => ?_) (fun env hI => ?_)
    · refine ⟨.ol [], none, ?_, ?_⟩
      · rw [Nat.sub_zero, List.drop_length]; rfl
      · rw [Nat.sub_zero, List.drop_length]; rfl
    · obtain ⟨sv, z, rfl, hsv⟩ := hI
      have hi : i < gs.length := by
        have := (List.getElem?_eq_some_iff.mp hx).1
        simpa using this
      have e : gs.drop (gs.length - (i + 1)) = gs[gs.length - 1 - i] :: gs.drop (gs.length - i) := by
        rw [show gs.length - (i + 1) = gs.length - 1 - i by omega, List.drop_eq_getElem_cons (by omega), show gs.length - 1 - i + 1 = gs.length - i by omega]
      have ex : x = rowV gs[gs.length - 1 - i] := by
        rw [List.getElem?_reverse (by rw [List.length_map]; exact hi), List.length_map, List.getElem?_map, List.getElem?_eq_getElem (by omega)] at hx
        exact (Option.some.inj hx).symm
      have G := hg.drop (gs.length - (i + 1))
      have gf := lv_head (hg.drop (gs.length - i)).f
      have gw := (hg.drop (gs.length - i)).w
      have Gw := G.w
      have Gf : Full gs[gs.length - 1 - i] := G.f _ (by rw [e]; exact List.mem_cons_self ..)
      have h1 : lv (gs.drop (gs.length - (i + 1))) = sortNd (gs[gs.length - 1 - i] ++ pairsR ((lv (gs.drop (gs.length - i))).headD [])) :: lv (gs.drop (gs.length - i)) := by rw [e, lv]
      have hl : (lv (gs.drop (gs.length - i))).length ≤ 1000 := by rw [lv_len, List.length_drop]; have := hg.l; omega
      have gl : gs[gs.length - 1 - i].length + (pairsR ((lv (gs.drop (gs.length - i))).headD [])).length ≤ 2000 := by
        have a1 := Gf.len
        have a2 := gf.1.pairs.len
        have a3 := wt_pairs ((lv (gs.drop (gs.length - i))).headD [])
        rw [e] at Gw
        unfold wts at Gw
        rw [List.map_cons, List.sum_cons] at Gw
        omega
      have hN' := hN
      simp only [h1] at hN'
      clear hN h1 hx e G
      subst ex
      generalize gs[gs.length - 1 - i] = g at *
      generalize hr : (lv (gs.drop (gs.length - i))).headD [] = r at *
      generalize lv (gs.drop (gs.length - i)) = R at *
      have gr1 : r.length ≤ 1000 := Nat.le_trans gf.1.len (Nat.le_trans gf.2 gw)
      have gr2 := gf.1.one (Nat.le_trans gf.2 gw)
      refine ⟨_, rfl, ?_⟩
      refine fVar_at rfl hsv ?_
      refine ⟨r, rfl, gr1, gr2, _, rfl, ?_⟩
      simp only [fNil, List.append_nil]
      rw [pairs_eq, ← List.map_append]
      refine ⟨by rw [List.length_map, List.length_append]; exact Nat.le_trans gl (by decide), _, rfl, okNd _, ?_⟩
      rw [sortP_nd]
      refine ⟨⟨_, rfl⟩, _, rfl, by rw [List.length_reverse, List.length_map]; exact Nat.lt_of_le_of_lt hl (by decide), hN' _ ⟨.fr (.lst ((sortNd (g ++ pairsR r)).map ndV)), some (.fr (rowV g)), ?_, rfl⟩⟩
      rw [List.map_cons, List.reverse_cons]
      rfl
    · obtain ⟨sv, z, rfl, hsv⟩ := hI
      rw [List.length_reverse, List.length_map, Nat.sub_self, List.drop_zero]
      show Qp (.lst (((lv gs).map rowV).reverse).reverse)
      rw [List.reverse_reverse]
      exact q
end
end Z

set_option Elab.async false
set_option linter.all false
set_option maxRecDepth 100000
set_option maxHeartbeats 4000000
set_option synthInstance.maxHeartbeats 4000000
set_option synthInstance.maxSize 100000
namespace Z
open PySem L2 XV KR PL LamX
section

/-! lighter_above -/
def tupV (r : List Nd) : PV := .tup (r.map ndV)
def fst0 (r : List Nd) : Int := (r.headD (0, [])).1
def lst0 (r : List Nd) : Int := (r.getLastD (0, [])).1
def abv : Nat → List (List Nd) → Option Nat
  | i, r :: s :: t => if fst0 r < lst0 s then some i else abv (i + 1) (s :: t)
  | _, _ => none
def abvV : Option Nat → PV
  | some i => .int (i : Int)
  | none => .non
theorem at_first {r : List Nd} (h : r ≠ []) : atI (r.map ndV) 0 = some (ndV (r.headD (0, []))) := by
  match r, h with
  | a :: t, _ => exact atI_map (n := 0) rfl rfl
theorem at_last {r : List Nd} (h : r ≠ []) : atI (r.map ndV) (-1) = some (ndV (r.getLastD (0, []))) := by
  have hl := List.length_pos_iff.mpr h
  unfold atI ixN
  rw [if_neg (by decide), if_pos (by rw [List.length_map]; omega)]
  show (r.map ndV)[(-1 + ((r.map ndV).length : Int)).toNat]? = _
  rw [List.length_map, show (-1 + (r.length : Int)).toNat = r.length - 1 by omega, List.getElem?_map, ← List.getLast?_eq_getElem?]
  rw [List.getLast?_eq_some_getLast h, List.getLastD_eq_getLast?, List.getLast?_eq_some_getLast h]
  rfl

variable {P : Program} {w : World} {K : PySem.W.Frag} {mg : Str → Option Value} {base : Heap} {A : Ad}
theorem sc_lighterabove : FnScope ["rows", "level"] ["rows"] (defScope s_lighterabove) := ⟨rfl, rfl, rfl, by decide +kernel, rfl, by decide +kernel, by decide +kernel⟩
def pAbv : List PV → (PV → Prop) → (Addr → List (Str × PV) → Prop) → Prop := fun xs Q _ => ∃ rs : List (List Nd), xs = [.tup (rs.map tupV)] ∧ (∀ r ∈ rs, r ≠ []) ∧ rs.length ≤ 1000 ∧ Q (abvV (abv 0 rs))
theorem ok_lighterabove (T : Txt K mg A) : FnOk P w K mg base CX0 1 A.a_lighterabove A.d_lighterabove ["rows"] (spP pAbv) := by
  refine T.F_lighterabove.ok sc_lighterabove (fun vs H Q E h => spP_len (n := 1) h fun xs Qp Ep q => ?_) (fun cdv Ar outer s H vs Q E hr h => ?_)
  · obtain ⟨rs, rfl, hr0, hl, q⟩ := q; rfl
  · refine ⟨_, (pss_cons (ps_for PassesOwn.never rfl (pi_range1 (by rfl) T.z_range (pa_cons (pe_op op_sub (pe_callB call_len_seq (by rfl) T.z_len PySem.boot_len (pa_cons (pv 0) pa_nil)) pe_int) pa_nil)) (pg_name (i := 1) sc_lighterabove.nd rfl (Or.inl rfl))
         (pss_one (ps_if (pt_cmpR op_lt (pe_ix ix_tup (pe_ix ix_tup (pe_ix ix_tup (pv 0) (pv 1) (fun _ _ => rfl)) pe_int (fun _ _ => rfl)) pe_int (fun _ _ => rfl)) (pe_ix ix_tup (pe_ix ix_tup (pe_ix ix_tup (pv 0) (pe_op op_add (pv 1) pe_int) (fun _ _ => rfl)) (pe_un un_neg pe_int) (fun _ _ => rfl)) pe_int (fun _ _ => rfl)) (nomark _)) (pss_one (ps_ret (pv 1)))
           pss_nil)))
      (pss_one (ps_ret pe_non))), ?_⟩
    refine def_end2 (N := ["rows", "level"]) K h fun S xs Qp hK hE q => ⟨_, inferInstance, ?_⟩
    obtain ⟨rs, rfl, hr0, hl, q⟩ := q
    change fSeq _ _ _ [some (.fr (.tup (rs.map tupV))), none]
    simp only [fSeq, fSet, fOfE, fOp, fUn, fIU, fVar, fC, fII, fIB, fIIc, fIxT, fIxL, fLst, fLstO, fCons, fTup, fNil, fB, fTrue, fgName, fgTup, fgCons, fgNil, fIt, fRng3, fRng2, fRng1, fLc2O, fLc2L, fLcO, fLc, fLcL, fRet, fCB, fStar, fCall, wipeE, List.getElem?_cons_zero, List.getElem?_cons_succ, List.set_cons_zero, List.set_cons_succ, SV.pv, PV.seq, fIfS]
    have ml : (rs.map tupV).length = rs.length := List.length_map ..
    change -(2 ^ 62) ≤ ((rs.map tupV).length : Int) - 1 ∧ ((rs.map tupV).length : Int) - 1 < 2 ^ 62 ∧ pfor _ _ _ (rangeP 0 (((rs.map tupV).length : Int) - 1).toNat) _
    rw [ml]
    refine ⟨by omega, by omega, ?_⟩
    refine pfor_inv (fun i env => ∃ z, env = [some (.fr (.tup (rs.map tupV))), z] ∧ abv i (rs.drop i) = abv 0 rs) ⟨_, rfl, rfl⟩ (fun i x env hx hI Nx hN => ?_) (fun env hI => ?_)
    · obtain ⟨z, rfl, ha⟩ := hI
      have hi : i + 1 < rs.length := by
        have := (List.getElem?_eq_some_iff.mp hx).1
        rw [rangeP, List.length_map, List.length_range] at this
        omega
      have ex : x = .int (0 + (i : Int)) := by
        rw [rangeP, List.getElem?_map, List.getElem?_range (by omega)] at hx
        exact (Option.some.inj hx).symm
      subst ex
      have g0 : rs[i]? = some rs[i] := List.getElem?_eq_getElem (by omega)
      have g1 : rs[i + 1]? = some rs[i + 1] := List.getElem?_eq_getElem hi
      have e : rs.drop i = rs[i] :: rs[i + 1] :: rs.drop (i + 2) := by rw [List.drop_eq_getElem_cons (by omega), List.drop_eq_getElem_cons (by omega)]
      have n0 := hr0 _ (List.mem_of_getElem? g0)
      have n1 := hr0 _ (List.mem_of_getElem? g1)
      have ea : abv i (rs.drop i) = if fst0 rs[i] < lst0 rs[i + 1] then some i else abv (i + 1) (rs.drop (i + 1)) := by
        rw [e, abv, ← List.drop_eq_getElem_cons (by omega)]
      generalize rs[i] = a at *
      generalize rs[i + 1] = b at *
      refine ⟨_, atI_map (n := i) (by omega) g0, _, at_first n0, _, rfl, _, atI_map (n := i + 1) (by omega) g1, _, at_last n1, _, rfl, ?_⟩
      show if decide (fst0 a < lst0 b) = true then _ else _
      by_cases c : fst0 a < lst0 b
      · rw [if_pos (decide_eq_true c)]
        rw [if_pos c] at ea
        show Qp (.int (0 + (i : Int)))
        rw [← ha, ea] at q
        rw [Int.zero_add]
        exact q
      · rw [if_neg (by rw [decide_eq_false c]; decide)]
        rw [if_neg c] at ea
        exact hN _ ⟨_, rfl, ea.symm.trans ha⟩
    · obtain ⟨z, rfl, ha⟩ := hI
      rw [rangeP, List.length_map, List.length_range] at ha
      have : abv 0 rs = none := by
        rw [← ha]
        have : (rs.drop ((rs.length : Int) - 1).toNat).length ≤ 1 := by rw [List.length_drop]; omega
        match rs.drop ((rs.length : Int) - 1).toNat, this with
        | [], _ => rfl
        | [_], _ => rfl
      rw [this] at q
      exact q
end
end Z

set_option Elab.async false
set_option linter.all false
set_option maxRecDepth 100000
set_option maxHeartbeats 4000000
/-! lists within a list, filled by a loop: groups = [[] for _ in ..]; for s, l in ..: if s != c: groups[l].append(s) -/
namespace PL
open PySem L2
structure Nest (S : Sit) (O : Addr → Prop) (H : Hp) (D : Addr) (ps : List Addr) (g : Nat → List Nat) : Prop where
  d : H D = some (.lst (ps.map V.ref))
  oD : O D
  nD : S.H0 D = none
  nd : ps.Nodup
  dn : D ∉ ps
  at' : ∀ j p, ps[j]? = some p → O p ∧ S.H0 p = none ∧ H p = some (.lst ((g j).map fun s => V.int (s : Nat)))
section
variable {S : Sit} {O O' : Addr → Prop} {H H' : Hp} {D : Addr} {ps : List Addr} {g : Nat → List Nat}
def NoOwn (env : PEnv) : Prop := ∀ (i : Nat) (sv : SV), env[i]? = some (some sv) → sv.own = false
theorem NoOwn.ne {env : PEnv} (h : NoOwn env) {σ : St} (a : Addr) : ∀ (i : Nat) (sv : SV), env[i]? = some (some sv) → sv.own = true → σ[i]? ≠ some (some (.ref a)) := fun i sv e o => by rw [h i sv e] at o; cases o
theorem Nest.lt (N : Nest S O H D ps g) {σ : St} {env env' : PEnv} (h : NoOwn env) (L : Lt S σ O env H O' env' H') : Nest S O' H' D ps g :=
  ⟨(L.loose D _ N.oD N.nD (h.ne D) N.d).2, (L.loose D _ N.oD N.nD (h.ne D) N.d).1, N.nD, N.nd, N.dn, fun j p e => let ⟨a, b, c⟩ := N.at' j p e; let ⟨x, y⟩ := L.loose p _ a b (h.ne p) c; ⟨x, b, y⟩⟩
theorem Nest.same (N : Nest S O H D ps g) (s : Same H H') : Nest S O H' D ps g :=
  ⟨s _ _ N.d, N.oD, N.nD, N.nd, N.dn, fun j p e => let ⟨a, b, c⟩ := N.at' j p e; ⟨a, b, s _ _ c⟩⟩
/-- one more -/
theorem Nest.more (N : Nest S O H D ps fun _ => []) {p : Addr} (hp : H p = none) (np : S.H0 p = none) : Nest S (fun a => O a ∨ a = p) (upd (upd H p (.lst [])) D (.lst (ps.map V.ref ++ [V.ref p]))) D (ps ++ [p]) fun _ => [] := by
  have pD : p ≠ D := fun e => by have h := N.d; rw [← e, hp] at h; cases h
  have np' : p ∉ ps := fun h => by
    obtain ⟨j, e⟩ := List.mem_iff_getElem?.mp h
    have := (N.at' j p e).2.2
    rw [hp] at this; cases this
  refine ⟨by rw [upd_same, List.map_append]; rfl, .inl N.oD, N.nD, ?_, ?_, fun j q e => ?_⟩
  · rw [List.nodup_append]
    exact ⟨N.nd, by simp, fun a ha b hb => by rw [List.mem_singleton.mp hb]; exact fun z => np' (z ▸ ha)⟩
  · intro h
    rcases List.mem_append.mp h with h | h
    · exact N.dn h
    · exact pD (List.mem_singleton.mp h).symm
  · by_cases hj : j < ps.length
    · rw [List.getElem?_append_left hj] at e
      obtain ⟨a, b, c⟩ := N.at' j q e
      have q1 : q ≠ D := fun z => N.dn (z ▸ List.mem_of_getElem? e)
      have q2 : q ≠ p := fun z => np' (z ▸ List.mem_of_getElem? e)
      exact ⟨.inl a, b, by rw [upd_ne q1, upd_ne q2]; exact c⟩
    · rw [List.getElem?_append_right (by omega)] at e
      have : q = p := by
        have := List.mem_of_getElem? e
        exact List.mem_singleton.mp this
      subst this
      exact ⟨.inr rfl, np, by rw [upd_ne pD, upd_same]; rfl⟩
/-- one list is changed -/
theorem Nest.put (N : Nest S O H D ps g) {j : Nat} {p : Addr} (e : ps[j]? = some p) {l : List Nat} {g' : Nat → List Nat} (hg : ∀ i, g' i = if i = j then l else g i) : Nest S O (upd H p (.lst (l.map fun s => V.int (s : Nat)))) D ps g' := by
  have q1 : D ≠ p := fun z => N.dn (z ▸ List.mem_of_getElem? e)
  refine ⟨by rw [upd_ne q1]; exact N.d, N.oD, N.nD, N.nd, N.dn, fun i q e' => ?_⟩
  obtain ⟨a, b, c⟩ := N.at' i q e'
  refine ⟨a, b, ?_⟩
  rw [hg]
  by_cases hi : i = j
  · subst hi
    rw [e] at e'
    cases e'
    rw [upd_same, if_pos rfl]
  · have : q ≠ p := fun z => by
      subst z
      obtain ⟨h1, h2⟩ := List.getElem?_eq_some_iff.mp e
      obtain ⟨h3, h4⟩ := List.getElem?_eq_some_iff.mp e'
      exact hi ((List.getElem_inj N.nd).mp (h4.trans h2.symm))
    rw [upd_ne this, if_neg hi]
    exact c
theorem Reps.refs {F : Fz} : ∀ (ps : List Addr) (k : Nat) (f : Nat → PV), (∀ j p, ps[j]? = some p → Rep F (f (k + j)) (.ref p)) → Reps F ((List.range ps.length).map fun j => f (k + j)) (ps.map V.ref)
  | [], _, _, _ => trivial
  | p :: ps, k, f, h => by
    rw [List.length_cons, List.range_succ_eq_map, List.map_cons, List.map_map]
    refine ⟨h 0 p rfl, ?_⟩
    have := Reps.refs ps (k + 1) f fun j q e => by have := h (j + 1) q e; rwa [show k + (j + 1) = k + 1 + j by omega] at this
    rw [show (List.range ps.length).map ((fun j => f (k + j)) ∘ Nat.succ) = (List.range ps.length).map fun j => f (k + 1 + j) from List.map_congr_left fun j _ => by show f (k + (j + 1)) = _; rw [show k + (j + 1) = k + 1 + j by omega]]
    exact this
theorem Reps.nats {F : Fz} : ∀ l : List Nat, Reps F (l.map fun s => PV.int (s : Nat)) (l.map fun s => V.int (s : Nat))
  | [] => trivial
  | x :: l => ⟨(rfl : V.int _ = V.int _), Reps.nats l⟩
theorem Rel.putN {env : PEnv} {σ : St} (R : Rel S O env σ H) {i : Nat} (e : env[i]? = some none) (v : V) : Rel S O env (σ.set i (some v)) H :=
  ⟨R.ok, R.fr, R.o0, R.oH, fun j sv ej => by
    have : i ≠ j := fun z => by subst z; rw [e] at ej; cases ej
    rw [List.getElem?_set_ne this]; exact R.slot j sv ej,
    fun j k sv sw l hjk e1 e2 w1 w2 e3 => by
      have h1 : i ≠ j := fun z => by subst z; rw [e] at e1; cases e1
      have h2 : i ≠ k := fun z => by subst z; rw [e] at e2; cases e2
      rw [List.getElem?_set_ne h1] at e3
      rw [List.getElem?_set_ne h2]
      exact R.apart j k sv sw l hjk e1 e2 w1 w2 e3, by rw [List.length_set]; exact R.len⟩
/-- the end: all stands still -/
theorem Nest.rep (N : Nest S O H D ps g) (ok : S.Ok) : Rep (fz S.O0 H) (.lst ((List.range ps.length).map fun j => .lst ((g j).map fun s => PV.int (s : Nat)))) (.ref D) := by
  have no : ∀ a, S.H0 a = none → ¬ S.O0 a := fun a n o => by
    obtain ⟨x, e⟩ := ok.oH a o
    rw [n] at e; cases e
  refine ⟨D, ps.map V.ref, rfl, ⟨no D N.nD, .of N.d⟩, ?_⟩
  have := Reps.refs (F := fz S.O0 H) ps 0 (fun j => .lst ((g j).map fun s => PV.int (s : Nat))) fun j p e => by
    obtain ⟨a, b, c⟩ := N.at' j p e
    rw [Nat.zero_add]
    exact ⟨p, _, rfl, ⟨no p b, .of c⟩, Reps.nats _⟩
  simpa only [Nat.zero_add] using this

/-- lists within a list, as they are filled -/
def grpAt (L : List Nat) (k j : Nat) : List Nat := (List.range k).filter fun i => decide (L.getD i 0 = j)
theorem grpAt_succ (L : List Nat) (k j : Nat) : grpAt L (k + 1) j = if j = L.getD k 0 then grpAt L k j ++ [k] else grpAt L k j := by
  unfold grpAt
  rw [List.range_succ, List.filter_append]
  by_cases h : j = L.getD k 0
  · rw [if_pos h]
    simp [h]
  · rw [if_neg h]
    have : decide (L.getD k 0 = j) = false := decide_eq_false fun z => h z.symm
    rw [List.filter_cons, this]
    simp
abbrev tNest (K K2 K3 : PySem.W.Frag) (n : Nat) (wi wj : TI) (vs : List Nat) : TS := tSeq (tAsg (tLc wi (gName 5) tYes (tLst tNil) vs) (gName 2)) (tSeq (tFor wj (gTup K n (gCons (gName 3) (gCons (gName 4) gNil))) (tIfS (tTest (tOp rNe (tVar 3) (tVar 1))) (tDrop (tBM K2 "list" rAppend (tOp (rIxL K3) (tVar 2) (tVar 4)) (tCons (tVar 3) tNil))) tNext)) (tRet (tVar 2)))
abbrev nEnv (c : PV) (a b : Option SV) : PEnv := [some (.fr c), some (.fr .non), none, a, b, none]
theorem nEnv_no {c : PV} {a b : Option SV} (ha : ∀ sv, a = some sv → sv.own = false) (hb : ∀ sv, b = some sv → sv.own = false) : NoOwn (nEnv c a b) := fun i sv e => by
  match i, e with
  | 0, e => cases e; rfl
  | 1, e => cases e; rfl
  | 2, e => cases e
  | 3, e => exact ha sv (Option.some.inj e)
  | 4, e => exact hb sv (Option.some.inj e)
  | 5, e => cases e
  | n + 6, e => simp [nEnv] at e
theorem tNest_snd {K K2 K3 : PySem.W.Frag} {wi wj : TI} {fi fj : FI} [hi : PureI S wi fi] [hj : PureI S wj fj] {c : PV} {σ : St} {Dn : Ends} {L : List Nat} {n : Nat} (R : Rel S O (nEnv c none none) σ H)
    (hfi : fi (nEnv c none none) fun xs env1 => xs.length = n ∧ xs.length ≤ sizeLine ∧ env1 = nEnv c none none) (hfj : fj (nEnv c none none) fun ys env1 => ys = enumP (L.map fun l => PV.int (l : Nat)) ∧ env1 = nEnv c none none) (hL : ∀ l ∈ L, l < n) (hs : L.length < sizeLine)
    (kr : ∀ v H' O', S.Fr H' → Le (fzr O H) (fzr O' H') → Rep (fz S.O0 H') (.lst ((List.range n).map fun j => .lst ((grpAt L L.length j).map fun s => PV.int (s : Nat)))) v → Dn.rt v H') :
    tNest K K2 K3 2 wi wj [5] Dn σ H := by
  have no0 : NoOwn (nEnv c none none) := nEnv_no (fun _ z => nomatch z) (fun _ z => nomatch z)
  have l6 : σ.length = 6 := R.len.symm
  refine hi.snd R hfi fun J xs env1 H1 O1 R1 L1 W ⟨hn, hz, he⟩ D hD => ?_
  subst he
  obtain ⟨m, G, Y, w, rfl, hG, hY⟩ := W.ex
  refine lc_it w (fun i Hc => ∃ O' ps, Rel S O' (nEnv c none none) (wipe σ [5]) Hc ∧ Le (fzr O1 H1) (fzr O' Hc) ∧ Nest S O' Hc D ps (fun _ => []) ∧ ps.length = i) ?_ ?_ ?_ ?_
  · obtain ⟨R2, L2⟩ := R1.hold hD (.lst []) trivial
    exact ⟨_, [], R2.wipe [5], L2.raw, ⟨upd_same, .inr rfl, R1.new0 hD, .nil, by simp, fun j p e => by simp at e⟩, rfl⟩
  · rintro i Hc _ ⟨O', ps, R', L', _⟩
    exact hG Hc fun a o z => (L'.fz a o z).2
  · rintro i v Hc H2 hi' ⟨O', ps, R', L', N, hp⟩ y
    obtain ⟨sm, x, ex, rx⟩ := hY i Hc O' v H2 hi' L'.fz R'.oH y
    have R2 := R'.same sm
    have N2 := N.same sm
    refine ⟨by simp [wipe], ?_⟩
    refine ⟨Nat.zero_le _, fun p hp' => ⟨ps.map V.ref, ?_, ?_, ?_⟩⟩
    · have : D ≠ p := fun z => by have h := N2.d; rw [z, hp'] at h; cases h
      rw [upd_ne this]; exact N2.d
    · rw [List.length_map]; omega
    · obtain ⟨R3, L3⟩ := R2.hold hp' (.lst []) trivial
      have N3 := N2.more hp' (R2.new0 hp')
      refine ⟨_, ps ++ [p], R3.poke (.inl N2.oD) N2.nD (no0.ne D) _ trivial, ?_, N3, by rw [List.length_append, hp]; rfl⟩
      refine (L'.trans (raw_same sm)).trans (L3.raw.trans fun a o ⟨h1, h2⟩ => ⟨h1, ?_⟩)
      rw [upd_ne (fun z : a = D => by subst z; exact h1 (.inl N2.oD))]
      exact h2
  · rintro Hc ⟨O', ps, R', L', N, hp⟩
    have R2 := (R'.unwipe l6.symm).putN (i := 2) rfl (.ref D)
    show tSeq _ _ _ (σ.set 2 (some (.ref D))) Hc
    have e2 : (σ.set 2 (some (V.ref D)))[2]? = some (some (.ref D)) := List.getElem?_set_self (by omega)
    generalize σ.set 2 (some (V.ref D)) = σ2 at *
    refine hj.snd R2 hfj fun J2 ys env2 H3 O3 R3 L3 W2 ⟨hys, he2⟩ => ?_
    subst he2
    have N3 := N.lt no0 L3
    obtain ⟨m2, G2, Y2, w2, rfl, hG2, hY2⟩ := W2.ex
    subst hys
    have len2 : (enumP (L.map fun l => PV.int (l : Nat))).length = L.length := by rw [enumP, List.length_map, List.length_range, List.length_map]
    refine for_it w2 (fun i σ' H' => ∃ a b O', (∀ sv, a = some sv → sv.own = false) ∧ (∀ sv, b = some sv → sv.own = false) ∧ Rel S O' (nEnv c a b) σ' H' ∧ Le (fzr O3 H3) (fzr O' H') ∧ σ'[2]? = some (some (.ref D)) ∧ Nest S O' H' D ps (grpAt L i)) ?_ ?_ ?_ ?_
    · exact ⟨none, none, O3, (fun _ z => nomatch z), (fun _ z => nomatch z), R3, .refl _, e2, N3⟩
    · rintro i σ' H' _ ⟨a, b, O4, _, _, R4, L4, _⟩
      exact hG2 H' fun a o z => (L4.fz a o z).2
    · rintro i v σ' H' H4 hi4 ⟨a, b, O4, ha, hb, R4, L4, s2, N4⟩ y
      obtain ⟨sm, x, ex, rx⟩ := hY2 i H' O4 v H4 hi4 L4.fz R4.oH y
      have R5 := R4.same sm
      have N5 := N4.same sm
      have hi5 : i < L.length := by rw [len2] at hi4; exact hi4
      have exx : x = .tup [.int (i : Nat), .int (L.getD i 0 : Nat)] := by
        rw [enumP, List.getElem?_map, List.getElem?_range (by rw [List.length_map]; exact hi5)] at ex
        have e1 : (L.map fun l => PV.int (l : Nat)).getD i .non = .int (L.getD i 0 : Nat) := by
          rw [List.getD_eq_getElem?_getD, List.getElem?_map, List.getD_eq_getElem?_getD, List.getElem?_eq_getElem hi5]
          rfl
        rw [← Option.some.inj ex]
        show PV.tup [PV.int i, (L.map fun l => PV.int (l : Nat)).getD i .non] = _
        rw [e1]
      subst exx
      refine (inferInstance : PureG S (gTup K 2 (gCons (gName 3) (gCons (gName 4) gNil))) _ _).snd (Qp := fun env => env = nEnv c (some (.fr (.int (i : Nat)))) (some (.fr (.int (L.getD i 0 : Nat))))) R5 rx ⟨rfl, rfl, rfl⟩ fun env3 σ3 R6 hix _ _ q3 => ?_
      subst q3
      have no3 : NoOwn (nEnv c (some (.fr (.int (i : Nat)))) (some (.fr (.int (L.getD i 0 : Nat))))) := nEnv_no (fun _ z => by cases z; rfl) (fun _ z => by cases z; rfl)
      obtain ⟨v1, h1, r1⟩ := R6.slot 1 (.fr .non) rfl
      obtain ⟨v3, h3, r3⟩ := R6.slot 3 (.fr (.int (i : Nat))) rfl
      obtain ⟨v4, h4, r4⟩ := R6.slot 4 (.fr (.int (L.getD i 0 : Nat))) rfl
      cases (show v1 = V.non from r1)
      cases (show v3 = V.int _ from r3)
      cases (show v4 = V.int _ from r4)
      have s2' : σ3[2]? = some (some (.ref D)) := ((hix 2 (by decide)).1).trans s2
      have hl : L.getD i 0 < ps.length := by
        rw [hp, hn]
        rw [List.getD_eq_getElem?_getD, List.getElem?_eq_getElem hi5]
        exact hL _ (List.getElem_mem hi5)
      have ep : ps[L.getD i 0]? = some ps[L.getD i 0] := List.getElem?_eq_getElem hl
      obtain ⟨p1, p2, p3⟩ := N5.at' _ _ ep
      refine ⟨_, h3, _, h1, rfl, _, rfl, ?_⟩
      show if (!decide (V.int (i : Nat) = V.non)) = true then _ else _
      rw [if_pos (by rw [decide_eq_false (by intro z; cases z)]; rfl)]
      refine ⟨_, s2', _, h4, D, _, _, .ref ps[L.getD i 0], rfl, rfl, SqL.of N5.d, ?_, .inl ⟨rfl, _, SqL.of p3⟩, _, h3, _, _, _, rfl, rfl, p3, ?_, _, _, O4, ?_, ?_, R6.poke p1 p2 (no3.ne _) _ trivial, ?_, s2', ?_⟩
      · unfold atI ixN
        rw [if_pos (by omega), if_pos (by rw [List.length_map]; omega)]
        show (ps.map V.ref)[((L.getD i 0 : Nat) : Int).toNat]? = _
        rw [Int.toNat_natCast, List.getElem?_map, ep]
        rfl
      · rw [List.length_map]
        exact Nat.lt_of_le_of_lt (Nat.le_trans (List.length_filter_le _ _) (by rw [List.length_range]; exact Nat.le_of_lt hi5)) hs
      · exact fun _ z => by cases z; rfl
      · exact fun _ z => by cases z; rfl
      · refine (L4.trans (raw_same sm)).trans fun a o ⟨g1, g2⟩ => ⟨g1, ?_⟩
        rw [upd_ne (fun z : a = _ => by subst z; exact g1 p1)]
        exact g2
      · have := N5.put ep (l := grpAt L i (L.getD i 0) ++ [i]) (g' := grpAt L (i + 1)) fun j => by
          rw [grpAt_succ]
          by_cases hj : j = L.getD i 0
          · rw [if_pos hj, if_pos hj, hj]
          · rw [if_neg hj, if_neg hj]
        rw [List.map_append] at this
        exact this
    · rintro σ' H' ⟨a, b, O4, ha, hb, R4, L4, s2, N4⟩
      refine ⟨_, s2, ?_⟩
      rw [len2] at N4
      have := N4.rep R4.ok
      rw [hp, hn] at this
      exact kr _ H' O4 R4.fr (L1.raw.trans (L'.trans (L3.raw.trans L4))) this
end
end PL

set_option Elab.async false
set_option linter.all false
set_option maxRecDepth 100000
set_option maxHeartbeats 4000000
set_option synthInstance.maxHeartbeats 4000000
set_option synthInstance.maxSize 100000
namespace Z
open PySem L2 XV KR PL LamX
section
variable {P : Program} {w : World} {K : PySem.W.Frag} {mg : Str → Option Value} {base : Heap} {A : Ad}
theorem sc_signsbylength : FnScope ["code", "left_out", "groups", "sign", "length", "_"] ["code", "left_out"] (defScope s_signsbylength) := ⟨rfl, rfl, rfl, by decide +kernel, rfl, by decide +kernel, by decide +kernel⟩
theorem def_endO (K : PySem.W.Frag) {N : List Str} {t : TS} {f : List PV → (PV → Prop) → (Addr → List (Str × PV) → Prop) → Prop} {vs : List V} {H : Hp} {Q : VK} {E : XK} (h : spP f vs H Q E)
    (k : ∀ (S : Sit) xs Qp, S.K = K → EIs S E → f xs Qp S.Ep → fOpq S t { nx := fun _ => Qp .non, rt := Qp } (startP N.length xs)) : t { nx := fun _ H' => Q .non H', rt := Q } (L2.start N vs) H :=
  def_end2 K h fun S xs Qp hK hE q => ⟨fOpq S t, ⟨fun R q k kr _ _ => q _ _ _ _ R (fun e s h o r l => k e s h o r l) (fun v x h o f l => kr v x h o f l)⟩, k S xs Qp hK hE q⟩
def pSigns (A : Ad) : List PV → (PV → Prop) → (Addr → List (Str × PV) → Prop) → Prop := fun xs Q _ => ∃ (L : List Nat), xs = [codeP A.c_Code L, .non] ∧ GoodC L ∧ Q (.lst ((List.range (mx L + 1)).map fun j => .lst ((grpAt L L.length j).map pn)))
theorem ok_signs (T : Txt K mg A) : FnOk P w K mg base (L2.CX P w) 1 A.a_signsbylength A.d_signsbylength ["code", "left_out"] (spP (pSigns A)) := by
  refine T.F_signsbylength.ok sc_signsbylength (fun vs H Q E h => spP_len (n := 2) h fun xs Qp Ep q => ?_) (fun cdv Ar outer s H vs Q E hr h => ?_)
  · obtain ⟨L, rfl, _⟩ := q; rfl
  · refine ⟨_, (pss_cons (ps_setLc (i := 2) (own := [("_", 5)]) (by rfl) sc_signsbylength.nd rfl rfl (sw_true rfl rfl rfl (by decide +kernel)) (pi_range1 (by rfl) T.z_range (pa_cons (pe_op op_add (pe_fld (pv 0) rfl) pe_int) pa_nil)) (blkOk_by (own := [("_", 5)]) (N := ["code", "left_out", "groups", "sign", "length", "_"]) (sc := defScope s_signsbylength) (by decide +kernel)) (fun s1 H1 C1 cl1 fp1 => (pg_name (i := 5) sc_signsbylength.nd rfl (Or.inl rfl))) (fun s1 H1 C1 cl1 fp1 => pts_nil) (fun s1 H1 C1 cl1 fp1 => (pe_lst pa_nil)))
      (pss_cons (ps_for (passes_of rfl) rfl (pi_enumF (by rfl) T.z_enumerate (pa_cons (pe_fld (pv 0) rfl) pa_nil)) (pg_tup (by rfl) (pgs_cons (pg_name (i := 3) sc_signsbylength.nd rfl (Or.inl rfl)) (pgs_cons (pg_name (i := 4) sc_signsbylength.nd rfl (Or.inl rfl)) pgs_nil)))
         (pss_one (ps_if (pt_cmpR op_ne (pv 3) (pv 1) (nomark _)) (pss_one (ps_expr (pe_bm PySem.F.plainAttrs_list PySem.F.slot_list_append PySem.F.type_list_append mt_append (pe_ix ix_list (pv 2) (pv 4) (fun _ _ => rfl)) (pa_cons (pv 3) pa_nil))))
           pss_nil)))
      (pss_one (ps_ret (pv 2))))), ?_⟩
    refine def_endO (N := ["code", "left_out", "groups", "sign", "length", "_"]) K h fun S xs Qp hK hE q => ?_
    obtain ⟨L, rfl, gc, q⟩ := q
    intro O σ H0 Dn R kn kr
    have fl : ∀ f : Str, f ∈ (["lengths", "size", "longest", "words"] : List Str) → FldP K A.c_Code f := fun f hf => T.O_Code.fl hf
    have lo := gc.lo
    have hi := gc.hi
    have mb : mx L < 26 := by
      have := (gc.all _ (mx_in (fun e => by rw [e] at lo; exact absurd lo (by decide)))).2
      omega
    refine tNest_snd (c := codeP A.c_Code L) (L := L) (n := mx L + 1) R ?_ ?_ ?_ ?_ (fun v H' O' f l r => kr v _ H' O' f l r ?_)
    · refine ⟨fl _ (by simp), _, rfl, ?_⟩
      change -(2 ^ 62) ≤ ((mx L : Nat) : Int) + 1 ∧ ((mx L : Nat) : Int) + 1 < 2 ^ 62 ∧ (rangeP 0 (((mx L : Nat) : Int) + 1).toNat).length = _ ∧ (rangeP 0 (((mx L : Nat) : Int) + 1).toNat).length ≤ sizeLine ∧ nEnv (codeP A.c_Code L) none none = _
      have e : (rangeP 0 (((mx L : Nat) : Int) + 1).toNat).length = mx L + 1 := by rw [rangeP, List.length_map, List.length_range]; omega
      rw [e]
      exact ⟨by omega, by omega, rfl, by show mx L + 1 ≤ 2 ^ 24; omega, rfl⟩
    · exact ⟨fl _ (by simp), _, rfl, rfl, rfl⟩
    · exact fun l hl => Nat.lt_succ_of_le (mx_ge hl)
    · show L.length < 2 ^ 24
      omega
    · exact q

end
end Z

set_option Elab.async false
set_option linter.all false
set_option maxRecDepth 100000
set_option maxHeartbeats 4000000
set_option synthInstance.maxHeartbeats 4000000
set_option synthInstance.maxSize 100000
namespace Z
open PySem L2 XV KR PL LamX
section
variable {P : Program} {w : World} {K : PySem.W.Frag} {mg : Str → Option Value} {base : Heap} {A : Ad}
theorem sc_signgroups : FnScope ["code", "weights", "left_out", "group", "sign"] ["code", "weights", "left_out"] (defScope s_signgroups) := ⟨rfl, rfl, rfl, by decide +kernel, rfl, by decide +kernel, by decide +kernel⟩
def sgs (L : List Nat) (W : List Int) : List (List Nd) := (List.range (mx L + 1)).map fun j => (grpAt L L.length j).map fun s => (W.getD s 0, [s])
def pSg (A : Ad) : List PV → (PV → Prop) → (Addr → List (Str × PV) → Prop) → Prop := fun xs Q _ => ∃ (L : List Nat) (W : List Int) (x : PV), xs = [codeP A.c_Code L, x, .non] ∧ (x = .lst (W.map PV.int) ∨ x = .tup (W.map PV.int)) ∧ W.length = L.length ∧ GoodC L ∧ Q (.lst ((sgs L W).map rowV))
theorem ok_sg (T : Txt K mg A) : FnOk P w K mg base (L2.CX P w) 2 A.a_signgroups A.d_signgroups ["code", "weights", "left_out"] (spP (pSg A)) := by
  have G_signs := ok_signs (P := P) (w := w) (base := base) T
  refine T.F_signgroups.ok sc_signgroups (fun vs H Q E h => spP_len (n := 3) h fun xs Qp Ep q => ?_) (fun cdv Ar outer s H vs Q E hr h => ?_)
  · obtain ⟨L, W, x, rfl, _⟩ := q; rfl
  · refine ⟨_, (pss_one (ps_ret (pe_lc (own := [("group", 3)]) (by rfl) sc_signgroups.nd (pi_list (pe_call G_signs (hr.mono (by decide)) (by rfl) T.g_signsbylength T.F_signsbylength.kp T.b_signsbylength .nil (passes_call (takes_of rfl rfl rfl rfl) (fun _ _ _ _ h => h)) (pa_cons (pv 0) (pa_cons (pv 2) pa_nil)))) (blkOk_by (own := [("group", 3)]) (N := ["code", "weights", "left_out", "group", "sign"]) (sc := defScope s_signgroups) (by decide +kernel)) (fun s1 H1 C1 cl1 fp1 => (pg_name (i := 3) sc_signgroups.nd rfl (Or.inl rfl))) (fun s1 H1 C1 cl1 fp1 => pts_nil) (fun s1 H1 C1 cl1 fp1 => (pe_lc (wi := iList K (tVar 3)) (own := [("sign", 4)]) (by rfl) sc_signgroups.nd (pi_list (pv 3)) (show BlkOk ["code", "weights", "left_out", "group", "sign"] ({ kind := ScopeKind.function, names := [(".0", NameKind.local), ("group", NameKind.local), ("weights", NameKind.cell)], isGenerator := false, isCoroutine := false } : Scope) ({ kind := ScopeKind.function, names := [(".0", NameKind.local), ("sign", NameKind.local), ("weights", NameKind.free)], isGenerator := false, isCoroutine := false } : Scope) [("sign", 4)] from (blkOk_by (own := [("sign", 4)]) (N := ["code", "weights", "left_out", "group", "sign"]) (sc := ({ kind := ScopeKind.function, names := [(".0", NameKind.local), ("group", NameKind.local), ("weights", NameKind.cell)], isGenerator := false, isCoroutine := false } : Scope)) (by decide +kernel))) (fun s2 H2 C2 cl2 fp2 => (pg_name (i := 4) sc_signgroups.nd rfl (Or.inl rfl))) (fun s1 H1 C1 cl1 fp1 => pts_nil) (fun s2 H2 C2 cl2 fp2 => (pe_tup (pa_cons (pe_ix (r := rIx K) ix_seq (pv 1) (pv 4) (fun _ _ => rfl)) (pa_cons (pe_tup (pa_cons (pv 4) pa_nil)) pa_nil))))))))), ?_⟩
    refine def_end2 (N := ["code", "weights", "left_out", "group", "sign"]) K h fun S xs Qp hK hE q => ⟨_, inferInstance, ?_⟩
    obtain ⟨L, W, x, rfl, hx, hl, gc, q⟩ := q
    change fRet _ _ [some (.fr (codeP A.c_Code L)), some (.fr x), some (.fr .non), none, none]
    simp only [fSeq, fSet, fOfE, fOp, fUn, fIU, fVar, fC, fII, fIB, fIIc, fIxT, fIxL, fLst, fLstO, fCons, fTup, fNil, fB, fTrue, fgName, fgTup, fgCons, fgNil, fIt, fRng3, fRng2, fRng1, fLc2O, fLc2L, fLcO, fLc, fLcL, fRet, fCB, fStar, fCall, wipeE, List.getElem?_cons_zero, List.getElem?_cons_succ, List.set_cons_zero, List.set_cons_succ, SV.pv, PV.seq, fLcL, fLc]
    have mb : mx L < 26 := by
      have := (gc.all _ (mx_in (fun e => by have := gc.lo; rw [e] at this; exact absurd this (by decide)))).2
      omega
    have hi := gc.hi
    have gl : ∀ j, (grpAt L L.length j).length ≤ 26 := fun j => Nat.le_trans (List.length_filter_le _ _) (by rw [List.length_range]; exact hi)
    refine ⟨L, rfl, gc, by rw [List.length_map, List.length_range]; exact Nat.le_trans (Nat.succ_le_of_lt mb) (by decide), by decide, ?_⟩
    refine plc_map (fun x => match x with | .lst ys => .lst (ys.map fun y => match y with | .int s => ndV (W.getD s.toNat 0, [s.toNat]) | _ => .non) | _ => .non) (fun y hy K1 K' k => ?_) ?_
    · obtain ⟨j, hj, rfl⟩ := List.mem_map.mp hy
      have hs : ∀ s ∈ grpAt L L.length j, s < W.length := fun s h => by
        rw [hl]
        exact List.mem_range.mp (List.mem_filter.mp h).1
      have hlen := gl j
      generalize grpAt L L.length j = G at *
      refine ⟨by rw [List.length_map]; exact Nat.le_trans hlen (by decide), by decide, ?_⟩
      refine plc_map (fun y => match y with | .int s => ndV (W.getD s.toNat 0, [s.toNat]) | _ => .non) (fun z hz K2 K2' k2 => ?_) k
      obtain ⟨s, h, rfl⟩ := List.mem_map.mp hz
      have lt := hs s h
      have a0 : atI (W.map PV.int) (s : Int) = some (.int (W.getD s 0)) := by
        refine atI_map (n := s) rfl ?_
        rw [List.getD_eq_getElem?_getD, List.getElem?_eq_getElem lt]
        rfl
      rcases hx with rfl | rfl
      · exact ⟨_, a0, by show 1 ≤ sizeLine; decide, by show 2 ≤ sizeLine; decide, k2⟩
      · exact ⟨_, a0, by show 1 ≤ sizeLine; decide, by show 2 ≤ sizeLine; decide, k2⟩
    · have e : ((List.range (mx L + 1)).map fun j => PV.lst ((grpAt L L.length j).map pn)).map (fun x => match x with | .lst ys => .lst (ys.map fun y => match y with | .int s => ndV (W.getD s.toNat 0, [s.toNat]) | _ => .non) | _ => .non) = (sgs L W).map rowV := by
        unfold sgs
        rw [List.map_map, List.map_map]
        apply List.map_congr_left
        intro j _
        show PV.lst (((grpAt L L.length j).map pn).map _) = PV.lst (List.map ndV (List.map _ _))
        rw [List.map_map, List.map_map]
        rfl
      show Qp (.lst ([] ++ _))
      rw [List.nil_append, e]
      exact q
end
end Z

set_option Elab.async false
set_option linter.all false
set_option maxRecDepth 100000
set_option maxHeartbeats 4000000
set_option synthInstance.maxHeartbeats 4000000
set_option synthInstance.maxSize 100000
namespace Z
open PySem L2 XV KR PL LamX
section

/-! levels -/
def cV : Option Int → PV
  | some c => .int c
  | none => .non
def cW : Option Int → V
  | some c => .int c
  | none => .non
def goodC : Option Int → Bool
  | some c => decide (0 ≤ c)
  | none => false
theorem cV_reps {F : Fz} : ∀ (cs : List (Option Int)) (vs : List V), Reps F (cs.map cV) vs → vs = cs.map cW
  | [], [], _ => rfl
  | some c :: cs, v :: vs, r => by rw [show v = V.int c from r.1, cV_reps cs vs r.2]; rfl
  | none :: cs, v :: vs, r => by rw [show v = V.non from r.1, cV_reps cs vs r.2]; rfl
theorem isC_cW (c : Option Int) : isC (cW c) = goodC c := by cases c <;> rfl
def sizN (n : Nat) : Prop := 2 ≤ n ∧ n ≤ 26
/-- counts checked against a code; q: where all is well -/
def pCk (A : Ad) (q : List Nat → List (Option Int) → (PV → Prop) → Prop) : List PV → (PV → Prop) → (Addr → List (Str × PV) → Prop) → Prop := fun xs Q Ep => ∃ (L : List Nat) (cs : List (Option Int)) (x : PV), xs = [codeP A.c_Code L, x] ∧ (x = .lst (cs.map cV) ∨ x = .tup (cs.map cV)) ∧ GoodC L ∧
  (sizN cs.length → (∀ c ∈ cs, goodC c = true) → cs.length = L.length → q L cs Q) ∧
  (sizN cs.length → (∀ c ∈ cs, goodC c = true) → cs.length ≠ L.length → Ep A.c_OtherSize [("wanted", .int (L.length : Int)), ("many", .int (cs.length : Int))]) ∧
  (¬ sizN cs.length → Ep A.c_TooMany [("most", .int 26), ("many", .int (cs.length : Int)), ("what", .str "signs")]) ∧
  (sizN cs.length → ∀ i : Nat, (∃ c, cs[i]? = some c ∧ goodC c = false) → (∀ j c, j < i → cs[j]? = some c → goodC c = true) → Ep A.c_BadCount [("index", .int (i : Int))])
def pCko (A : Ad) := pCk A fun _ _ Q => Q .non
def wOf (cs : List (Option Int)) : List Int := cs.map (·.getD 0)
theorem cV_wOf {cs : List (Option Int)} (h : ∀ c ∈ cs, goodC c = true) : cs.map cV = (wOf cs).map PV.int := by
  unfold wOf
  rw [List.map_map]
  apply List.map_congr_left
  intro c hc
  have := h c hc
  cases c with
  | none => cases this
  | some c => rfl
def pLevels (A : Ad) := pCk A fun L cs Q => Q (.tup ((lv (sgs L (wOf cs))).map tupV))
theorem gok {L : List Nat} (gc : GoodC L) (W : List Int) : GOk (sgs L W) := by
  have mb : mx L < 26 := by
    have := (gc.all _ (mx_in (fun e => by have := gc.lo; rw [e] at this; exact absurd this (by decide)))).2
    omega
  have hi := gc.hi
  have gl : ∀ j, (grpAt L L.length j).length ≤ 26 := fun j => Nat.le_trans (List.length_filter_le _ _) (by rw [List.length_range]; exact hi)
  have one : ∀ g ∈ sgs L W, wt g ≤ 26 := fun g hg => by
    obtain ⟨j, _, rfl⟩ := List.mem_map.mp hg
    unfold wt
    rw [List.map_map]
    have : ∀ l : List Nat, (l.map ((fun n : Nd => n.2.length) ∘ fun s => ((W.getD s 0, [s]) : Nd))).sum = l.length := fun l => by
      induction l with
      | nil => rfl
      | cons a t ih => rw [List.map_cons, List.sum_cons, ih, List.length_cons]; show 1 + _ = _; omega
    rw [this]
    exact gl j
  have len : (sgs L W).length = mx L + 1 := by unfold sgs; rw [List.length_map, List.length_range]
  have tot : ∀ gs : List (List Nd), (∀ g ∈ gs, wt g ≤ 26) → wts gs ≤ gs.length * 26 := fun gs h => by
    induction gs with
    | nil => exact Nat.le_refl _
    | cons a t ih =>
      have := ih fun g hg => h g (List.mem_cons_of_mem _ hg)
      have := h a (List.mem_cons_self ..)
      unfold wts at *
      rw [List.map_cons, List.sum_cons, List.length_cons]
      omega
  refine ⟨fun g hg n hn => ?_, ?_, by omega⟩
  · obtain ⟨j, _, rfl⟩ := List.mem_map.mp hg
    obtain ⟨s, _, rfl⟩ := List.mem_map.mp hn
    exact Nat.le_refl _
  · have := tot _ one
    omega

variable {P : Program} {w : World} {K : PySem.W.Frag} {mg : Str → Option Value} {base : Heap} {A : Ad}
theorem ok_cko (T : Txt K mg A) : FnOk P w K mg base (L2.CX P w) 6 A.a_checkcountsof A.d_checkcountsof ["code", "counts"] (spP (pCko A)) :=
  (ok_checkcountsof (P := P) (w := w) (base := base) T).imp fun vs H Q E h => by
    obtain ⟨O, xs, Qp, Ep, oh, r, ⟨L, cs, x, rfl, hx, gc, q1, q2, q3, q4⟩, kq, ke⟩ := h
    match vs, r with
    | [v, u], ⟨r1, r2, _⟩ =>
      obtain ⟨a, dx, us, rfl, hi, hl, rs⟩ := r1
      match us, rs with
      | [u1, u2, u3, u4], ⟨⟨pw, ws, e1, hw, rw1⟩, ⟨pl, ls, e2, hpl, rl⟩, e3, e4, _⟩ =>
        subst e1; subst e2
        rw [show u3 = V.int (L.length : Int) from e3, show u4 = V.int (mx L : Int) from e4] at hi
        obtain ⟨b, rfl, hb⟩ : ∃ b, u = .ref b ∧ SqE K H b (cs.map cW) := by
          rcases hx with rfl | rfl
          · obtain ⟨b, us, rfl, hb, rs⟩ := r2
            cases cV_reps cs us rs
            exact ⟨b, rfl, .inl (SqL.of hb.2.lst)⟩
          · obtain ⟨b, us, rfl, hb, rs⟩ := r2
            cases cV_reps cs us rs
            exact ⟨b, rfl, .inr (SqT.of hb.2.tup)⟩
        have len : (cs.map cW).length = cs.length := List.length_map ..
        have all0 : (∀ x ∈ cs.map cW, isC x = true) → ∀ c ∈ cs, goodC c = true := fun h c hc => by rw [← isC_cW]; exact h _ (List.mem_map.mpr ⟨c, hc, rfl⟩)
        refine ⟨a, dx, b, pw, pl, (L.length : Int), (mx L : Int), cs.map cW, rfl, hi.2.ins, hb, fun z hz => ?_, fun hn hc hL G s => ?_, fun hn hc hne d G s e => ?_, fun hn d G s e => ?_, fun hn i hb d G s e => ?_⟩
        · obtain ⟨c, _, rfl⟩ := List.mem_map.mp hz
          cases c with
          | none => exact .non
          | some c => exact .int c
        · rw [len] at hn hL
          exact kq _ .non G s (rfl : V.non = V.non) (q1 hn (all0 hc) (by omega))
        · rw [len] at hn
          have hne' : cs.length ≠ L.length := fun z => hne (by rw [len, z])
          rw [len] at e
          exact ke A.c_OtherSize ["wanted", "many"] [.int (L.length : Int), .int (cs.length : Int)] [.int (L.length : Int), .int (cs.length : Int)] d G s e rfl ⟨rfl, rfl, trivial⟩ (q2 hn (all0 hc) hne')
        · rw [len] at hn e
          exact ke A.c_TooMany ["most", "many", "what"] [.int 26, .int (cs.length : Int), .str "signs"] [.int 26, .int (cs.length : Int), .str "signs"] d G s e rfl ⟨rfl, rfl, rfl, trivial⟩ (q3 hn)
        · rw [len] at hn
          obtain ⟨⟨v, h1, h2⟩, h3⟩ := hb
          rw [List.getElem?_map] at h1
          obtain ⟨c, h1', rfl⟩ := Option.map_eq_some_iff.mp h1
          exact ke A.c_BadCount ["index"] [.int (i : Int)] [.int (i : Int)] d G s e rfl ⟨rfl, trivial⟩ (q4 hn i ⟨c, h1', by rw [← isC_cW]; exact h2⟩ fun j c hj hc => by rw [← isC_cW]; exact h3 j (cW c) hj (by rw [List.getElem?_map, hc]; rfl))
theorem sc_levels : FnScope ["code", "counts", "nodes"] ["code", "counts"] (defScope s_levels) := ⟨rfl, rfl, rfl, by decide +kernel, rfl, by decide +kernel, by decide +kernel⟩

theorem ok_levels (T : Txt K mg A) : FnOk P w K mg base (L2.CX P w) 7 A.a_levels A.d_levels ["code", "counts"] (spP (pLevels A)) := by
  have G_cko := ok_cko (P := P) (w := w) (base := base) T
  have G_sg := ok_sg (P := P) (w := w) (base := base) T
  have G_packed := ok_packed (P := P) (w := w) (base := base) T
  refine T.F_levels.okX sc_levels (fun vs H Q E h => spP_len (n := 2) h fun xs Qp Ep q => ?_) (fun cdv Ar outer s H vs Q E hr h => ?_)
  · obtain ⟨L, cs, x, rfl, hx, gc, q, q2, q3, q4⟩ := q; rfl
  · refine ⟨_, (pss_cons (ps_expr (pe_call G_cko (hr.mono (by decide)) (by rfl) T.g_checkcountsof T.F_checkcountsof.kp T.b_checkcountsof .nil (passes_call (takes_of rfl rfl rfl rfl) (fun _ _ _ _ h => h)) (pa_cons (pv 0) (pa_cons (pv 1) pa_nil))))
      (pss_one (ps_ret (pe_callTy call_tuple_of (by rfl) T.z_tuple (show PySem.bootBuiltins "tuple" = some (.type "tuple") by decide +kernel) (pa_cons (pe_lc (own := [("nodes", 2)]) (by rfl) sc_levels.nd (pi_list (pe_call G_packed (hr.mono (by decide)) (by rfl) T.g_packed T.F_packed.kp T.b_packed .nil pass0 (pa_cons (pe_call G_sg (hr.mono (by decide)) (by rfl) T.g_signgroups T.F_signgroups.kp (Classical.choose_spec T.b1_signgroups).2 (Classical.choose_spec T.b1_signgroups).1 (passes_call (takes_of rfl rfl rfl rfl) (fun _ _ _ _ h => h)) (pa_cons (pv 0) (pa_cons (pv 1) pa_nil))) pa_nil))) (blkOk_by (own := [("nodes", 2)]) (N := ["code", "counts", "nodes"]) (sc := defScope s_levels) (by decide +kernel)) (fun s1 H1 C1 cl1 fp1 => (pg_name (i := 2) sc_levels.nd rfl (Or.inl rfl))) (fun s1 H1 C1 cl1 fp1 => pts_nil) (fun s1 H1 C1 cl1 fp1 => (pe_callTy (r := rTupOf K) call_tuple_of (by rfl) T.z_tuple (show PySem.bootBuiltins "tuple" = some (.type "tuple") by decide +kernel) (pa_cons (pv 2) pa_nil)))) pa_nil))))), ?_⟩
    refine def_end2 (N := ["code", "counts", "nodes"]) K h fun S xs Qp hK hE q => ⟨_, inferInstance, ?_⟩
    obtain ⟨L, cs, x, rfl, hx, gc, q, q2, q3, q4⟩ := q
    change fSeq _ _ _ [some (.fr (codeP A.c_Code L)), some (.fr x), none]
    simp only [fSeq, fSet, fOfE, fOp, fUn, fIU, fVar, fC, fII, fIB, fIIc, fIxT, fIxL, fLst, fLstO, fCons, fTup, fNil, fB, fTrue, fgName, fgTup, fgCons, fgNil, fIt, fRng3, fRng2, fRng1, fLc2O, fLc2L, fLcO, fLc, fLcL, fRet, fCB, fStar, fCall, wipeE, List.getElem?_cons_zero, List.getElem?_cons_succ, List.set_cons_zero, List.set_cons_succ, SV.pv, PV.seq, fDrop, fCallD, fTupleOf]
    refine ⟨L, cs, x, rfl, hx, gc, fun hn hc hl => ?_, q2, q3, q4⟩
    have hx' : x = .lst ((wOf cs).map PV.int) ∨ x = .tup ((wOf cs).map PV.int) := by rw [← cV_wOf hc]; exact hx
    have gg := gok gc (wOf cs)
    have q' := q hn hc hl
    refine ⟨L, wOf cs, x, rfl, hx', by unfold wOf; rw [List.length_map]; exact hl, gc, _, rfl, gg, ?_⟩
    refine ⟨by rw [List.length_map, lv_len]; exact Nat.le_trans gg.l (by decide), by decide, ?_⟩
    refine plc_map (fun x => match x with | .lst ys => .tup ys | _ => .non) (fun y hy K1 K' k => ?_) ?_
    · obtain ⟨r, _, rfl⟩ := List.mem_map.mp hy
      exact ⟨_, rfl, k⟩
    · have e : ((lv (sgs L (wOf cs))).map rowV).map (fun x => match x with | .lst ys => .tup ys | _ => .non) = (lv (sgs L (wOf cs))).map tupV := by
        rw [List.map_map]
        rfl
      show ∃ ys, some ([] ++ _) = some ys ∧ Qp (.tup ys)
      rw [List.nil_append, e]
      exact ⟨_, rfl, q'⟩
end
end Z

set_option Elab.async false
set_option linter.all false
set_option maxRecDepth 100000
set_option maxHeartbeats 4000000
set_option synthInstance.maxHeartbeats 4000000
set_option synthInstance.maxSize 100000
namespace Z
open PySem L2 XV KR PL LamX
section

/-! beyond -/
def zl (L : List Nat) : List Int := L.map fun (l : Nat) => (l : Int)
def bump (d : Int) (a : List Nat) (l : List Int) : List Int := a.foldl (fun l s => l.set s (l.getD s 0 + d)) l
theorem bump_len (d : Int) : ∀ (a : List Nat) (l : List Int), (bump d a l).length = l.length
  | [], _ => rfl
  | s :: a, l => by
    show (bump d a (l.set s (l.getD s 0 + d))).length = _
    rw [bump_len d a, List.length_set]
theorem bump_take (d : Int) (a : List Nat) (l : List Int) {i : Nat} (h : i < a.length) : bump d (a.take (i + 1)) l = (bump d (a.take i) l).set a[i] ((bump d (a.take i) l).getD a[i] 0 + d) := by
  rw [List.take_succ_eq_append_getElem h]
  unfold bump
  rw [List.foldl_append]
  rfl
theorem ixN_at {n s : Nat} (h : s < n) : ixN n (s : Int) = some s := by
  unfold ixN
  rw [if_pos (by omega), if_pos (by omega), Int.toNat_natCast]
theorem ints_set (l : List Int) (i : Nat) (z : Int) : (l.map PV.int).set i (.int z) = (l.set i z).map PV.int := by rw [List.map_set]

variable {P : Program} {w : World} {K : PySem.W.Frag} {mg : Str → Option Value} {base : Heap} {A : Ad}
theorem sc_beyond : FnScope ["code", "light", "heavy", "lengths", "sign"] ["code", "light", "heavy"] (defScope s_beyond) := ⟨rfl, rfl, rfl, by decide +kernel, rfl, by decide +kernel, by decide +kernel⟩
def pBeyond (A : Ad) : List PV → (PV → Prop) → (Addr → List (Str × PV) → Prop) → Prop := fun xs Q _ => ∃ (L a b L' : List Nat), xs = [codeP A.c_Code L, .tup (a.map pn), .tup (b.map pn)] ∧ GoodC L ∧ (∀ s ∈ a, s < L.length) ∧ (∀ s ∈ b, s < L.length) ∧ bump (-1) b (bump 1 a (zl L)) = zl L' ∧ GoodC L' ∧ Q (codeP A.c_Code L')
theorem ok_beyond (T : Txt K mg A) : FnOk P w K mg base (L2.CX P w) 8 A.a_beyond A.d_beyond ["code", "light", "heavy"] (spP (pBeyond A)) := by
  have G_init := ok_initP (P := P) (w := w) (base := base) T
  refine T.F_beyond.okX sc_beyond (fun vs H Q E h => spP_len (n := 3) h fun xs Qp Ep q => ?_) (fun cdv Ar outer s H vs Q E hr h => ?_)
  · obtain ⟨L, a, b, L', rfl, gc, ha, hb, hL, gc', q⟩ := q; rfl
  · refine ⟨_, (pss_cons (ps_set (i := 3) sc_beyond.nd rfl (Or.inl rfl) (pe_callTy call_list_of (by rfl) T.z_list (show PySem.bootBuiltins "list" = some (.type "list") by decide +kernel) (pa_cons (pe_fld (pv 0) rfl) pa_nil)))
      (pss_cons (ps_for (passes_of rfl) rfl (pi_tup (pv 1)) (pg_name (i := 4) sc_beyond.nd rfl (Or.inl rfl))
         (pss_one (ps_asg (pe_op op_add (pe_ix ix_list (pv 3) (pv 4) (fun _ _ => rfl)) pe_int) (pg_sub (pv 3) (pv 4) set_list))))
      (pss_cons (ps_for (passes_of rfl) rfl (pi_tup (pv 2)) (pg_name (i := 4) sc_beyond.nd rfl (Or.inl rfl))
         (pss_one (ps_asg (pe_op op_sub (pe_ix ix_list (pv 3) (pv 4) (fun _ _ => rfl)) pe_int) (pg_sub (pv 3) (pv 4) set_list))))
      (pss_one (ps_ret (pe_make T.O_Code.M G_init (hr.mono (by decide)) (by rfl) T.g_Code (Classical.choose_spec T.b_init1).2 (Classical.choose_spec T.b_init1).1 (passes_call (takes_of rfl rfl rfl rfl) (fun _ _ _ _ h => h)) (pa_cons (pv 3) pa_nil))))))), ?_⟩
    refine def_end2 (N := ["code", "light", "heavy", "lengths", "sign"]) K h fun S xs Qp hK hE q => ⟨_, inferInstance, ?_⟩
    obtain ⟨L, a, b, L', rfl, gc, ha, hb, hL, gc', q⟩ := q
    have fl : ∀ f : Str, f ∈ (["lengths", "size", "longest", "words"] : List Str) → FldP K A.c_Code f := fun f hf => T.O_Code.fl hf
    change fSeq _ _ _ [some (.fr (codeP A.c_Code L)), some (.fr (.tup (a.map pn))), some (.fr (.tup (b.map pn))), none, none]
    simp only [fSeq, fSet, fOfE, fOp, fUn, fIU, fVar, fC, fII, fIB, fIIc, fIxT, fIxL, fLst, fLstO, fCons, fTup, fNil, fB, fTrue, fgName, fgTup, fgCons, fgNil, fIt, fRng3, fRng2, fRng1, fLc2O, fLc2L, fLcO, fLc, fLcL, fRet, fCB, fStar, fCall, wipeE, List.getElem?_cons_zero, List.getElem?_cons_succ, List.set_cons_zero, List.set_cons_succ, SV.pv, PV.seq, fItT, fStore, fMake]
    have pz : ∀ l : List Nat, l.map pn = (zl l).map PV.int := fun l => by unfold zl; rw [List.map_map]; rfl
    have zlen : ∀ l : List Nat, (zl l).length = l.length := fun l => List.length_map ..
    refine ⟨fl _ (by simp), _, rfl, _, rfl, ?_⟩
    show pfor _ _ _ (a.map pn) [some (.fr (codeP A.c_Code L)), some (.fr (.tup (a.map pn))), some (.fr (.tup (b.map pn))), some (.ol (L.map pn)), none]
    rw [pz L]
    refine pfor_inv (fun i env => ∃ u, env = [some (.fr (codeP A.c_Code L)), some (.fr (.tup (a.map pn))), some (.fr (.tup (b.map pn))), some (.ol ((bump 1 (a.take i) (zl L)).map PV.int)), u]) ⟨none, rfl⟩ (fun i x env hx hI Nx hN => ?_) (fun env hI => ?_)
    · obtain ⟨u, rfl⟩ := hI
      have hi : i < a.length := by
        have := (List.getElem?_eq_some_iff.mp hx).1
        rwa [List.length_map] at this
      have ex : x = pn a[i] := by
        rw [List.getElem?_map, List.getElem?_eq_getElem hi] at hx
        exact (Option.some.inj hx).symm
      subst ex
      have lt : a[i] < L.length := ha _ (List.getElem_mem hi)
      have hN' := hN
      rw [bump_take _ _ _ hi] at hN'
      have hlen : (bump 1 (a.take i) (zl L)).length = L.length := by rw [bump_len]; exact zlen L
      generalize bump 1 (a.take i) (zl L) = l at *
      generalize a[i] = s at *
      have a0 : atI (l.map PV.int) (s : Int) = some (.int (l.getD s 0)) := by
        refine atI_map (n := s) rfl ?_
        rw [List.getD_eq_getElem?_getD, List.getElem?_eq_getElem (by omega)]
        rfl
      refine ⟨rfl, _, _, _, rfl, rfl, a0, rfl, _, _, s, rfl, rfl, ixN_at (by rw [List.length_map]; omega), hN' _ ⟨some (.fr (pn s)), ?_⟩⟩
      rw [← ints_set]
      rfl
    obtain ⟨u, rfl⟩ := hI
    rw [List.length_map, List.take_length]
    show pfor _ _ _ (b.map pn) _
    refine pfor_inv (fun i env => ∃ u, env = [some (.fr (codeP A.c_Code L)), some (.fr (.tup (a.map pn))), some (.fr (.tup (b.map pn))), some (.ol ((bump (-1) (b.take i) (bump 1 a (zl L))).map PV.int)), u]) ⟨u, rfl⟩ (fun i x env hx hI Nx hN => ?_) (fun env hI => ?_)
    · obtain ⟨u, rfl⟩ := hI
      have hi : i < b.length := by
        have := (List.getElem?_eq_some_iff.mp hx).1
        rwa [List.length_map] at this
      have ex : x = pn b[i] := by
        rw [List.getElem?_map, List.getElem?_eq_getElem hi] at hx
        exact (Option.some.inj hx).symm
      subst ex
      have lt : b[i] < L.length := hb _ (List.getElem_mem hi)
      have hN' := hN
      rw [bump_take _ _ _ hi] at hN'
      have hlen : (bump (-1) (b.take i) (bump 1 a (zl L))).length = L.length := by rw [bump_len]; rw [bump_len]; exact zlen L
      generalize bump (-1) (b.take i) (bump 1 a (zl L)) = l at *
      generalize b[i] = s at *
      have a0 : atI (l.map PV.int) (s : Int) = some (.int (l.getD s 0)) := by
        refine atI_map (n := s) rfl ?_
        rw [List.getD_eq_getElem?_getD, List.getElem?_eq_getElem (by omega)]
        rfl
      refine ⟨rfl, _, _, _, rfl, rfl, a0, rfl, _, _, s, rfl, rfl, ixN_at (by rw [List.length_map]; omega), hN' _ ⟨some (.fr (pn s)), ?_⟩⟩
      rw [← ints_set]
      rfl
    obtain ⟨u, rfl⟩ := hI
    rw [List.length_map, List.take_length, hL, ← pz]
    refine ⟨_, _, rfl, .inl rfl, gc', ?_⟩
    exact q
end
end Z

set_option Elab.async false
set_option linter.all false
set_option maxRecDepth 100000
set_option maxHeartbeats 4000000
set_option synthInstance.maxHeartbeats 4000000
set_option synthInstance.maxSize 100000
namespace Z
open PySem L2 XV KR PL LamX
section

/-! judge -/
theorem abv_lt : ∀ {rs : List (List Nd)} {k i : Nat}, abv k rs = some i → k ≤ i ∧ i - k + 1 < rs.length
  | [], k, i, h => by cases h
  | [_], k, i, h => by cases h
  | r :: s :: t, k, i, h => by
    rw [abv] at h
    by_cases c : fst0 r < lst0 s
    · rw [if_pos c] at h
      cases h
      simp
    · rw [if_neg c] at h
      obtain ⟨h1, h2⟩ := abv_lt h
      refine ⟨by omega, ?_⟩
      rw [List.length_cons] at h2 ⊢
      rw [List.length_cons]
      omega
theorem lv_all : ∀ {gs : List (List Nd)}, (∀ g ∈ gs, Full g) → ∀ r ∈ lv gs, Full r ∧ wt r ≤ wts gs
  | [], _, r, h => nomatch h
  | g :: t, h, r, hr => by
    rcases List.mem_cons.mp hr with rfl | hr
    · exact lv_head (gs := g :: t) h
    · obtain ⟨a, b⟩ := lv_all (gs := t) (fun x hx => h x (List.mem_cons_of_mem _ hx)) r hr
      refine ⟨a, Nat.le_trans b ?_⟩
      unfold wts
      rw [List.map_cons, List.sum_cons]
      exact Nat.le_add_left _ _
theorem leaf_int {K : PySem.W.Frag} (i : Int) : leafK K (.int i) := ⟨_, rfl, kit_two (b := false) (c := false) (by decide +kernel) (by decide +kernel), kit_bb (by decide +kernel)⟩
theorem leaf_non {K : PySem.W.Frag} : leafK K .non := ⟨_, rfl, kit_two (b := false) (c := false) (by decide +kernel) (by decide +kernel), kit_bb (by decide +kernel)⟩
theorem leaf_ins {K : PySem.W.Frag} {C fI : Addr} {gs : List Str} (o : Oc K C fI gs) (fs : List Str) (xs : List PV) : leafK K (.ins C fs xs) := by
  refine ⟨_, ⟨rfl, o.I⟩, ?_, o.kd⟩
  unfold PySem.W.kitAny
  rw [o.kl]
  show PySem.W.kitAny K _ _ = _
  unfold PySem.W.kitAny
  rw [o.kt]
  rfl
theorem leaf_cV {K : PySem.W.Frag} (c : Option Int) : leafK K (cV c) := by cases c <;> first | exact leaf_int _ | exact leaf_non
theorem FzP.leaf {K : PySem.W.Frag} {x : PV} (h : leafK K x) (ne : ∀ ys, x ≠ .lst ys ∧ x ≠ .tup ys) : ∀ n, FzP K n x
  | 0 => h
  | n + 1 => .inl ⟨h, ne⟩
theorem FzP.seq {K : PySem.W.Frag} {x : PV} {ys : List PV} {n : Nat} (h : x = .lst ys ∨ x = .tup ys) (l : ys.length ≤ sizeLine) (a : ∀ y ∈ ys, FzP K n y) : FzP K (n + 1) x := .inr ⟨ys, h, l, a⟩
theorem fz_code {K : PySem.W.Frag} {C fI : Addr} {gs : List Str} (o : Oc K C fI gs) (n : Nat) (L : List Nat) : FzP K n (codeP C L) := by
  unfold codeP
  exact .leaf (leaf_ins o _ _) (fun ys => ⟨(fun z => nomatch z), (fun z => nomatch z)⟩) n
theorem fz_int {K : PySem.W.Frag} (n : Nat) (i : Int) : FzP K n (.int i) := .leaf (leaf_int i) (fun ys => ⟨(fun z => nomatch z), (fun z => nomatch z)⟩) n
theorem fz_pns {K : PySem.W.Frag} (n : Nat) {l : List Nat} (h : l.length ≤ 1000) : FzP K (n + 1) (.tup (l.map pn)) := .seq (.inr rfl) (by rw [List.length_map]; exact Nat.le_trans h (by decide)) fun y hy => by
  obtain ⟨s, _, rfl⟩ := List.mem_map.mp hy
  exact fz_int n _
theorem fz_nd {K : PySem.W.Frag} (n : Nat) {d : Nd} (h : d.2.length ≤ 1000) : FzP K (n + 2) (ndV d) := .seq (.inr rfl) (by show 2 ≤ sizeLine; decide) fun y hy => by
  rcases List.mem_cons.mp hy with rfl | hy
  · exact fz_int _ _
  · rw [List.mem_singleton.mp hy]
    exact fz_pns n h
theorem fz_row {K : PySem.W.Frag} (n : Nat) {r : List Nd} (hl : r.length ≤ 1000) (h : ∀ d ∈ r, d.2.length ≤ 1000) : FzP K (n + 3) (tupV r) := .seq (.inr rfl) (by rw [List.length_map]; exact Nat.le_trans hl (by decide)) fun y hy => by
  obtain ⟨d, hd, rfl⟩ := List.mem_map.mp hy
  exact fz_nd n (h d hd)
theorem frz_pns (n : Nat) (l : List Nat) : frz (n + 1) (.tup (l.map pn)) = .tup (l.map pn) := by
  show PV.tup ((l.map pn).map (frz n)) = _
  rw [List.map_map]
  congr 1
  apply List.map_congr_left
  intro s _
  cases n <;> rfl
theorem frz_nd (d : Nd) : frz 2 (ndV d) = ndV d := by
  show PV.tup [frz 1 (.int d.1), frz 1 (.tup (d.2.map pn))] = _
  rw [frz_pns]
  rfl
theorem frz_row (r : List Nd) : frz 3 (tupV r) = tupV r := by
  show PV.tup ((r.map ndV).map (frz 2)) = _
  rw [List.map_map]
  congr 1
  exact List.map_congr_left fun d _ => frz_nd d
theorem frz_rows (rs : List (List Nd)) : frz 4 (.tup (rs.map tupV)) = .tup (rs.map tupV) := by
  show PV.tup ((rs.map tupV).map (frz 3)) = _
  rw [List.map_map]
  congr 1
  exact List.map_congr_left fun d _ => frz_row d
theorem frz_cs {cs : List (Option Int)} {x : PV} (hx : x = .lst (cs.map cV) ∨ x = .tup (cs.map cV)) : frz 4 x = .tup (cs.map cV) := by
  have : (cs.map cV).map (frz 3) = cs.map cV := by
    rw [List.map_map]
    apply List.map_congr_left
    intro c _
    cases c <;> rfl
  rcases hx with rfl | rfl
  · show PV.tup ((cs.map cV).map (frz 3)) = _
    rw [this]
  · show PV.tup ((cs.map cV).map (frz 3)) = _
    rw [this]
theorem fz_cs {K : PySem.W.Frag} {cs : List (Option Int)} {x : PV} (hx : x = .lst (cs.map cV) ∨ x = .tup (cs.map cV)) (h : cs.length ≤ 1000) : FzP K 4 x := .seq hx (by rw [List.length_map]; exact Nat.le_trans h (by decide)) fun y hy => by
  obtain ⟨c, _, rfl⟩ := List.mem_map.mp hy
  exact .leaf (leaf_cV c) (fun ys => by cases c <;> exact ⟨(fun z => nomatch z), (fun z => nomatch z)⟩) 3
def litS (rs : List (List Nd)) (i : Nat) : List Nat := ((rs.getD i []).headD (0, [])).2
def hvyS (rs : List (List Nd)) (i : Nat) : List Nat := ((rs.getD (i + 1) []).getLastD (0, [])).2
def judged (A : Ad) (L : List Nat) (cs : List (Option Int)) (Q : PV → Prop) : Option Nat → Prop
  | none => Q (.ins A.c_Least ["code", "counts", "levels"] [codeP A.c_Code L, .tup (cs.map cV), .tup ((lv (sgs L (wOf cs))).map tupV)])
  | some i => ∃ L', bump (-1) (hvyS (lv (sgs L (wOf cs))) i) (bump 1 (litS (lv (sgs L (wOf cs))) i) (zl L)) = zl L' ∧ GoodC L' ∧ (∀ s ∈ litS (lv (sgs L (wOf cs))) i, s < L.length) ∧ (∀ s ∈ hvyS (lv (sgs L (wOf cs))) i, s < L.length) ∧
    Q (.ins A.c_Better ["code", "counts", "light", "heavy", "other"] [codeP A.c_Code L, .tup (cs.map cV), .tup ((litS (lv (sgs L (wOf cs))) i).map pn), .tup ((hvyS (lv (sgs L (wOf cs))) i).map pn), codeP A.c_Code L'])
def pJudge (A : Ad) := pCk A fun L cs Q => (∀ r ∈ lv (sgs L (wOf cs)), r ≠ []) ∧ judged A L cs Q (abv 0 (lv (sgs L (wOf cs))))

variable {P : Program} {w : World} {K : PySem.W.Frag} {mg : Str → Option Value} {base : Heap} {A : Ad}
theorem sc_judge : FnScope ["code", "counts", "rows", "level", "light", "heavy"] ["code", "counts"] (defScope s_judge) := ⟨rfl, rfl, rfl, by decide +kernel, rfl, by decide +kernel, by decide +kernel⟩

theorem ok_judge (T : Txt K mg A) : FnOk P w K mg base (L2.CX P w) 9 A.a_judge A.d_judge ["code", "counts"] (spP (pJudge A)) := by
  have G_levels := ok_levels (P := P) (w := w) (base := base) T
  have G_lighterabove := ok_lighterabove (P := P) (w := w) (base := base) T
  have G_beyond := ok_beyond (P := P) (w := w) (base := base) T
  have G_Least := ok_Least (P := P) (w := w) (base := base) T
  have G_Better := ok_Better (P := P) (w := w) (base := base) T
  refine T.F_judge.okX sc_judge (fun vs H Q E h => spP_len (n := 2) h fun xs Qp Ep q => ?_) (fun cdv Ar outer s H vs Q E hr h => ?_)
  · obtain ⟨L, cs, x, rfl, hx, gc, q, q2, q3, q4⟩ := q; rfl
  · refine ⟨_, (pss_cons (ps_set (i := 2) sc_judge.nd rfl (Or.inl rfl) (pe_call G_levels (hr.mono (by decide)) (by rfl) T.g_levels T.F_levels.kp T.b_levels .nil (passes_call (takes_of rfl rfl rfl rfl) (fun _ _ _ _ h => h)) (pa_cons (pv 0) (pa_cons (pv 1) pa_nil))))
      (pss_cons (ps_set (i := 3) sc_judge.nd rfl (Or.inl rfl) (pe_call G_lighterabove (hr.mono (by decide)) (by rfl) T.g_lighterabove T.F_lighterabove.kp T.b_lighterabove .nil pass0 (pa_cons (pv 2) pa_nil)))
      (pss_cons (ps_if (pt_cmpR op_isN (pv 3) pe_non (nomark _)) (pss_one (ps_ret (pe_make T.O_Least.M G_Least (hr.mono (by decide)) (by rfl) T.g_Least T.b_Least .nil (passes_call (takes_of rfl rfl rfl rfl) (fun _ _ _ _ h => h)) (pa_cons (pv 0) (pa_cons (pv 1) (pa_cons (pv 2) pa_nil))))))
        pss_nil)
      (pss_cons (ps_set (i := 4) sc_judge.nd rfl (Or.inl rfl) (pe_ix ix_tup (pe_ix ix_tup (pe_ix ix_tup (pv 2) (pv 3) (fun _ _ => rfl)) pe_int (fun _ _ => rfl)) pe_int (fun _ _ => rfl)))
      (pss_cons (ps_set (i := 5) sc_judge.nd rfl (Or.inl rfl) (pe_ix ix_tup (pe_ix ix_tup (pe_ix ix_tup (pv 2) (pe_op op_add (pv 3) pe_int) (fun _ _ => rfl)) (pe_un un_neg pe_int) (fun _ _ => rfl)) pe_int (fun _ _ => rfl)))
      (pss_one (ps_ret (pe_make T.O_Better.M G_Better (hr.mono (by decide)) (by rfl) T.g_Better T.b_Better .nil (passes_call (takes_of rfl rfl rfl rfl) (fun _ _ _ _ h => h)) (pa_cons (pv 0) (pa_cons (pv 1) (pa_cons (pv 4) (pa_cons (pv 5) (pa_cons (pe_call G_beyond (hr.mono (by decide)) (by rfl) T.g_beyond T.F_beyond.kp T.b_beyond .nil (passes_call (takes_of rfl rfl rfl rfl) (fun _ _ _ _ h => h)) (pa_cons (pv 0) (pa_cons (pv 4) (pa_cons (pv 5) pa_nil)))) pa_nil))))))))))))), ?_⟩
    refine def_end2 (N := ["code", "counts", "rows", "level", "light", "heavy"]) K h fun S xs Qp hK hE q => ⟨_, inferInstance, ?_⟩
    obtain ⟨L, cs, x, rfl, hx, gc, q, q2, q3, q4⟩ := q
    change fSeq _ _ _ [some (.fr (codeP A.c_Code L)), some (.fr x), none, none, none, none]
    simp only [fSeq, fSet, fOfE, fOp, fUn, fIU, fVar, fC, fII, fIB, fIIc, fIxT, fIxL, fLst, fLstO, fCons, fTup, fNil, fB, fTrue, fgName, fgTup, fgCons, fgNil, fIt, fRng3, fRng2, fRng1, fLc2O, fLc2L, fLcO, fLc, fLcL, fRet, fCB, fStar, fCall, wipeE, List.getElem?_cons_zero, List.getElem?_cons_succ, List.set_cons_zero, List.set_cons_succ, SV.pv, PV.seq, fIfS, fMake]
    refine ⟨L, cs, x, rfl, hx, gc, fun hn hc hl => ?_, q2, q3, q4⟩
    obtain ⟨hne, qj⟩ := q hn hc hl
    have gg := gok gc (wOf cs)
    have all := lv_all gg.f
    have hlen : (lv (sgs L (wOf cs))).length ≤ 1000 := by rw [lv_len]; exact gg.l
    have gw := gg.w
    have fcode : ∀ L, FzP K 4 (codeP A.c_Code L) := fz_code T.O_Code 4
    have fx : FzP K 4 x := fz_cs hx (Nat.le_trans hn.2 (by decide))
    unfold judged at qj
    clear q gg
    generalize lv (sgs L (wOf cs)) = rs at hne qj all hlen ⊢
    have size : ∀ r ∈ rs, r.length ≤ 1000 ∧ ∀ d ∈ r, d.2.length ≤ 1000 := fun r hr => let ⟨a, b⟩ := all r hr; ⟨Nat.le_trans a.len (Nat.le_trans b gw), a.one (Nat.le_trans b gw)⟩
    have frows : FzP K 4 (.tup (rs.map tupV)) := .seq (.inr rfl) (by rw [List.length_map]; exact Nat.le_trans hlen (by decide)) fun y hy => by
      obtain ⟨r, hr, rfl⟩ := List.mem_map.mp hy
      exact fz_row 0 (size r hr).1 (size r hr).2
    refine ⟨rs, rfl, hne, hlen, ?_⟩
    cases e : abv 0 rs with
    | none =>
      rw [e] at qj
      simp only [abvV, fIsN, PV.isNon, Bool.false_eq_true, if_false, if_true]
      refine ⟨_, _, _, rfl, fcode L, fx, frows, ?_⟩
      rw [frz_cs hx, frz_rows]
      exact qj
    | some i =>
      rw [e] at qj
      obtain ⟨L', hb, gc', hs1, hs2, qj⟩ := qj
      obtain ⟨_, hi⟩ := abv_lt e
      rw [Nat.sub_zero] at hi
      have g0 : rs[i]? = some (rs.getD i []) := by rw [List.getD_eq_getElem?_getD, List.getElem?_eq_getElem (by omega)]; rfl
      have g1 : rs[i + 1]? = some (rs.getD (i + 1) []) := by rw [List.getD_eq_getElem?_getD, List.getElem?_eq_getElem hi]; rfl
      have n0 := hne _ (List.mem_of_getElem? g0)
      have n1 := hne _ (List.mem_of_getElem? g1)
      have s0 := (size _ (List.mem_of_getElem? g0)).2
      have s1 := (size _ (List.mem_of_getElem? g1)).2
      have m0 : (rs.getD i []).headD (0, []) ∈ rs.getD i [] := by
        cases er : rs.getD i [] with
        | nil => exact absurd er n0
        | cons a t => exact List.mem_cons_self ..
      have m1 : (rs.getD (i + 1) []).getLastD (0, []) ∈ rs.getD (i + 1) [] := by
        rw [List.getLastD_eq_getLast?, List.getLast?_eq_some_getLast n1]
        exact List.getLast_mem n1
      simp only [abvV, fIsN, PV.isNon, Bool.false_eq_true, if_false, if_true]
      refine ⟨_, atI_map (n := i) rfl g0, _, at_first n0, _, rfl, _, atI_map (n := i + 1) (by omega) g1, _, at_last n1, _, rfl, ?_⟩
      refine ⟨L, litS rs i, hvyS rs i, L', rfl, gc, hs1, hs2, hb, gc', ?_⟩
      refine ⟨_, _, _, _, _, rfl, fcode L, fx, fz_pns 3 (s0 _ m0), fz_pns 3 (s1 _ m1), fcode L', ?_⟩
      rw [frz_cs hx, frz_pns, frz_pns]
      exact qj
end
end Z

set_option Elab.async false
set_option linter.all false
set_option maxRecDepth 100000
set_option maxHeartbeats 4000000
set_option synthInstance.maxHeartbeats 4000000
set_option synthInstance.maxSize 100000
namespace Z
open PySem L2 XV KR PL LamX
/-! code == code, both with canonical words -/
section
variable {P : Program} {w : World} {K : PySem.W.Frag} {mg : Str → Option Value} {base : Heap} {A : Ad}
theorem words_dat : ∀ ws : List (List Nat), allDat (ws.map fun x => PV.str (txt x)) = true
  | [] => by rw [List.map_nil, allDat]
  | x :: ws => by
    rw [List.map_cons, allDat_cons, words_dat ws, PV.isDat]
    rfl
theorem bit_ok {x : List Nat} (h : ∀ c ∈ x, c = 48 ∨ c = 49) : PyData.strOk (txt x) = true := by
  unfold PyData.strOk txt
  rw [Array.all_eq_true']
  intro c hc
  have := h c (by simpa using hc)
  simp only [decide_eq_true_eq]
  omega
theorem cw_ok1 {L : List Nat} : ∀ x ∈ cw L, PyData.strOk (txt x) = true := fun x hx => by
  unfold cw at hx
  obtain ⟨p, _, rfl⟩ := List.mem_map.mp hx
  exact bit_ok (bits_01 _ _)
theorem words_lay : ∀ ws : List (List Nat), (∀ x ∈ ws, PyData.strOk (txt x) = true) → PyData.canLayAll0 (ws.map fun x => PyData.str (txt x)) = true ∧ PyData.depthAll (ws.map fun x => PyData.str (txt x)) = 0
  | [], _ => by simp [PyData.canLayAll0, PyData.depthAll]
  | x :: ws, h => by
    obtain ⟨h1, h2⟩ := words_lay ws fun y hy => h y (List.mem_cons_of_mem _ hy)
    simp [PyData.canLayAll0, PyData.canLay0, PyData.depthAll, PyData.depth, h1, h2, h x (List.mem_cons_self ..)]
theorem words_dats (ws : List (List Nat)) : dats (ws.map fun x => PV.str (txt x)) = ws.map fun x => PyData.str (txt x) := by
  rw [dats_map, List.map_map]
  rfl
theorem words_shaped (ws : List (List Nat)) (h : ∀ x ∈ ws, PyData.strOk (txt x) = true) : SeqAt.shaped (PV.tup (ws.map fun x => PV.str (txt x))).dat = true := by
  obtain ⟨h1, h2⟩ := words_lay ws h
  rw [dat_tup, words_dats]
  simp [SeqAt.shaped, PyData.canLay0, PyData.depth, h1, h2]
theorem eqv_refl_strs : ∀ xs : List (List Nat), PyData.eqvAll (xs.map fun x => PyData.str (txt x)) (xs.map fun x => PyData.str (txt x)) = true
  | [] => rfl
  | x :: xs => by
    show ((txt x == txt x) && PyData.eqvAll (xs.map fun x => PyData.str (txt x)) (xs.map fun x => PyData.str (txt x))) = true
    rw [beq_self_eq_true, eqv_refl_strs xs]
    rfl
theorem words_eqv (ws : List (List Nat)) : PyData.eqv (PV.tup (ws.map fun x => PV.str (txt x))).dat (PV.tup (ws.map fun x => PV.str (txt x))).dat = true := by
  rw [dat_tup, words_dats]
  exact eqv_refl_strs ws
/-- two codes with the same lengths and the canonical words -/
def pEq (C : Addr) : List PV → (PV → Prop) → (Addr → List (Str × PV) → Prop) → Prop := fun xs Q _ => ∃ L : List Nat, xs = [codeP C L, codeP C L] ∧ Q (.bl true)
theorem sc_eq : FnScope ["self", "other"] ["self", "other"] (defScope s_eq) := ⟨rfl, rfl, rfl, by decide +kernel, rfl, by decide +kernel, by decide +kernel⟩
theorem ok_eqP (T : Txt K mg A) : FnOk P w K mg base CX0 1 A.a_eq A.d_eq ["self", "other"] (spP (pEq A.c_Code)) := by
  refine T.F_eq.ok sc_eq (fun vs H Q E h => spP_len (n := 2) h fun xs Qp Ep q => ?_) (fun cdv Ar outer s H vs Q E hr h => ?_)
  · obtain ⟨L, rfl, q⟩ := q; rfl
  · obtain ⟨O, xs, Qp, Ep, oh, r, ⟨L, rfl, q⟩, kq, ke⟩ := h
    match vs, r with
    | [v, u], ⟨r1, r2, _⟩ =>
      obtain ⟨a, dx, us, rfl, hi, hl, rs⟩ := r1
      obtain ⟨b, dy, us2, rfl, hi2, hl2, rs2⟩ := r2
      have Ic := T.Ico
      have Co := T.Co
      refine ⟨_, (pss_one (ps_ret (pe_and (pe_callB call_isi (by rfl) T.z_isinstance (by decide +kernel) (pa_cons (pv 1) (pa_cons (pe_glob (v := .ref _) rfl T.g_Code rfl) pa_nil))) (pe_one (pe_cmpR (op_eqD hr.units) (pe_fld (pv 0) rfl) (pe_fld (pv 1) rfl) (nomark _)))))), ?_⟩
      refine ⟨_, rfl, .ref b, .ref A.c_Code, .ref A.c_Code, .ref A.c_Code, true, rfl, .own A.c_Code, .base (.ins hi2.2.ins Ic.cl Ic.ha Ic.hn Ic.ht Ic.hm), T.Ceq.kc, ?_⟩
      refine ⟨true, rfl, iteT ?_⟩
      match us, rs, us2, rs2 with
      | [u1, u2, u3, u4], ⟨w1, _⟩, [z1, z2, z3, z4], ⟨w2, _⟩ =>
        refine ⟨_, rfl, a, _, dx, _, u1, rfl, hi.2.ins, Co.cl, Co.n_words, by kernel_rfl, ?_⟩
        refine ⟨_, rfl, b, _, dy, _, z1, rfl, hi2.2.ins, Co.cl, Co.n_words, by kernel_rfl, ?_⟩
        refine ⟨_, _, dat_dp _ _ w1 (by rw [isDat_tup]; exact words_dat _), dat_dp _ _ w2 (by rw [isDat_tup]; exact words_dat _), words_shaped _ cw_ok1, words_shaped _ cw_ok1, ?_⟩
        rw [words_eqv]
        exact kq _ (.bl true) H (.refl _) (rfl : V.bl true = V.bl true) q
end
def spEqR (C : Addr) : Sp := fun vs H Q E => spP (pEq C) (vs ++ []) H Q E
def fEqCode (K : PySem.W.Frag) (C : Addr) : PV → PV → (PV → Prop) → Prop := fun x y Q => PySem.W.notFirst K C (.ref C) = true ∧ ∃ L : List Nat, x = codeP C L ∧ y = codeP C L ∧ Q (.bl true)
instance {S : Sit} {K : PySem.W.Frag} {C : Addr} {E : XK} : R2P S (rEqI K C (spEqR C) E) (fEqCode K C) := ⟨fun {O H v w x y Q Qp} oh r1 r2 q k => by
  obtain ⟨nf, L, rfl, rfl, q⟩ := q
  have r1' := r1
  have r2' := r2
  obtain ⟨a, dx, us, rfl, hi, hl, rs⟩ := r1
  obtain ⟨b, dy, us2, rfl, hi2, hl2, rs2⟩ := r2
  exact ⟨a, dx, _, .ref C, rfl, hi.2.ins, .inl ⟨b, dy, _, C, rfl, hi2.2.ins, rfl⟩, nf, O, [codeP C L, codeP C L], Qp, fun _ _ => False, oh, ⟨r1', r2', trivial⟩, ⟨L, rfl, q⟩, fun v x H' s r q => k v x H' s r q, fun _ _ _ _ _ _ _ _ _ _ z => z.elim⟩⟩
theorem op_eqIK {X : Cx} {CX : CXT} {C g : Addr} {n : Nat} {sp : Sp} {E : XK} {K : PySem.W.Frag} (hK : X.K = K) (hs : PySem.W.findIn K (.ref C) "__eq__" = some (some (.ref g))) (hf : PySem.W.isFn K (.ref g) = true) (F : FnR X.prog X.w K X.mg X.base CX n g sp) (hr : Room n X.A) (hx : Passes CX X E) : OpR X (compareOp .Eq) (rEqI K C sp E) := by
  subst hK
  exact op_eqI hs hf F hr hx
end Z

set_option Elab.async false
set_option linter.all false
set_option maxRecDepth 100000
set_option maxHeartbeats 8000000
namespace Z
open PySem L2 KR
section
variable {P : Program} {w : World} {K : PySem.W.Frag} {mg : Str → Option Value} {base : Heap} {A : Ad}
def spLof : Sp := fun vs H Q _ => ∃ (d lc : Addr) (n k : Nat), vs = [.ref d, .int (n : Int)] ∧ Pen H d lc k ∧ 2 ≤ n ∧ n ≤ 26 ∧ k ≤ 900000 ∧
  ∀ a H' k' L, k' ≤ k + 24 → Pen H' d lc k' → But d H H' → H a = none → H' a = some (.lst (Ls L)) → Good L → L.length = n → Q (.ref a) H'
theorem sc_lof : FnScope ["_law_pen", "_law_many", "_law_found", "_law_k", "_law_at"] ["_law_pen", "_law_many"] (defScope s_lof) := ⟨rfl, rfl, rfl, by decide +kernel, rfl, by decide +kernel, by decide +kernel⟩
theorem ok_lof (T : Txt K mg A) : FnOk P w K mg base CX0 2 A.a_lof A.d_lof ["_law_pen", "_law_many"] spLof := by
  have G_draw := ok_draw (P := P) (w := w) (base := base) T
  refine T.F_lof.ok sc_lof (fun vs H Q E h => ?_) (fun cdv Ar outer s H vs Q E hr h => ?_)
  · obtain ⟨d, lc, n, k, rfl, _⟩ := h; rfl
  · obtain ⟨d, lc, n, k, rfl, pen, n2, n26, hk, kq⟩ := h
    refine ⟨_, (pss_cons (ps_set (i := 2) sc_lof.nd rfl (Or.inl rfl) (pe_lst (pa_cons pe_int (pa_cons pe_int pa_nil))))
      (pss_cons (ps_for PassesOwn.never rfl (pi_range1 (by rfl) T.z_range (pa_cons (pe_op op_sub (pv 1) pe_int) pa_nil)) (pg_name (i := 3) sc_lof.nd rfl (Or.inl rfl))
         (pss_cons (ps_set (i := 4) sc_lof.nd rfl (Or.inl rfl) (pe_call G_draw (hr.mono (by decide)) (by rfl) T.g_draw T.F_draw.kp T.b_draw .nil pass0 (pa_cons (pv 0) (pa_cons (pe_callB call_len_seq (by rfl) T.z_len PySem.boot_len (pa_cons (pv 2) pa_nil)) pa_nil))))
         (pss_cons (ps_asg (pe_op op_add (pe_ix ix_list (pv 2) (pv 4) (fun _ _ => rfl)) pe_int) (pg_sub (pv 2) (pv 4) set_list))
         (pss_one (ps_expr (pe_bm PySem.F.plainAttrs_list PySem.F.slot_list_append PySem.F.type_list_append mt_append (pv 2) (pa_cons (pe_ix ix_list (pv 2) (pv 4) (fun _ _ => rfl)) pa_nil)))))))
      (pss_one (ps_ret (pv 2))))), ?_⟩
    refine ⟨(by show 2 ≤ sizeLine; decide), fun p np => ?_⟩
    have s1 := same_new (o := .lst [V.int 1, .int 1]) np
    have e1 : upd H p (.lst [V.int 1, .int 1]) p = some (.lst (Ls [1, 1])) := upd_same
    have pen1 := pen.same s1
    obtain ⟨xc, hxc⟩ := pen.cells
    obtain ⟨xd, hxd⟩ := pen.some
    have dp : d ≠ p := ne_of_none hxd np
    have lp : lc ≠ p := ne_of_none hxc np
    generalize upd H p (.lst [V.int 1, .int 1]) = H1 at s1 e1 pen1 ⊢
    refine ⟨_, rfl, _, _, rfl, rfl, _, rfl, by omega, by omega, ?_⟩
    refine for_range (lo := 0) (n := ((n : Int) - 2).toNat) (fun j σ G => ∃ (L : List Nat) (k' : Nat) (z4 z5 : Option V), σ = [some (.ref d), some (.int (n : Int)), some (.ref p), z4, z5] ∧ k' ≤ k + j ∧ Pen G d lc k' ∧ But d H G ∧ G p = some (.lst (Ls L)) ∧ L.length = j + 2 ∧ (∀ l ∈ L, 1 ≤ l ∧ l ≤ j + 1) ∧ wsum L = 2 ^ 25)
      ⟨[1, 1], k, _, _, rfl, Nat.le_refl _, pen1, But.of s1, e1, rfl, fun l hl => by simp at hl; omega, by decide⟩ ?_ ?_
    · rintro j σ G1 hj ⟨L, k', z4, z5, rfl, hk', pn, bt, hp, len, hb, hs⟩
      have ll := Ls_len L
      refine ⟨_, rfl, _, rfl, p, _, rfl, .inl (SqL.of hp), d, lc, _, k', rfl, pn, by omega, by omega, by omega, fun v G2 k2 v0 v1 kk pn2 bt2 => ?_⟩
      obtain ⟨x0, pe⟩ := pn.some
      have hp2 : G2 p = some (.lst (Ls L)) := bt2 _ _ (ne_of hp pe (fun z => nomatch z)) hp
      obtain ⟨i, rfl⟩ : ∃ i : Nat, v = (i : Int) := ⟨v.toNat, (Int.toNat_of_nonneg v0).symm⟩
      have il : i < L.length := by omega
      have hLi := List.getElem?_eq_getElem il
      have rb := hb _ (List.getElem_mem il)
      have eix : ixN (Ls L).length ((i : Nat) : Int) = some i := by
        unfold ixN
        rw [if_pos (by omega), if_pos (by omega), Int.toNat_natCast]
      refine ⟨_, rfl, _, rfl, p, _, _, _, rfl, rfl, SqL.of hp2, at_of rfl (Ls_at hLi), _, _, rfl, rfl, ?_⟩
      refine ⟨_, rfl, _, rfl, p, _, _, i, rfl, rfl, hp2, eix, ?_⟩
      have es : (Ls L).set i (.int ((L[i] : Nat) + 1 : Int)) = Ls (L.set i (L[i] + 1)) := by
        unfold Ls
        rw [List.map_set, List.map_set]
        rfl
      rw [es]
      have e3 : upd G2 p (.lst (Ls (L.set i (L[i] + 1)))) p = some (.lst (Ls (L.set i (L[i] + 1)))) := upd_same
      have hL2 : (L.set i (L[i] + 1))[i]? = some (L[i] + 1) := List.getElem?_set_self il
      refine ⟨_, rfl, .inl ⟨rfl, _, SqL.of e3⟩, _, rfl, _, rfl, p, _, _, _, rfl, rfl, SqL.of e3, at_of rfl (Ls_at hL2), p, _, _, rfl, rfl, e3, by rw [Ls_len, List.length_set, sizeLine_eq]; omega, ?_⟩
      refine ⟨L.set i (L[i] + 1) ++ [L[i] + 1], k2, some (.int (0 + (j : Int))), some (.int (i : Int)), rfl, by omega, (pn2.upd dp lp).upd dp lp, fun b o nb e => ?_, ?_, ?_, ?_, ?_⟩
      · have nbp : b ≠ p := ne_of_none e np
        rw [upd_ne nbp, upd_ne nbp]
        exact bt2 _ _ nb (bt _ _ nb e)
      · rw [upd_same]
        unfold Ls
        rw [List.map_append, List.map_append]
        rfl
      · rw [List.length_append, List.length_set, len]; rfl
      · intro l hl
        rcases List.mem_append.mp hl with hl | hl
        · rcases List.mem_or_eq_of_mem_set hl with hl | hl
          · have := hb l hl; omega
          · omega
        · have := List.mem_singleton.mp hl; omega
      · rw [wsum_step il (by omega)]; exact hs
    · rintro σ G1 ⟨L, k', z4, z5, rfl, hk', pn, bt, hp, len, hb, hs⟩
      have e : ((n : Int) - 2).toNat = n - 2 := by omega
      rw [e] at hk' len hb
      refine ⟨_, rfl, kq p G1 k' L (by omega) pn bt np hp (good_of (by omega) (by omega) hs fun l hl => ?_) (by omega)⟩
      have := hb l hl
      omega
end
namespace G39
open PL
theorem goodC_of {L : List Nat} (G : Good L) : GoodC L := by
  have all : ∀ l ∈ L, 1 ≤ l ∧ l ≤ 25 := fun l hl => by
    obtain ⟨i, hi⟩ := List.mem_iff_getElem?.mp hl
    have : (l, i) ∈ pr L := List.mem_of_getElem? (i := i) (by rw [pr_at, hi]; rfl)
    exact G.kr.2 _ this
  refine ⟨G.lo, G.hi, all, ?_⟩
  rw [wid_sum L fun l hl => (all l hl).2, ← pr_fst L, G.kr.1]
  rfl
section
variable {S : Sit}
/-- _law_lengths_of(pen, many) -/
def fLof (i : Nat) (f : FE) : FE := fun env Q => (∃ ns k m, env[i]? = some (some (penS ns k m))) ∧ f env fun x env1 => ∃ (ns : List Int) (k : Nat) (m : Int) (n : Nat), env1[i]? = some (some (penS ns k m)) ∧ x = .int (n : Int) ∧ ns.length ≤ 63 ∧ 0 ≤ m ∧ 2 ≤ n ∧ n ≤ 26 ∧ k ≤ 900000 ∧
  ∀ (L : List Nat) m' k', L.length = n → GoodC L → k' ≤ k + 24 → 0 ≤ m' → Q (.lst (L.map pn)) (env1.set i (some (penS ns k' m')))
instance {E : XK} {i : Nat} {te : TE} {f : FE} [h : PureE S te f] : PureE S (tCall spLof [] E (tCons (tVar i) (tCons te tNil))) (fLof i f) := ⟨fun {O env σ H Q Qp} R q k => by
  obtain ⟨⟨ns0, k0, m0, e0⟩, q⟩ := q
  obtain ⟨d0, l0, hs0, _⟩ := Rel.pen R e0
  refine ⟨_, hs0, h.snd R q fun w x env1 H1 O1 R1 L1 r1 q1 => ?_⟩
  obtain ⟨ns, kk, m, n, e1, rfl, hl, hm, h2, hn, hk, q1⟩ := q1
  obtain ⟨d, l, hs, hd, hll, ld⟩ := Rel.pen R1 e1
  rw [hs0] at hs
  injection hs with hs; injection hs with hs; injection hs with hs; subst hs
  rw [show w = V.int (n : Int) from r1]
  refine ⟨d0, l, n, kk, rfl, ⟨ns, m, hd, hll.2.lst, hm, hl⟩, h2, hn, hk, fun p H' k' L h3 pen bt np gp gL hc => ?_⟩
  obtain ⟨m', hm', R2, L2⟩ := Rel.drawn R1 e1 hs0 hll ld pen bt
  have nO : ¬ O1 p := fun z => by obtain ⟨o, e, _⟩ := R1.oH p z; rw [np] at e; cases e
  exact k _ (.lst (L.map pn)) _ H' O1 R2 (L1.trans L2) ⟨p, _, rfl, ⟨nO, .of gp⟩, reps_Ls L⟩ (q1 L m' k' hc (goodC_of gL) h3 hm')⟩
end
end G39
end Z

set_option Elab.async false
set_option linter.all false
set_option maxRecDepth 100000
set_option maxHeartbeats 4000000
set_option synthInstance.maxHeartbeats 4000000
set_option synthInstance.maxSize 100000
namespace Z
open PySem L2 XV KR PL LamX
section

/-! the law's own: cost, least cost -/
noncomputable def sortI (l : List Int) : List Int := l.mergeSort (PySem.W.dataLe false fun x => (PV.int x).dat)
theorem sortP_int (l : List Int) : sortP (l.map PV.int) = (sortI l).map PV.int := (List.map_mergeSort (f := PV.int) (r := PySem.W.dataLe false fun x => (PV.int x).dat) (s := PySem.W.dataLe false PV.dat) (fun _ _ _ _ => rfl)).symm
theorem sortI_perm (l : List Int) : (sortI l).Perm l := List.mergeSort_perm _ _
theorem okI (l : List Int) : SortOk (l.map PV.int) := by
  have mem : ∀ d ∈ dats (l.map PV.int), ∃ x : Int, d = .int x := fun d hd => by
    rw [dats_map, List.map_map] at hd
    obtain ⟨r, hr, rfl⟩ := List.mem_map.mp hd
    exact ⟨r, by show (PV.int r).dat = _; rw [PV.dat]⟩
  have dat : ∀ l : List Int, allDat (l.map PV.int) = true := fun l => by
    induction l with
    | nil => rw [List.map_nil, allDat]
    | cons x l ih => rw [List.map_cons, allDat_cons, ih, PV.isDat]; rfl
  refine ⟨dat l, fun d hd d' hd' => ?_, .inr fun d hd => ?_, fun d hd => ?_⟩
  · obtain ⟨x, rfl⟩ := mem d hd
    obtain ⟨y, rfl⟩ := mem d' hd'
    rfl
  · obtain ⟨x, rfl⟩ := mem d hd
    exact ⟨(fun z => nomatch z), (fun _ z => nomatch z)⟩
  · obtain ⟨x, rfl⟩ := mem d hd
    exact Nat.zero_le _
theorem at_zero (a b : Int) (t : List Int) : atI (PV.int a :: PV.int b :: t.map PV.int) 0 = some (.int a) := by
  unfold atI ixN
  rw [if_pos (by decide), if_pos (by simp only [List.length_cons]; omega)]
  rfl
theorem at_one (a b : Int) (t : List Int) : atI (PV.int a :: PV.int b :: t.map PV.int) 1 = some (.int b) := by
  unfold atI ixN
  rw [if_pos (by decide), if_pos (by simp only [List.length_cons]; omega)]
  rfl
theorem cut_two (a b : Int) (t : List Int) : cutP ((a :: b :: t).map PV.int) (some 2) none = t.map PV.int := by
  have hl : ((a :: b :: t).map PV.int).length = t.length + 2 := by simp
  unfold cutP
  rw [hl]
  have h1 : HT.sIx (t.length + 2) 0 (some 2) = 2 := by
    unfold HT.sIx
    simp
    try omega
  have h2 : HT.sIx (t.length + 2) (t.length + 2) none = t.length + 2 := by
    unfold HT.sIx
    rfl
  rw [h1, h2]
  show (t.map PV.int).take (t.length + 2 - 2) = _
  rw [Nat.add_sub_cancel, List.take_of_length_le (by rw [List.length_map]; exact Nat.le_refl _)]
/-- n joins of the two smallest -/
noncomputable def hloop : Nat → List Int → Int → Int
  | n + 1, a :: b :: t, f => hloop n (sortI (t ++ [a + b])) (f + (a + b))
  | _, _, f => f
noncomputable def hcost (cs : List Int) : Int := hloop (cs.length - 1) (sortI cs) 0

variable {P : Program} {w : World} {K : PySem.W.Frag} {mg : Str → Option Value} {base : Heap} {A : Ad}
theorem sc_leastcost : FnScope ["_law_counts", "_law_left", "_law_found", "_law_turn", "_law_both"] ["_law_counts"] (defScope s_leastcost) := ⟨rfl, rfl, rfl, by decide +kernel, rfl, by decide +kernel, by decide +kernel⟩
def pLeastC : List PV → (PV → Prop) → (Addr → List (Str × PV) → Prop) → Prop := fun xs Q _ => ∃ cs : List Int, xs = [.lst (cs.map PV.int)] ∧ cs.length ≤ 1000 ∧ Q (.int (hcost cs))
theorem ok_leastcost (T : Txt K mg A) : FnOk P w K mg base CX0 1 A.a_leastcost A.d_leastcost ["_law_counts"] (spP pLeastC) := by
  refine T.F_leastcost.ok sc_leastcost (fun vs H Q E h => spP_len (n := 1) h fun xs Qp Ep q => ?_) (fun cdv Ar outer s H vs Q E hr h => ?_)
  · obtain ⟨cs, rfl, hl, q⟩ := q; rfl
  · refine ⟨_, (pss_cons (ps_par (i := 1) (j := 2) (by rfl) sc_leastcost.nd rfl rfl (by decide) rfl rfl (pa_cons (pe_callB (call_sortD hr.units) (by rfl) T.z_sorted (show PySem.bootBuiltins "sorted" = some (.builtin "sorted") by decide +kernel) (pa_cons (pv 0) pa_nil)) (pa_cons pe_int pa_nil)) (by rfl))
      (pss_cons (ps_for PassesOwn.never rfl (pi_range1 (by rfl) T.z_range (pa_cons (pe_op op_sub (pe_callB call_len_seq (by rfl) T.z_len PySem.boot_len (pa_cons (pv 0) pa_nil)) pe_int) pa_nil)) (pg_name (i := 3) sc_leastcost.nd rfl (Or.inl rfl))
         (pss_cons (ps_set (i := 4) sc_leastcost.nd rfl (Or.inl rfl) (pe_op op_add (pe_ix ix_list (pv 1) pe_int (fun _ _ => rfl)) (pe_ix ix_list (pv 1) pe_int (fun _ _ => rfl))))
         (pss_one (ps_par (i := 2) (j := 1) (by rfl) sc_leastcost.nd rfl rfl (by decide) rfl rfl (pa_cons (pe_op op_add (pv 2) (pv 4)) (pa_cons (pe_callB (call_sortD hr.units) (by rfl) T.z_sorted (show PySem.bootBuiltins "sorted" = some (.builtin "sorted") by decide +kernel) (pa_cons (pe_op op_cat (pe_slice sl_list (pv 1) (po_some pe_int) po_none) (pe_lst (pa_cons (pv 4) pa_nil))) pa_nil)) pa_nil)) (by rfl)))))
      (pss_one (ps_ret (pv 2))))), ?_⟩
    refine def_end2 (N := ["_law_counts", "_law_left", "_law_found", "_law_turn", "_law_both"]) K h fun S xs Qp hK hE q => ⟨_, inferInstance, ?_⟩
    obtain ⟨cs, rfl, hl, q⟩ := q
    change fSeq _ _ _ [some (.fr (.lst (cs.map PV.int))), none, none, none, none]
    simp only [fSeq, fSet, fOfE, fOp, fUn, fIU, fVar, fC, fII, fIB, fIIc, fIxT, fIxL, fLst, fLstO, fCons, fTup, fNil, fB, fTrue, fgName, fgTup, fgCons, fgNil, fIt, fRng3, fRng2, fRng1, fLc2O, fLc2L, fLcO, fLc, fLcL, fRet, fCB, fStar, fCall, wipeE, List.getElem?_cons_zero, List.getElem?_cons_succ, List.set_cons_zero, List.set_cons_succ, SV.pv, PV.seq, fSorted, fPar, one]
    have ml : (cs.map PV.int).length = cs.length := List.length_map ..
    refine ⟨_, rfl, okI cs, ?_⟩
    rw [sortP_int]
    change -(2 ^ 62) ≤ ((cs.map PV.int).length : Int) - 1 ∧ ((cs.map PV.int).length : Int) - 1 < 2 ^ 62 ∧ pfor _ _ _ (rangeP 0 (((cs.map PV.int).length : Int) - 1).toNat) _
    rw [ml]
    refine ⟨by omega, by omega, ?_⟩
    have rl : (rangeP 0 ((cs.length : Int) - 1).toNat).length = cs.length - 1 := by rw [rangeP, List.length_map, List.length_range]; omega
    refine pfor_inv (fun i env => ∃ (l : List Int) (f : Int) (z3 z4 : Option SV), env = [some (.fr (.lst (cs.map PV.int))), some (.fr (.lst (l.map PV.int))), some (.fr (.int f)), z3, z4] ∧ l.length = cs.length - i ∧ hloop (cs.length - 1 - i) l f = hcost cs) ⟨sortI cs, 0, none, none, rfl, (sortI_perm cs).length_eq, rfl⟩ (fun i x env hx hI Nx hN => ?_) (fun env hI => ?_)
    · obtain ⟨l, f, z3, z4, rfl, hll, hh⟩ := hI
      have hi : i < cs.length - 1 := by
        have := (List.getElem?_eq_some_iff.mp hx).1
        rwa [rl] at this
      match l, hll, hh with
      | [], hll, _ => rw [List.length_nil] at hll; omega
      | [_], hll, _ => rw [List.length_singleton] at hll; omega
      | a :: b :: t, hll, hh =>
        rw [List.length_cons, List.length_cons] at hll
        rw [show cs.length - 1 - i = (cs.length - 1 - (i + 1)) + 1 by omega, hloop] at hh
        have cut : cutP ((a :: b :: t).map PV.int) (some 2) none = t.map PV.int := cut_two _ _ _
        refine ⟨rfl, _, _, _, rfl, rfl, at_zero _ _ _, rfl, _, _, _, rfl, rfl, at_one _ _ _, ?_⟩
        show _ ≤ sizeLine ∧ _
        refine ⟨by show 1 ≤ sizeLine; decide, ?_⟩
        show (cutP ((a :: b :: t).map PV.int) (some 2) none).length + 1 ≤ sizeLine ∧ ∃ ys, some (cutP ((a :: b :: t).map PV.int) (some 2) none ++ [.int (a + b)]) = some ys ∧ SortOk ys ∧ _
        rw [cut, show t.map PV.int ++ [.int (a + b)] = (t ++ [a + b]).map PV.int by rw [List.map_append]; rfl]
        refine ⟨by rw [List.length_map]; exact Nat.le_trans (by omega : t.length + 1 ≤ 1000) (by decide), _, rfl, okI _, ?_⟩
        rw [sortP_int]
        refine hN _ ⟨_, _, _, _, rfl, ?_, hh⟩
        rw [(sortI_perm _).length_eq, List.length_append, List.length_singleton]
        omega
    · obtain ⟨l, f, z3, z4, rfl, hll, hh⟩ := hI
      rw [rl, Nat.sub_self] at hh
      rw [← hh] at q
      exact q
end
end Z

set_option Elab.async false
set_option linter.all false
set_option maxRecDepth 100000
set_option maxHeartbeats 4000000
set_option synthInstance.maxHeartbeats 4000000
set_option synthInstance.maxSize 100000
namespace Z
open PySem L2 XV KR PL LamX
section

/-! the law's levels -/
theorem pairs_take (ns : List Nd) {i : Nat} (h : i < ns.length / 2) : (pairs ns).take (i + 1) = (pairs ns).take i ++ [joinN (ns.getD (2 * i) (0, [])) (ns.getD (2 * i + 1) (0, []))] := by
  have e : (pairs ns)[i]? = some (joinN (ns.getD (2 * i) (0, [])) (ns.getD (2 * i + 1) (0, []))) := by
    unfold pairs
    rw [List.getElem?_map, List.getElem?_range h]
    rfl
  rw [List.take_succ, e]
  rfl
theorem fLenV_at {i : Nat} {env : PEnv} {xs : List PV} {Q : PV → PEnv → Prop} (h : peek env i = some (.lst xs)) (q : Q (.int xs.length) env) : fLenV i env Q := by
  unfold fLenV
  rw [h]
  exact q
def grow (L : List Nat) (W : List Int) (j : Nat) : List Nd := (grpAt L L.length j).map fun s => (W.getD s 0, [s])
theorem sgs_drop (L : List Nat) (W : List Int) {j : Nat} (h : j ≤ mx L) : (sgs L W).drop j = grow L W j :: (sgs L W).drop (j + 1) := by
  have hl : j < (sgs L W).length := by unfold sgs; rw [List.length_map, List.length_range]; omega
  have e : (sgs L W)[j]? = some (grow L W j) := by
    unfold sgs
    rw [List.getElem?_map, List.getElem?_range (by omega)]
    rfl
  rw [List.getElem?_eq_getElem hl] at e
  rw [List.drop_eq_getElem_cons hl, Option.some.inj e]
/-- a row, picked by the law -/
theorem grow_pick (L : List Nat) (W : List Int) (j : Nat) : (((rangeP 0 L.length).filter fun x => match x with | .int s => decide (L.getD s.toNat 0 = j) | _ => false).map fun x => match x with | .int s => ndV (W.getD s.toNat 0, [s.toNat]) | _ => .non) = (grow L W j).map ndV := by
  unfold rangeP grow grpAt
  rw [List.filter_map, List.map_map, List.map_map]
  have : ((fun x : PV => match x with | .int s => decide (L.getD s.toNat 0 = j) | _ => false) ∘ fun i : Nat => PV.int (0 + (i : Int))) = fun i => decide (L.getD i 0 = j) := by
    funext i
    show decide (L.getD (0 + (i : Int)).toNat 0 = j) = _
    rw [Int.zero_add, Int.toNat_natCast]
  rw [this]
  apply List.map_congr_left
  intro i _
  show ndV (W.getD (0 + (i : Int)).toNat 0, [(0 + (i : Int)).toNat]) = _
  rw [Int.zero_add, Int.toNat_natCast]
  rfl

variable {P : Program} {w : World} {K : PySem.W.Frag} {mg : Str → Option Value} {base : Heap} {A : Ad}
theorem sc_llevels : FnScope ["_law_lengths", "_law_counts", "_law_found", "_law_below", "_law_level", "_law_nodes", "_law_at", "_law_one", "_law_other", "_law_sign"] ["_law_lengths", "_law_counts"] (defScope s_llevels) := ⟨rfl, rfl, rfl, by decide +kernel, rfl, by decide +kernel, by decide +kernel⟩
def pLlev : List PV → (PV → Prop) → (Addr → List (Str × PV) → Prop) → Prop := fun xs Q _ => ∃ (L : List Nat) (W : List Int), xs = [.lst (L.map pn), .lst (W.map PV.int)] ∧ W.length = L.length ∧ GoodC L ∧ Q (.tup ((lv (sgs L W)).map tupV))
theorem ok_llevels (T : Txt K mg A) : FnOk P w K mg base CX0 1 A.a_llevels A.d_llevels ["_law_lengths", "_law_counts"] (spP pLlev) := by
  refine T.F_llevels.ok sc_llevels (fun vs H Q E h => spP_len (n := 2) h fun xs Qp Ep q => ?_) (fun cdv Ar outer s H vs Q E hr h => ?_)
  · obtain ⟨L, W, rfl, hl, gc, q⟩ := q; rfl
  · refine ⟨_, (pss_cons (ps_par (i := 2) (j := 3) (by rfl) sc_llevels.nd rfl rfl (by decide) rfl rfl (pa_cons (pe_lst pa_nil) (pa_cons (pe_lst pa_nil) pa_nil)) (by rfl))
      (pss_cons (ps_for PassesOwn.never rfl (pi_range3 (by rfl) T.z_range (pa_cons (pe_callB (cr_maxE rfl) (by rfl) T.z_max (by decide +kernel) (pa_cons (pv 0) pa_nil)) (pa_cons (pe_un un_neg pe_int) (pa_cons (pe_un un_neg pe_int) pa_nil)))) (pg_name (i := 4) sc_llevels.nd rfl (Or.inr rfl))
         (pss_cons (ps_setLc (i := 5) (own := [("_law_sign", 9)]) (by rfl) sc_llevels.nd rfl rfl (sw_true rfl rfl rfl (by decide +kernel)) (pi_range1 (by rfl) T.z_range (pa_cons (pe_callB call_len_seq (by rfl) T.z_len PySem.boot_len (pa_cons (pv 0) pa_nil)) pa_nil)) (blkOk_by (own := [("_law_sign", 9)]) (N := ["_law_lengths", "_law_counts", "_law_found", "_law_below", "_law_level", "_law_nodes", "_law_at", "_law_one", "_law_other", "_law_sign"]) (sc := defScope s_llevels) (by decide +kernel)) (fun s1 H1 C1 cl1 fp1 => (pg_name (i := 9) sc_llevels.nd rfl (Or.inl rfl))) (fun s1 H1 C1 cl1 fp1 => (pts_one (pt_cmpR op_eq (pe_ix (r := rIxL K) ix_list (pv 0) (pv 9) (fun _ _ => rfl)) (pv 4) (nomark _)))) (fun s1 H1 C1 cl1 fp1 => (pe_tup (pa_cons (pe_ix (r := rIxL K) ix_list (pv 1) (pv 9) (fun _ _ => rfl)) (pa_cons (pe_tup (pa_cons (pv 9) pa_nil)) pa_nil)))))
         (pss_cons (ps_for PassesOwn.never rfl (pi_range1 (by rfl) T.z_range (pa_cons (pe_op op_fdiv (pe_callB call_len_seq (by rfl) T.z_len PySem.boot_len (pa_cons (pv 3) pa_nil)) pe_int) pa_nil)) (pg_name (i := 6) sc_llevels.nd rfl (Or.inl rfl))
            (pss_cons (ps_par (i := 7) (j := 8) (by rfl) sc_llevels.nd rfl rfl (by decide) rfl rfl (pa_cons (pe_ix ix_list (pv 3) (pe_op op_mul pe_int (pv 6)) (fun _ _ => rfl)) (pa_cons (pe_ix ix_list (pv 3) (pe_op op_add (pe_op op_mul pe_int (pv 6)) pe_int) (fun _ _ => rfl)) pa_nil)) (by rfl))
            (pss_one (ps_expr (pe_bm PySem.F.plainAttrs_list PySem.F.slot_list_append PySem.F.type_list_append mt_append (pv 5) (pa_cons (pe_tup (pa_cons (pe_op op_add (pe_ix ix_tup (pv 7) pe_int (fun _ _ => rfl)) (pe_ix ix_tup (pv 8) pe_int (fun _ _ => rfl))) (pa_cons (pe_callTy call_tuple_of (by rfl) T.z_tuple (show PySem.bootBuiltins "tuple" = some (.type "tuple") by decide +kernel) (pa_cons (pe_callB (call_sortD hr.units) (by rfl) T.z_sorted (show PySem.bootBuiltins "sorted" = some (.builtin "sorted") by decide +kernel) (pa_cons (pe_op op_catA (pe_ix ix_tup (pv 7) pe_int (fun _ _ => rfl)) (pe_ix ix_tup (pv 8) pe_int (fun _ _ => rfl))) pa_nil)) pa_nil)) pa_nil))) pa_nil))))))
         (pss_cons (ps_set (i := 3) sc_llevels.nd rfl (Or.inl rfl) (pe_callB (call_sortD hr.units) (by rfl) T.z_sorted (show PySem.bootBuiltins "sorted" = some (.builtin "sorted") by decide +kernel) (pa_cons (pv 5) pa_nil)))
         (pss_one (ps_set (i := 2) sc_llevels.nd rfl (Or.inl rfl) (pe_op op_cat (pe_lst (pa_cons (pe_callTy call_tuple_of (by rfl) T.z_tuple (show PySem.bootBuiltins "tuple" = some (.type "tuple") by decide +kernel) (pa_cons (pv 3) pa_nil)) pa_nil)) (pv 2))))))))
      (pss_one (ps_ret (pe_callTy call_tuple_of (by rfl) T.z_tuple (show PySem.bootBuiltins "tuple" = some (.type "tuple") by decide +kernel) (pa_cons (pv 2) pa_nil)))))), ?_⟩
    refine def_end2 (N := ["_law_lengths", "_law_counts", "_law_found", "_law_below", "_law_level", "_law_nodes", "_law_at", "_law_one", "_law_other", "_law_sign"]) K h fun S xs Qp hK hE q => ⟨_, inferInstance, ?_⟩
    obtain ⟨L, W, rfl, hl, gc, q⟩ := q
    change fSeq _ _ _ [some (.fr (.lst (L.map pn))), some (.fr (.lst (W.map PV.int))), none, none, none, none, none, none, none, none]
    simp only [fSeq, fSet, fOfE, fOp, fUn, fIU, fVar, fC, fII, fIB, fIIc, fIxT, fIxL, fLst, fLstO, fCons, fTup, fNil, fB, fTrue, fgName, fgTup, fgCons, fgNil, fIt, fRng3, fRng2, fRng1, fLc2O, fLc2L, fLcO, fLc, fLcL, fRet, fCB, fStar, fCall, wipeE, List.getElem?_cons_zero, List.getElem?_cons_succ, List.set_cons_zero, List.set_cons_succ, SV.pv, PV.seq, fSorted, fPar, fTupleOf, fCatT, fMaxE, one, fLen]
    have mb : mx L < 26 := by
      have := (gc.all _ (mx_in (fun e => by have := gc.lo; rw [e] at this; exact absurd this (by decide)))).2
      omega
    have hi26 := gc.hi
    have lo2 := gc.lo
    have ml : (L.map pn).length = L.length := List.length_map ..
    refine ⟨by decide, by decide, ?_⟩
    refine ⟨zl L, (by unfold zl; rw [List.map_map]; rfl), by unfold zl; rw [List.length_map]; omega, fun m m1 m2 => ?_⟩
    rw [mx_of (fun e => by rw [e] at lo2; exact absurd lo2 (by decide)) m1 m2]
    refine ⟨((mx L : Int) - (-1)).toNat, RgC.neg (by omega) (by omega) (by omega) (by omega), ?_⟩
    rw [show ((mx L : Int) - (-1)).toNat = mx L + 1 by omega]
    have rl : (rangeC (mx L : Int) (-1) (mx L + 1)).length = mx L + 1 := by rw [rangeC, List.length_map, List.length_range]
    refine pfor_inv (fun i env => ∃ sf sb z4 z5 z6 z7 z8, env = [some (.fr (.lst (L.map pn))), some (.fr (.lst (W.map PV.int))), some sf, some sb, z4, z5, z6, z7, z8, none] ∧ sf.pv = .lst ((lv ((sgs L W).drop (mx L + 1 - i))).map tupV) ∧ sb.pv = rowV ((lv ((sgs L W).drop (mx L + 1 - i))).headD [])) ?_ (fun i x env hx hI Nx hN => ?_) (fun env hI => ?_)
    · have sl : (sgs L W).length = mx L + 1 := by unfold sgs; rw [List.length_map, List.length_range]
      refine ⟨.ol [], .ol [], none, none, none, none, none, rfl, ?_, ?_⟩
      · rw [Nat.sub_zero, ← sl, List.drop_length]; rfl
      · rw [Nat.sub_zero, ← sl, List.drop_length]; rfl
    · obtain ⟨sf, sb, z4, z5, z6, z7, z8, rfl, hsf, hsb⟩ := hI
      have hi : i < mx L + 1 := by
        have := (List.getElem?_eq_some_iff.mp hx).1
        rwa [rl] at this
      obtain ⟨j, hj⟩ : ∃ j, j = mx L - i := ⟨_, rfl⟩
      have ex : x = .int (j : Int) := by
        rw [rangeC, List.getElem?_map, List.getElem?_range hi] at hx
        rw [← Option.some.inj hx]
        show PV.int ((mx L : Int) + (i : Int) * (-1)) = _
        congr 1
        omega
      subst ex
      have gg := gok gc W
      have G := gg.drop (mx L + 1 - i)
      have e1 : mx L + 1 - (i + 1) = j := by omega
      have e2 : (sgs L W).drop j = grow L W j :: (sgs L W).drop (mx L + 1 - i) := by rw [sgs_drop L W (by omega), show j + 1 = mx L + 1 - i by omega]
      have e3 : lv ((sgs L W).drop j) = sortNd (grow L W j ++ pairsR ((lv ((sgs L W).drop (mx L + 1 - i))).headD [])) :: lv ((sgs L W).drop (mx L + 1 - i)) := by rw [e2, lv]
      have gf := lv_head G.f
      have gw := G.w
      have hlen : (lv ((sgs L W).drop (mx L + 1 - i))).length ≤ 26 := by rw [lv_len, List.length_drop]; unfold sgs; rw [List.length_map, List.length_range]; omega
      have gl : (grow L W j).length ≤ 26 := by
        unfold grow grpAt
        rw [List.length_map]
        exact Nat.le_trans (List.length_filter_le _ _) (by rw [List.length_range]; exact hi26)
      rw [e1, e3] at hN
      clear e2 e3 hx
      generalize hr : (lv ((sgs L W).drop (mx L + 1 - i))).headD [] = r at *
      generalize lv ((sgs L W).drop (mx L + 1 - i)) = R at *
      have gr1 : r.length ≤ 1000 := Nat.le_trans gf.1.len (Nat.le_trans gf.2 gw)
      have gr2 := gf.1.one (Nat.le_trans gf.2 gw)
      have hsb' : sb = .fr (rowV r) ∨ sb = .ol (r.map ndV) := by
        cases sb with
        | fr x => exact .inl (by rw [show x = rowV r from hsb])
        | ol xs => exact .inr (by have : xs = r.map ndV := PV.lst.inj hsb; rw [this])
        | oK ks xs => exact nomatch hsb
        | oT ks xs => exact nomatch hsb
      have pk : ∀ a b c z4 z5 z6 z7 z8 z9, peek [a, b, c, some sb, z4, z5, z6, z7, z8, z9] 3 = some (.lst (r.map ndV)) := by
        rcases hsb' with rfl | rfl <;> exact fun _ _ _ _ _ _ _ _ _ => rfl
      change -(2 ^ 62) ≤ ((L.map pn).length : Int) ∧ ((L.map pn).length : Int) < 2 ^ 62 ∧ (rangeP 0 ((L.map pn).length : Int).toNat).length ≤ sizeLine ∧ _ = true ∧ plc _ _ _ _ _ _ [] _
      rw [ml, Int.toNat_natCast]
      refine ⟨by omega, by omega, by rw [rangeP, List.length_map, List.length_range]; exact Nat.le_trans hi26 (by decide), by decide, ?_⟩
      refine plc_filter (fun x => match x with | .int s => decide (L.getD s.toNat 0 = j) | _ => false) (fun x => match x with | .int s => ndV (W.getD s.toNat 0, [s.toNat]) | _ => .non) (fun x hx K1 K' k k' => ?_) ?_
      · obtain ⟨s, hs, rfl⟩ := List.mem_map.mp hx
        rw [List.mem_range] at hs
        simp only [Int.zero_add, Int.toNat_natCast] at k k' ⊢
        have atL : atI (L.map pn) (s : Int) = some (pn (L.getD s 0)) := atI_map (n := s) rfl (by rw [List.getD_eq_getElem?_getD, List.getElem?_eq_getElem hs]; rfl)
        have atW : atI (W.map PV.int) (s : Int) = some (.int (W.getD s 0)) := atI_map (n := s) rfl (by rw [List.getD_eq_getElem?_getD, List.getElem?_eq_getElem (by omega)]; rfl)
        refine ⟨rfl, _, _, _, rfl, rfl, atL, ?_⟩
        show scal (V.int _) (V.int _) = true ∧ _
        refine ⟨rfl, ?_⟩
        show if decide (V.int (L.getD s 0 : Nat) = V.int (j : Nat)) = true then _ else _
        by_cases c : L.getD s 0 = j
        · rw [if_pos (by rw [c]; exact decide_eq_true rfl)]
          exact ⟨rfl, _, _, _, rfl, rfl, atW, by show 1 ≤ sizeLine; decide, by show 2 ≤ sizeLine; decide, k (decide_eq_true c)⟩
        · rw [if_neg (by rw [decide_eq_false (fun z => c (by injection z with z; omega))]; decide)]
          exact k' (decide_eq_false c)
      rw [List.nil_append, grow_pick]
      simp only [fSeq, fFor, fRng1, fCons, fOp, List.set_cons_succ, List.set_cons_zero, wipeE, List.map_cons, List.map_nil]
      refine fLenV_at (pk _ _ _ _ _ _ _ _ _) ?_
      show CDiv ((r.map ndV).length : Int) 2 ∧ _
      refine ⟨⟨by decide, by decide⟩, ?_⟩
      have e4 : (((r.map ndV).length : Int) / 2).toNat = r.length / 2 := by rw [List.length_map]; omega
      change -(2 ^ 62) ≤ ((r.map ndV).length : Int) / 2 ∧ ((r.map ndV).length : Int) / 2 < 2 ^ 62 ∧ pfor _ _ _ (rangeP 0 (((r.map ndV).length : Int) / 2).toNat) _
      rw [e4]
      refine ⟨by rw [List.length_map]; omega, by rw [List.length_map]; omega, ?_⟩
      refine pfor_inv (fun a env => ∃ z6 z7 z8, env = [some (.fr (.lst (L.map pn))), some (.fr (.lst (W.map PV.int))), some sf, some sb, some (.fr (.int (j : Int))), some (.ol ((grow L W j ++ (pairs r).take a).map ndV)), z6, z7, z8, none]) ⟨z6, z7, z8, by rw [List.take_zero, List.append_nil]⟩ (fun a x env hx hI Nx2 hN2 => ?_) (fun env hI => ?_)
      · obtain ⟨z6, z7, z8, rfl⟩ := hI
        have ha : a < r.length / 2 := by
          have := (List.getElem?_eq_some_iff.mp hx).1
          rwa [rangeP, List.length_map, List.length_range] at this
        have ex : x = .int (0 + (a : Int)) := by
          rw [rangeP, List.getElem?_map, List.getElem?_range ha] at hx
          exact (Option.some.inj hx).symm
        subst ex
        have h1 : 2 * a + 1 < r.length := by omega
        have g0 : r[2 * a]? = some (r.getD (2 * a) (0, [])) := by rw [List.getD_eq_getElem?_getD, List.getElem?_eq_getElem (by omega)]; rfl
        have g1 : r[2 * a + 1]? = some (r.getD (2 * a + 1) (0, [])) := by rw [List.getD_eq_getElem?_getD, List.getElem?_eq_getElem h1]; rfl
        have pt := pairs_take r ha
        have pl : ((pairs r).take a).length ≤ 1000 := by rw [List.length_take, pairs_len]; omega
        rw [pt] at hN2
        generalize r.getD (2 * a) (0, []) = m at *
        generalize r.getD (2 * a + 1) (0, []) = n at *
        have a0 : atI (r.map ndV) (2 * (0 + (a : Int))) = some (ndV m) := atI_map (n := 2 * a) (by omega) g0
        have a1 : atI (r.map ndV) (2 * (0 + (a : Int)) + 1) = some (ndV n) := atI_map (n := 2 * a + 1) (by omega) g1
        have l0 := gr2 m (List.mem_of_getElem? g0)
        have l1 := gr2 n (List.mem_of_getElem? g1)
        refine ⟨congrArg Option.isSome (pk _ _ _ _ _ _ _ _ _), .inl ⟨by decide, by decide⟩, _, _, _, pk _ _ _ _ _ _ _ _ _, rfl, a0, congrArg Option.isSome (pk _ _ _ _ _ _ _ _ _), .inl ⟨by decide, by decide⟩, _, _, _, pk _ _ _ _ _ _ _ _ _, rfl, a1, ?_⟩
        refine ⟨⟨_, rfl⟩, _, rfl, _, rfl, _, rfl, _, rfl, by rw [List.length_map, List.length_map]; exact Nat.le_trans (Nat.add_le_add l0 l1) (by decide), ?_⟩
        rw [← List.map_append]
        refine ⟨_, rfl, okS _, _, rfl, ?_⟩
        rw [sortP_pn]
        refine ⟨by show 2 ≤ sizeLine; decide, _, rfl, by rw [List.length_map, List.length_append]; exact Nat.lt_of_le_of_lt (Nat.add_le_add gl pl) (by decide), hN2 _ ⟨some (.fr (.int (0 + (a : Int)))), some (.fr (ndV m)), some (.fr (ndV n)), ?_⟩⟩
        rw [← List.append_assoc, List.map_append (l₁ := grow L W j ++ (pairs r).take a)]
        rfl
      · obtain ⟨z6, z7, z8, rfl⟩ := hI
        rw [show (rangeP 0 (r.length / 2)).length = r.length / 2 by rw [rangeP, List.length_map, List.length_range], List.take_of_length_le (by rw [pairs_len]; exact Nat.le_refl _)]
        rw [← pairs_eq] at hN
        refine ⟨_, rfl, okNd _, ?_⟩
        rw [sortP_nd]
        refine ⟨_, rfl, by show 1 ≤ sizeLine; decide, ?_⟩
        refine fVar_at rfl hsf ?_
        refine ⟨by show 1 + (R.map tupV).length ≤ sizeLine; rw [List.length_map]; exact Nat.le_trans (Nat.add_le_add_left hlen 1) (by decide), hN _ ⟨.fr _, .fr _, _, _, _, _, _, rfl, rfl, rfl⟩⟩
    · obtain ⟨sf, sb, z4, z5, z6, z7, z8, rfl, hsf, hsb⟩ := hI
      rw [rl, Nat.sub_self, List.drop_zero] at hsf
      refine fVar_at rfl hsf ?_
      exact ⟨_, rfl, q⟩
end
end Z

set_option Elab.async false
set_option linter.all false
set_option maxRecDepth 100000
set_option maxHeartbeats 4000000
set_option synthInstance.maxHeartbeats 4000000
set_option synthInstance.maxSize 100000
namespace Z
open PySem L2 XV KR PL LamX
section

/-- counts times lengths -/
def costs (cs : List Int) (L : List Nat) : List Int := List.zipWith (fun c (l : Nat) => c * (l : Int)) cs L
variable {P : Program} {w : World} {K : PySem.W.Frag} {mg : Str → Option Value} {base : Heap} {A : Ad}
theorem sc_cost : FnScope ["_law_lengths", "_law_counts", "_law_count", "_law_length"] ["_law_lengths", "_law_counts"] (defScope s_cost) := ⟨rfl, rfl, rfl, by decide +kernel, rfl, by decide +kernel, by decide +kernel⟩
def pCost : List PV → (PV → Prop) → (Addr → List (Str × PV) → Prop) → Prop := fun xs Q _ => ∃ (L : List Nat) (cs : List Int), xs = [.lst (L.map pn), .lst (cs.map PV.int)] ∧ cs.length = L.length ∧ (∀ l ∈ L, l ≤ 25) ∧ cs.length ≤ 26 ∧ Q (.int (costs cs L).sum)
theorem ok_cost (T : Txt K mg A) : FnOk P w K mg base CX0 2 A.a_cost A.d_cost ["_law_lengths", "_law_counts"] (spP pCost) := by
  refine T.F_cost.ok sc_cost (fun vs H Q E h => spP_len (n := 2) h fun xs Qp Ep q => ?_) (fun cdv Ar outer s H vs Q E hr h => ?_)
  · obtain ⟨L, cs, rfl, hl, h25, h26, q⟩ := q; rfl
  · refine ⟨_, (pss_one (ps_ret (pe_callB (cr_sum rfl) (by rfl) T.z_sum (by decide +kernel) (pa_cons (pe_lc (own := [("_law_count", 2), ("_law_length", 3)]) (by rfl) sc_cost.nd (pi_zip (by rfl) T.z_zip (pa_cons (pv 1) (pa_cons (pv 0) pa_nil))) (blkOk_by (own := [("_law_count", 2), ("_law_length", 3)]) (N := ["_law_lengths", "_law_counts", "_law_count", "_law_length"]) (sc := defScope s_cost) (by decide +kernel)) (fun s1 H1 C1 cl1 fp1 => (pg_tupK (K := K) (n := 2) rfl (by rfl) (pgs_cons (pg_name (i := 2) sc_cost.nd rfl (Or.inl rfl)) (pgs_cons (pg_name (i := 3) sc_cost.nd rfl (Or.inl rfl)) pgs_nil)))) (fun s1 H1 C1 cl1 fp1 => pts_nil) (fun s1 H1 C1 cl1 fp1 => (pe_op op_mul (pv 2) (pv 3)))) pa_nil)))), ?_⟩
    refine def_end2 (N := ["_law_lengths", "_law_counts", "_law_count", "_law_length"]) K h fun S xs Qp hK hE q => ⟨_, inferInstance, ?_⟩
    obtain ⟨L, cs, rfl, hl, h25, h26, q⟩ := q
    show List.length _ ≤ sizeLine ∧ _ ∧ _
    refine ⟨sl_le (by simp; omega), rfl, ?_⟩
    refine plc_map (fun x => match x with | .tup [.int c, .int l] => .int (c * l) | _ => .non) (fun x hx K K' k => ?_) ⟨costs cs L, ?_, q⟩
    · obtain ⟨p, hp, rfl⟩ := List.mem_map.mp hx
      obtain ⟨h1, h2⟩ := List.of_mem_zip hp
      obtain ⟨c, _, e1⟩ := List.mem_map.mp h1
      obtain ⟨l, h3, e2⟩ := List.mem_map.mp h2
      rw [← e1, ← e2] at k ⊢
      have := h25 l h3
      exact ⟨rfl, rfl, .inr ⟨by omega, by omega⟩, k⟩
    · simp only [List.nil_append, costs, List.map_map, List.zip_map]
      rw [List.zip, List.map_zipWith, List.map_zipWith]
      rfl
end
end Z

set_option Elab.async false
set_option linter.all false
set_option maxRecDepth 100000
set_option maxHeartbeats 8000000
/-! _law_wrong -/
namespace Z
open PySem L2 XV KR PL LamX
theorem exm_Ec {K : PySem.W.Frag} {mg : Str → Option Value} {cj C fI : Addr} {x qual : Str} {st : Stmt} {fd : FuncData} {fs : List Str} (E : Ec K mg cj C fI x qual st fd fs) : PySem.W.exmOne K (.ref C) (.ref C) = some true := by
  have s1 : PySem.W.subIn K (.ref C) (.ref C) = some true := by
    obtain ⟨cd, h1, h2⟩ := E.m
    show PySem.W.mroIn K C (.ref C) = some true
    unfold PySem.W.mroIn
    rw [h1, Option.bind_some, h2]
    simp
  exact PySem.W.exm_ref E.R.sb E.R.hd E.ty s1
theorem exm_no {K : PySem.W.Frag} {mg : Str → Option Value} {cj C fI C2 fI2 : Addr} {x qual x2 qual2 : Str} {st st2 : Stmt} {fd fd2 : FuncData} {fs fs2 : List Str} (E : Ec K mg cj C fI x qual st fd fs) (E2 : Ec K mg cj C2 fI2 x2 qual2 st2 fd2 fs2) (n1 : C ≠ C2) (n2 : C ≠ cj) : PySem.W.exmOne K (.ref C2) (.ref C) = some false := by
  have s1 : PySem.W.subIn K (.ref C2) (.ref C) = some false := by
    obtain ⟨cd, h1, h2⟩ := E2.m
    show PySem.W.mroIn K C2 (.ref C) = some false
    unfold PySem.W.mroIn
    rw [h1, Option.bind_some, h2]
    simp [n1.symm, n2.symm, n1, n2]
  exact PySem.W.exm_ref E.R.sb E.R.hd E.ty s1
theorem xf_of {K : PySem.W.Frag} {D : Addr} (R : ErrR K D) : XfC K D := ⟨R.ga, R.gt, R.sb, R.hd⟩

def Ans (Q : VK) (G : Hp) (r : List V) : Prop := ∀ t G', Same G G' → G' t = some (.tup r) → Q (.ref t) G'
/-- what _law_wrong makes of what a call does -/
def TRef (K : PySem.W.Frag) (A : Ad) : (XK → Hp → VK → Prop) → Hp → VK → Prop := fun tl H Q => ∀ (t0 : Addr), H t0 = none → ∀ (E : XK) (Qn : VK),
  (∀ d G i j, G d = some (.xd [("wanted", .int j), ("many", .int i)]) → Ans Q G [.str "size", .int i, .int j] → E (.ref A.c_OtherSize) (some d) G) →
  (∀ d G i, G d = some (.xd [("index", .int i)]) → Ans Q G [.str "count", .int i] → E (.ref A.c_BadCount) (some d) G) →
  (∀ d G i, G d = some (.xd [("most", .int 26), ("many", .int i), ("what", .str "signs")]) → Ans Q G [.str "signs", .int i, .int 26] → E (.ref A.c_TooMany) (some d) G) →
  (∀ v G, Q (.ref t0) G → Qn v G) → tl E (upd H t0 (.tup [])) Qn
section
variable {P : Program} {w : World} {K : PySem.W.Frag} {mg : Str → Option Value} {base : Heap} {A : Ad}
theorem sc_wrong : FnScope ["_law_call", "_law_told", "e"] ["_law_call"] (defScope s_wrong) := ⟨rfl, rfl, rfl, by decide +kernel, rfl, by decide +kernel, by decide +kernel⟩
theorem ref_gives {X : Cx} {cdv : Value} {q : Str} (T : Txt X.K X.mg A) (hg : X.A.guards = some []) {kk : Nat} (hr : Room (kk + 1) X.A) : GivesS X ["_law_call", "_law_told", "e"] "_law_wrong" (defScope s_wrong) A.a_wrong cdv (defBody s_wrong) "_law_call" q (TRef X.K A) := by
  intro f c' s H Q tl act hc h
  refine ⟨_, (pss_cons (ps_set (i := 1) sc_wrong.nd rfl (Or.inl rfl) (pe_tup pa_nil))
    (pss_cons (ps_try_manyAs (i := 2) (tb := fun W D σ H => σ[0]? = some (some (.ref f)) ∧ H c' = some (CodeO c' q) ∧ tl (WE W σ) H (fun _ H' => D.nx σ H')) rfl rfl sc_wrong.nd rfl rfl takes_none5
        (fun W pn xe tk _ => pss_one (ps_expr (act W pn xe _ _ tk)))
        (.cons (c := .ref A.c_OtherSize) ⟨rfl, by decide, .inl T.E_OtherSize.g⟩ (fun a oe cls d pn hz hf => pss_one (ps_set (i := 1) sc_wrong.nd rfl (Or.inl rfl) (pe_tup (pa_cons pe_str (pa_cons (pe_xf (xf_of T.E_OtherSize.R) (T.E_OtherSize.no "many" (by decide +kernel)) hz hf (pv 2)) (pa_cons (pe_xf (xf_of T.E_OtherSize.R) (T.E_OtherSize.no "wanted" (by decide +kernel)) hz hf (pv 2)) pa_nil))))))
        (.cons (c := .ref A.c_BadCount) ⟨rfl, by decide, .inl T.E_BadCount.g⟩ (fun a oe cls d pn hz hf => pss_one (ps_set (i := 1) sc_wrong.nd rfl (Or.inl rfl) (pe_tup (pa_cons pe_str (pa_cons (pe_xf (xf_of T.E_BadCount.R) (T.E_BadCount.no "index" (by decide +kernel)) hz hf (pv 2)) pa_nil)))))
        (.cons (c := .ref A.c_TooMany) ⟨rfl, by decide, .inl T.E_TooMany.g⟩ (fun a oe cls d pn hz hf => pss_one (ps_set (i := 1) sc_wrong.nd rfl (Or.inl rfl) (pe_tup (pa_cons (pe_xf (xf_of T.E_TooMany.R) (T.E_TooMany.no "what" (by decide +kernel)) hz hf (pv 2)) (pa_cons (pe_xf (xf_of T.E_TooMany.R) (T.E_TooMany.no "many" (by decide +kernel)) hz hf (pv 2)) (pa_cons (pe_xf (xf_of T.E_TooMany.R) (T.E_TooMany.no "most" (by decide +kernel)) hz hf (pv 2)) pa_nil))))))
        .nil))))
    (pss_one (ps_ret (pv 1))))), ?_⟩
  refine ⟨(by show 0 ≤ sizeLine; decide), fun t0 nt0 => ?_⟩
  refine ⟨rfl, by rw [upd_ne (ne_of_none hc nt0)]; exact hc, h t0 nt0 _ _ (fun d G i j hd q => ?_) (fun d G i hd q => ?_) (fun d G i hd q => ?_) (fun v G q => ⟨_, rfl, q⟩)⟩
  · exact ⟨true, exm_Ec T.E_OtherSize, fun _ a na => ⟨_, rfl, rfl, rfl, d, _, _, rfl, hd, by kernel_rfl, _, rfl, rfl, rfl, d, _, _, rfl, hd, by kernel_rfl, (by show 3 ≤ sizeLine; decide), fun t nt => ⟨_, rfl, q t _ (same_new nt) upd_same⟩⟩, fun z => nomatch z⟩
  · exact ⟨false, exm_no T.E_OtherSize T.E_BadCount T.n_BadCount_OtherSize.symm T.nj_OtherSize, fun z => (nomatch z), fun _ => ⟨true, exm_Ec T.E_BadCount, fun _ a na => ⟨_, rfl, rfl, rfl, d, _, _, rfl, hd, by kernel_rfl, (by show 2 ≤ sizeLine; decide), fun t nt => ⟨_, rfl, q t _ (same_new nt) upd_same⟩⟩, fun z => nomatch z⟩⟩
  · exact ⟨false, exm_no T.E_OtherSize T.E_TooMany T.n_TooMany_OtherSize.symm T.nj_OtherSize, fun z => (nomatch z), fun _ => ⟨false, exm_no T.E_BadCount T.E_TooMany T.n_TooMany_BadCount.symm T.nj_BadCount, fun z => (nomatch z), fun _ => ⟨true, exm_Ec T.E_TooMany, fun _ a na => ⟨_, rfl, rfl, rfl, d, _, _, rfl, hd, by kernel_rfl, _, rfl, rfl, rfl, d, _, _, rfl, hd, by kernel_rfl, _, rfl, rfl, rfl, d, _, _, rfl, hd, by kernel_rfl, (by show 3 ≤ sizeLine; decide), fun t nt => ⟨_, rfl, q t _ (same_new nt) upd_same⟩⟩, fun z => nomatch z⟩⟩⟩
end
end Z

set_option Elab.async false
set_option linter.all false
set_option maxRecDepth 100000
set_option maxHeartbeats 8000000
/-! _law_refused by values; the script -/
namespace Z
open PySem L2 XV KR PL LamX
theorem zip_inv {α β : Type} : ∀ {fs : List α} {xs : List β} {ps : List (α × β)}, fs.zip xs = ps → fs.length = xs.length → fs = ps.map Prod.fst ∧ xs = ps.map Prod.snd
  | [], [], _, h, _ => by subst h; exact ⟨rfl, rfl⟩
  | f :: fs, x :: xs, _, h, hl => by
    subst h
    obtain ⟨h1, h2⟩ := zip_inv (fs := fs) (xs := xs) rfl (by simpa using hl)
    exact ⟨by rw [List.zip_cons_cons, List.map_cons, ← h1], by rw [List.zip_cons_cons, List.map_cons, ← h2]⟩
/-- what is told of an error -/
def gRef (A : Ad) : Addr → List (Str × PV) → (PV → Prop) → Prop := fun C fs Q =>
  (C = A.c_OtherSize ∧ ∃ i j : Int, fs = ([("wanted", .int j), ("many", .int i)] : List (Str × PV)) ∧ Q (.tup [.str "size", .int i, .int j])) ∨
  (C = A.c_BadCount ∧ ∃ i : Int, fs = ([("index", .int i)] : List (Str × PV)) ∧ Q (.tup [.str "count", .int i])) ∨
  (C = A.c_TooMany ∧ ∃ i : Int, fs = ([("most", .int 26), ("many", .int i), ("what", .str "signs")] : List (Str × PV)) ∧ Q (.tup [.str "signs", .int i, .int 26]))
theorem ans_of {Q : VK} {Qp : PV → Prop} {O : Addr → Prop} {H G : Hp} {xs : List PV} {us : List V} (oh : OnH O G) (s : Same H G) (k : ∀ v x H', Same H H' → Rep (fz O H') x v → Qp x → Q v H') (q : Qp (.tup xs)) (r : Reps (fz O G) xs us) : Ans Q G us := fun t G' s' ht => by
  refine k _ (.tup xs) G' (fun a o e => s' a o (s a o e)) ⟨t, us, rfl, ⟨fun z => ?_, .of ht⟩, Reps.mono (fz_same s') _ _ r⟩ q
  obtain ⟨o, e, n⟩ := oh t z
  rw [s' t o e] at ht; cases ht; exact n
instance {K : PySem.W.Frag} {A : Ad} : TTP (TRef K A) (gRef A) (fun _ Q => Q (.tup [])) := ⟨fun {O tl H Q Qp} oh k h t0 nt0 E Qn kO kC kM kn => by
  have oh' : ∀ {G : Hp}, Same (upd H t0 (.tup [])) G → OnH O G := fun s a z => by
    obtain ⟨o, e, n⟩ := oh a z
    exact ⟨o, s a o (same_upd nt0 a o e), n⟩
  refine h _ E Qn (same_upd nt0) (fun C fs xs us d G s hd hl r q => ?_) (fun v x G s r q => ?_)
  · have sG : Same H G := fun a o e => s a o (same_upd nt0 a o e)
    have hlx : fs.length = xs.length := by rw [hl, r.length]
    rcases q with ⟨rfl, i, j, e, q⟩ | ⟨rfl, i, e, q⟩ | ⟨rfl, i, e, q⟩
    · obtain ⟨rfl, rfl⟩ := zip_inv e hlx
      match us, r with
      | [a, b], ⟨r1, r2, _⟩ =>
        cases (show a = V.int j from r1); cases (show b = V.int i from r2)
        exact kO d G i j hd (ans_of (oh' s) sG k q ⟨rfl, rfl, rfl, trivial⟩)
    · obtain ⟨rfl, rfl⟩ := zip_inv e hlx
      match us, r with
      | [a], ⟨r1, _⟩ =>
        cases (show a = V.int i from r1)
        exact kC d G i hd (ans_of (oh' s) sG k q ⟨rfl, rfl, trivial⟩)
    · obtain ⟨rfl, rfl⟩ := zip_inv e hlx
      match us, r with
      | [a, b, c], ⟨r1, r2, r3, _⟩ =>
        cases (show a = V.int 26 from r1); cases (show b = V.int i from r2); cases (show c = V.str "signs" from r3)
        exact kM d G i hd (ans_of (oh' s) sG k q ⟨rfl, rfl, rfl, trivial⟩)
  · have e := s t0 _ upd_same
    refine kn v G (k _ (.tup []) G (fun a o e => s a o (same_upd nt0 a o e)) ⟨t0, [], rfl, ⟨fun z => ?_, .of e⟩, trivial⟩ q)
    obtain ⟨o, e', n⟩ := oh t0 z
    rw [nt0] at e'; cases e'⟩
end Z

set_option Elab.async false
set_option linter.all false
set_option maxRecDepth 100000
set_option maxHeartbeats 4000000
set_option synthInstance.maxHeartbeats 4000000
set_option synthInstance.maxSize 100000
namespace Z
open PySem L2 XV KR PL LamX
section

instance (n : Nat) : Decidable (sizN n) := by unfold sizN; infer_instance
def wdue (cs : List (Option Int)) (n : Nat) : PV :=
  if sizN cs.length then (match cs.findIdx? (fun c => !goodC c) with | some i => .tup [.str "count", .int (i : Int)] | none => .tup [.str "size", .int (cs.length : Int), .int (n : Int)]) else .tup [.str "signs", .int (cs.length : Int), .int 26]
def badS (cs : List (Option Int)) : List Nat := (List.range cs.length).filter fun i => !goodC (cs.getD i none)
theorem badS_cons (c : Option Int) (cs : List (Option Int)) : badS (c :: cs) = if goodC c then (badS cs).map Nat.succ else 0 :: (badS cs).map Nat.succ := by
  unfold badS
  rw [List.length_cons, List.range_succ_eq_map, List.filter_cons, List.filter_map]
  have : ((fun i => !goodC ((c :: cs).getD i none)) ∘ Nat.succ) = fun i => !goodC (cs.getD i none) := by
    funext i
    rfl
  rw [this]
  show (if (!goodC c) = true then _ else _) = _
  cases goodC c <;> rfl
theorem bad_head : ∀ cs : List (Option Int), cs.findIdx? (fun c => !goodC c) = (badS cs).head?
  | [] => rfl
  | c :: cs => by
    rw [badS_cons, List.findIdx?_cons, bad_head cs]
    cases h : goodC c with
    | true =>
      simp only [Bool.not_true, Bool.false_eq_true, if_false, if_true]
      rw [List.head?_map]
    | false => rfl
theorem bad_none {cs : List (Option Int)} (h : badS cs = []) : cs.findIdx? (fun c => !goodC c) = none := by rw [bad_head, h]; rfl
theorem bad_some {cs : List (Option Int)} {i : Nat} {t : List Nat} (h : badS cs = i :: t) : cs.findIdx? (fun c => !goodC c) = some i := by rw [bad_head, h]; rfl
theorem dN_lay : ∀ r : List Nat, PyData.canLayAll0 (dN r) = true ∧ PyData.depthAll (dN r) = 0
  | [] => by simp [dN, PyData.canLayAll0, PyData.depthAll]
  | l :: r => by
    obtain ⟨h1, h2⟩ := dN_lay r
    show PyData.canLayAll0 (PyData.int (l : Int) :: dN r) = true ∧ PyData.depthAll (PyData.int (l : Int) :: dN r) = 0
    simp [PyData.canLayAll0, PyData.canLay0, PyData.depthAll, PyData.depth, h1, h2]
theorem lst_ok (l : List Nat) : (PV.lst (l.map pn)).isDat = true ∧ SeqAt.shaped (PV.lst (l.map pn)).dat = true := by
  obtain ⟨h1, h2⟩ := dN_lay l
  refine ⟨by rw [isDat_lst]; exact dat_pn l, ?_⟩
  rw [dat_lst, dats_pn]
  simp [SeqAt.shaped, PyData.canLay0, PyData.depth, h1, h2]
theorem lst_eqv (l : List Nat) : PyData.eqv (PV.lst (l.map pn)).dat (PV.lst []).dat = (match l with | [] => true | _ => false) := by
  rw [dat_lst, dat_lst, dats_pn, dats]
  cases l <;> rfl

variable {P : Program} {w : World} {K : PySem.W.Frag} {mg : Str → Option Value} {base : Heap} {A : Ad}
theorem sc_wrongdue : FnScope ["_law_counts", "_law_many", "_law_wrong_here", "_law_index"] ["_law_counts", "_law_many"] (defScope s_wrongdue) := ⟨rfl, rfl, rfl, by decide +kernel, rfl, by decide +kernel, by decide +kernel⟩
def pWdue : List PV → (PV → Prop) → (Addr → List (Str × PV) → Prop) → Prop := fun xs Q _ => ∃ (cs : List (Option Int)) (n : Nat), xs = [.lst (cs.map cV), .int (n : Int)] ∧ cs.length ≤ 1000 ∧ Q (wdue cs n)
theorem ok_wrongdue (T : Txt K mg A) : FnOk P w K mg base CX0 1 A.a_wrongdue A.d_wrongdue ["_law_counts", "_law_many"] (spP pWdue) := by
  refine T.F_wrongdue.ok sc_wrongdue (fun vs H Q E h => spP_len (n := 2) h fun xs Qp Ep q => ?_) (fun cdv Ar outer s H vs Q E hr h => ?_)
  · obtain ⟨cs, n, rfl, hl, q⟩ := q; rfl
  · refine ⟨_, (pss_cons (ps_if (pt_not (pt_chain op_le op_le pe_int (pe_callB call_len_seq (by rfl) T.z_len PySem.boot_len (pa_cons (pv 0) pa_nil)) pe_int)) (pss_one (ps_ret (pe_tup (pa_cons pe_str (pa_cons (pe_callB call_len_seq (by rfl) T.z_len PySem.boot_len (pa_cons (pv 0) pa_nil)) (pa_cons pe_int pa_nil))))))
        pss_nil)
      (pss_cons (ps_setLc (i := 2) (own := [("_law_index", 3)]) (by rfl) sc_wrongdue.nd rfl rfl (sw_true rfl rfl rfl (by decide +kernel)) (pi_range1 (by rfl) T.z_range (pa_cons (pe_callB call_len_seq (by rfl) T.z_len PySem.boot_len (pa_cons (pv 0) pa_nil)) pa_nil)) (blkOk_by (own := [("_law_index", 3)]) (N := ["_law_counts", "_law_many", "_law_wrong_here", "_law_index"]) (sc := defScope s_wrongdue) (by decide +kernel)) (fun s1 H1 C1 cl1 fp1 => (pg_name (i := 3) sc_wrongdue.nd rfl (Or.inl rfl))) (fun s1 H1 C1 cl1 fp1 => (pts_one (PW.pt (pw_or (pt_cmpR op_isN (pe_ix (r := rIxL K) ix_list (pv 0) (pv 3) (fun _ _ => rfl)) pe_non (nomark _)) (pw_or1 (pt_cmpR op_lt (pe_ix (r := rIxL K) ix_list (pv 0) (pv 3) (fun _ _ => rfl)) pe_int (nomark _))))))) (fun s1 H1 C1 cl1 fp1 => (pv 3)))
      (pss_one (ps_ret (pe_ifExp (pt_cmpR (op_neD hr.units) (pv 2) (pe_lst pa_nil) (nomark _)) (pe_tup (pa_cons pe_str (pa_cons (pe_ix ix_list (pv 2) pe_int (fun _ _ => rfl)) pa_nil))) (pe_tup (pa_cons pe_str (pa_cons (pe_callB call_len_seq (by rfl) T.z_len PySem.boot_len (pa_cons (pv 0) pa_nil)) (pa_cons (pv 1) pa_nil))))))))), ?_⟩
    refine def_end2 (N := ["_law_counts", "_law_many", "_law_wrong_here", "_law_index"]) K h fun S xs Qp hK hE q => ⟨_, inferInstance, ?_⟩
    obtain ⟨cs, n, rfl, hl, q⟩ := q
    change fSeq _ _ _ [some (.fr (.lst (cs.map cV))), some (.fr (.int (n : Int))), none, none]
    simp only [fSeq, fSet, fOfE, fOp, fUn, fIU, fVar, fC, fII, fIB, fIIc, fIxT, fIxL, fLst, fLstO, fCons, fTup, fNil, fB, fTrue, fgName, fgTup, fgCons, fgNil, fIt, fRng3, fRng2, fRng1, fLc2O, fLc2L, fLcO, fLc, fLcL, fRet, fCB, fStar, fCall, wipeE, List.getElem?_cons_zero, List.getElem?_cons_succ, List.set_cons_zero, List.set_cons_succ, SV.pv, PV.seq, fIfS, fChain, fEqD, fIsN]
    simp only [fNot, fB, fChain, fC, fIB]
    refine fLenV_at (xs := cs.map cV) rfl ?_
    rw [List.length_map]
    have big : ¬ sizN cs.length → Qp (.tup [.str "signs", .int (cs.length : Int), .int 26]) := fun h => by
      unfold wdue at q
      rw [if_neg h] at q
      exact q
    show if decide ((2 : Int) ≤ (cs.length : Int)) = true then _ else _
    by_cases h2 : 2 ≤ cs.length
    · rw [if_pos (decide_eq_true (by omega))]
      show if (!decide ((cs.length : Int) ≤ 26)) = true then _ else _
      by_cases h26 : cs.length ≤ 26
      · rw [if_neg (by rw [decide_eq_true (show (cs.length : Int) ≤ 26 by omega)]; decide)]
        change -(2 ^ 62) ≤ ((cs.map cV).length : Int) ∧ ((cs.map cV).length : Int) < 2 ^ 62 ∧ (rangeP 0 ((cs.map cV).length : Int).toNat).length ≤ sizeLine ∧ _ = true ∧ plc _ _ _ _ _ _ [] _
        rw [List.length_map, Int.toNat_natCast]
        refine ⟨by omega, by omega, by rw [rangeP, List.length_map, List.length_range]; exact Nat.le_trans hl (by decide), by decide, ?_⟩
        refine plc_filter (fun x => match x with | .int s => !goodC (cs.getD s.toNat none) | _ => false) id (fun x hx K1 K' k k' => ?_) ?_
        · obtain ⟨s, hs, rfl⟩ := List.mem_map.mp hx
          rw [List.mem_range] at hs
          simp only [Int.zero_add, Int.toNat_natCast] at k k' ⊢
          have at0 : atI (cs.map cV) (s : Int) = some (cV (cs.getD s none)) := atI_map (n := s) rfl (by rw [List.getD_eq_getElem?_getD, List.getElem?_eq_getElem hs]; rfl)
          generalize cs.getD s none = c at *
          refine ⟨rfl, _, _, _, rfl, rfl, at0, ?_⟩
          cases c with
          | none => exact k rfl
          | some c =>
            refine ⟨rfl, _, _, _, rfl, rfl, at0, ?_⟩
            show if decide (c < 0) = true then _ else _
            by_cases h : c < 0
            · rw [if_pos (decide_eq_true h)]
              exact k (by show (!decide (0 ≤ c)) = true; rw [decide_eq_false (by omega)]; rfl)
            · rw [if_neg (by rw [decide_eq_false h]; decide)]
              exact k' (by show (!decide (0 ≤ c)) = false; rw [decide_eq_true (by omega)]; rfl)
        · have e : ((rangeP 0 cs.length).filter fun x => match x with | .int s => !goodC (cs.getD s.toNat none) | _ => false).map id = (badS cs).map pn := by
            unfold rangeP badS
            rw [List.filter_map, List.map_map]
            have : ((fun x : PV => match x with | .int s => !goodC (cs.getD s.toNat none) | _ => false) ∘ fun i : Nat => PV.int (0 + (i : Int))) = fun i => !goodC (cs.getD i none) := by
              funext i
              show (!goodC (cs.getD (0 + (i : Int)).toNat none)) = _
              rw [Int.zero_add, Int.toNat_natCast]
            rw [this]
            apply List.map_congr_left
            intro i _
            show PV.int (0 + (i : Int)) = _
            rw [Int.zero_add]
            rfl
          rw [List.nil_append, e]
          obtain ⟨d1, d2⟩ := lst_ok (badS cs)
          obtain ⟨d3, d4⟩ := lst_ok []
          refine ⟨by show 0 ≤ sizeLine; decide, d1, d3, d2, d4, ?_⟩
          unfold wdue at q
          rw [if_pos ⟨h2, h26⟩] at q
          show if (!PyData.eqv (PV.lst ((badS cs).map pn)).dat (PV.lst []).dat) = true then _ else _
          rw [lst_eqv]
          cases eb : badS cs with
          | nil =>
            rw [bad_none eb] at q
            show if (!true) = true then _ else _
            rw [if_neg (by decide)]
            simp only [fTup, fCons, fC]
            refine fLenV_at (xs := cs.map cV) rfl ?_
            rw [List.length_map]
            exact ⟨by show 3 ≤ sizeLine; decide, q⟩
          | cons i t =>
            rw [bad_some eb] at q
            show if (!false) = true then _ else _
            rw [if_pos (show (!false) = true from rfl)]
            refine ⟨rfl, _, _, _, rfl, rfl, atI_map (n := 0) (l := i :: t) rfl rfl, by show 2 ≤ sizeLine; decide, q⟩
      · rw [if_pos (by rw [decide_eq_false (show ¬ (cs.length : Int) ≤ 26 by omega)]; rfl)]
        have := big fun h => h26 h.2
        refine fLenV_at (xs := cs.map cV) rfl ?_
        rw [List.length_map]
        exact ⟨by show 3 ≤ sizeLine; decide, this⟩
    · rw [if_neg (by rw [decide_eq_false (show ¬ (2 : Int) ≤ (cs.length : Int) by omega)]; decide)]
      show if (!false) = true then _ else _
      rw [if_pos (show (!false) = true from rfl)]
      have := big fun h => h2 h.1
      refine fLenV_at (xs := cs.map cV) rfl ?_
      rw [List.length_map]
      exact ⟨by show 3 ≤ sizeLine; decide, this⟩
end
end Z

set_option Elab.async false
set_option linter.all false
/-! joining the two least counts: no full code costs less; levels whose nodes fall cost just so much -/
namespace HU
def ins (x : Int) : List Int → List Int
  | [] => [x]
  | y :: r => if x ≤ y then x :: y :: r else y :: ins x r
def srt : List Int → List Int
  | [] => []
  | x :: r => ins x (srt r)
abbrev Asc (l : List Int) : Prop := l.Pairwise (· ≤ ·)
theorem ins_perm (x : Int) : ∀ l : List Int, (ins x l).Perm (x :: l)
  | [] => .refl _
  | y :: r => by
    unfold ins
    split
    · exact .refl _
    · exact ((ins_perm x r).cons y).trans (.swap x y r)
theorem ins_asc (x : Int) : ∀ {l : List Int}, Asc l → Asc (ins x l)
  | [], _ => by simp [ins]
  | y :: r, h => by
    obtain ⟨h1, h2⟩ := List.pairwise_cons.mp h
    unfold ins
    split
    · rename_i c
      exact List.pairwise_cons.mpr ⟨fun z hz => by
        rcases List.mem_cons.mp hz with rfl | hz
        · exact c
        · exact Int.le_trans c (h1 z hz), h⟩
    · rename_i c
      refine List.pairwise_cons.mpr ⟨fun z hz => ?_, ins_asc x h2⟩
      rcases List.mem_cons.mp ((ins_perm x r).mem_iff.mp hz) with rfl | hz
      · omega
      · exact h1 z hz
theorem srt_perm : ∀ l : List Int, (srt l).Perm l
  | [] => .refl _
  | x :: r => (ins_perm x (srt r)).trans ((srt_perm r).cons x)
theorem srt_asc : ∀ l : List Int, Asc (srt l)
  | [] => .nil
  | x :: r => ins_asc x (srt_asc r)
theorem asc_eq : ∀ {l m : List Int}, Asc l → Asc m → l.Perm m → l = m
  | [], m, _, _, p => (List.Perm.eq_nil p.symm).symm ▸ rfl
  | x :: l, [], _, _, p => by have := p.length_eq; simp at this
  | x :: l, y :: m, h, k, p => by
    obtain ⟨h1, h2⟩ := List.pairwise_cons.mp h
    obtain ⟨k1, k2⟩ := List.pairwise_cons.mp k
    have a : y ≤ x := by
      rcases List.mem_cons.mp (p.mem_iff.mp List.mem_cons_self) with e | e
      · omega
      · exact k1 x e
    have b : x ≤ y := by
      rcases List.mem_cons.mp (p.mem_iff.mpr List.mem_cons_self) with e | e
      · omega
      · exact h1 y e
    have e : x = y := by omega
    subst e
    rw [asc_eq h2 k2 p.cons_inv]
def hN : Nat → List Int → Int
  | 0, _ => 0
  | k + 1, a :: b :: r => (a + b) + hN k (ins (a + b) r)
  | _ + 1, _ => 0
/-- what joining the two least counts costs -/
def huff (l : List Int) : Int := hN (l.length - 1) (srt l)
theorem huff_perm {l m : List Int} (p : l.Perm m) : huff l = huff m := by
  unfold huff
  rw [p.length_eq, asc_eq (srt_asc l) (srt_asc m) ((srt_perm l).trans (p.trans (srt_perm m).symm))]
theorem huff_step {a b : Int} {r : List Int} (ab : a ≤ b) (ha : ∀ x ∈ r, a ≤ x) (hb : ∀ x ∈ r, b ≤ x) : huff (a :: b :: r) = (a + b) + huff ((a + b) :: r) := by
  have e : srt (a :: b :: r) = a :: b :: srt r := by
    refine asc_eq (srt_asc _) ?_ ((srt_perm _).trans ((((srt_perm r).symm).cons b).cons a))
    refine List.pairwise_cons.mpr ⟨fun z hz => ?_, List.pairwise_cons.mpr ⟨fun z hz => hb z ((srt_perm r).mem_iff.mp hz), srt_asc r⟩⟩
    rcases List.mem_cons.mp hz with rfl | hz
    · exact ab
    · exact ha z ((srt_perm r).mem_iff.mp hz)
  show hN (r.length + 1) (srt (a :: b :: r)) = (a + b) + hN r.length (srt ((a + b) :: r))
  rw [e]
  rfl
theorem huff_one (a : Int) : huff [a] = 0 := rfl
/-! ### no full code costs less -/
abbrev Wl := List (Int × Nat)
def cost (P : Wl) : Int := (P.map fun p => p.1 * (p.2 : Int)).sum
def kr (M : Nat) (ls : List Nat) : Nat := (ls.map fun l => 2 ^ (M - l)).sum
theorem sum_perm {l m : List Int} (p : l.Perm m) : l.sum = m.sum := by
  induction p with
  | nil => rfl
  | cons x _ ih => simp [ih]
  | swap x y l => simp; omega
  | trans _ _ a b => exact a.trans b
theorem sumN_perm {l m : List Nat} (p : l.Perm m) : l.sum = m.sum := by
  induction p with
  | nil => rfl
  | cons x _ ih => simp [ih]
  | swap x y l => simp; omega
  | trans _ _ a b => exact a.trans b
theorem cost_perm {P Q : Wl} (p : P.Perm Q) : cost P = cost Q := sum_perm (p.map _)
theorem kr_perm {M : Nat} {l m : List Nat} (p : l.Perm m) : kr M l = kr M m := sumN_perm (p.map _)
theorem cost_cons (p : Int × Nat) (P : Wl) : cost (p :: P) = p.1 * (p.2 : Int) + cost P := by simp [cost]
theorem kr_cons (M l : Nat) (ls : List Nat) : kr M (l :: ls) = 2 ^ (M - l) + kr M ls := by simp [kr]
theorem prod_nn {a b c d : Int} (h : a ≤ b) (k : c ≤ d) : a * d + b * c ≤ a * c + b * d := by
  have := Int.mul_nonneg (Int.sub_nonneg_of_le h) (Int.sub_nonneg_of_le k)
  rw [Int.sub_mul, Int.mul_sub, Int.mul_sub] at this
  omega
theorem exch {P : Wl} {p q : Int × Nat} (hp : p ∈ P) (hq : q ∈ P) (mp : ∀ x ∈ P, p.1 ≤ x.1) (mq : ∀ x ∈ P, x.2 ≤ q.2) :
    ∃ R : Wl, (P.map Prod.fst).Perm (p.1 :: R.map Prod.fst) ∧ (P.map Prod.snd).Perm (q.2 :: R.map Prod.snd) ∧ cost ((p.1, q.2) :: R) ≤ cost P := by
  obtain ⟨S, hS⟩ := (List.perm_cons_erase hp |> fun h => (⟨_, h⟩ : ∃ S, P.Perm (p :: S)))
  rcases List.mem_cons.mp (hS.mem_iff.mp hq) with e | e
  · subst e
    exact ⟨S, hS.map _, hS.map _, by rw [cost_perm hS]; exact Int.le_refl _⟩
  · obtain ⟨U, hU⟩ := (List.perm_cons_erase e |> fun h => (⟨_, h⟩ : ∃ U, S.Perm (q :: U)))
    have h2 : P.Perm (p :: q :: U) := hS.trans (hU.cons p)
    refine ⟨(q.1, p.2) :: U, h2.map _, (h2.map Prod.snd).trans (.swap _ _ _), ?_⟩
    rw [cost_perm h2, cost_cons, cost_cons, cost_cons, cost_cons]
    have a1 := mp q hq
    have a2 : (p.2 : Int) ≤ (q.2 : Int) := by have := mq p hp; omega
    have := prod_nn a1 a2
    show p.1 * (q.2 : Int) + (q.1 * (p.2 : Int) + cost U) ≤ p.1 * (p.2 : Int) + (q.1 * (q.2 : Int) + cost U)
    omega
theorem kr_down {M l : Nat} (hl : l ≤ M) : ∀ {ls : List Nat}, (∀ x ∈ ls, x ≤ l) → kr M ls = 2 ^ (M - l) * kr l ls
  | [], _ => by simp [kr]
  | x :: ls, h => by
    have hx := h x List.mem_cons_self
    rw [kr_cons, kr_cons, kr_down hl (ls := ls) fun y hy => h y (List.mem_cons_of_mem _ hy), Nat.mul_add, ← Nat.pow_add, show M - l + (l - x) = M - x by omega]
theorem kr_even {l : Nat} : ∀ {ls : List Nat}, (∀ x ∈ ls, x < l) → kr l ls % 2 = 0
  | [], _ => rfl
  | x :: ls, h => by
    have hx := h x List.mem_cons_self
    have ih := kr_even (ls := ls) fun y hy => h y (List.mem_cons_of_mem _ hy)
    rw [kr_cons, show l - x = (l - x - 1) + 1 by omega, Nat.pow_succ]
    omega
theorem ex_max : ∀ {P : Wl}, P ≠ [] → ∃ q ∈ P, ∀ x ∈ P, x.2 ≤ q.2
  | [], h => (h rfl).elim
  | [p], _ => ⟨p, List.mem_cons_self, fun x hx => by rw [List.mem_singleton.mp hx]; exact Nat.le_refl _⟩
  | p :: r :: P, _ => by
    obtain ⟨q, hq, h⟩ := ex_max (P := r :: P) (by simp)
    by_cases c : q.2 ≤ p.2
    · exact ⟨p, List.mem_cons_self, fun x hx => by
        rcases List.mem_cons.mp hx with rfl | hx
        · exact Nat.le_refl _
        · exact Nat.le_trans (h x hx) c⟩
    · exact ⟨q, List.mem_cons_of_mem _ hq, fun x hx => by
        rcases List.mem_cons.mp hx with rfl | hx
        · omega
        · exact h x hx⟩
theorem ex_min : ∀ {P : Wl}, P ≠ [] → ∃ q ∈ P, ∀ x ∈ P, q.1 ≤ x.1
  | [], h => (h rfl).elim
  | [p], _ => ⟨p, List.mem_cons_self, fun x hx => by rw [List.mem_singleton.mp hx]; exact Int.le_refl _⟩
  | p :: r :: P, _ => by
    obtain ⟨q, hq, h⟩ := ex_min (P := r :: P) (by simp)
    by_cases c : p.1 ≤ q.1
    · exact ⟨p, List.mem_cons_self, fun x hx => by
        rcases List.mem_cons.mp hx with rfl | hx
        · exact Int.le_refl _
        · exact Int.le_trans c (h x hx)⟩
    · exact ⟨q, List.mem_cons_of_mem _ hq, fun x hx => by
        rcases List.mem_cons.mp hx with rfl | hx
        · omega
        · exact h x hx⟩
theorem kr_big {M : Nat} : ∀ {ls : List Nat}, (∀ x ∈ ls, x ≤ 0) → kr M ls = ls.length * 2 ^ M
  | [], _ => by simp [kr]
  | x :: ls, h => by
    have hx := h x List.mem_cons_self
    rw [kr_cons, kr_big (ls := ls) fun y hy => h y (List.mem_cons_of_mem _ hy), show x = 0 by omega, List.length_cons, Nat.succ_mul]
    simp
    omega
/-- THE LOWER BOUND -/
theorem lower : ∀ (n : Nat) (P : Wl) (M : Nat), P.length = n + 1 → (∀ p ∈ P, p.2 ≤ M) → kr M (P.map Prod.snd) = 2 ^ M → huff (P.map Prod.fst) ≤ cost P
  | 0, P, M, hl, hM, hk => by
    match P, hl with
    | [(w, l)], _ =>
      have hm : l ≤ M := hM (w, l) List.mem_cons_self
      have : l = 0 := by
        have e : 2 ^ (M - l) = 2 ^ M := by simpa [kr] using hk
        rcases Nat.lt_or_ge (M - l) M with c | c
        · exact absurd e (Nat.ne_of_lt (Nat.pow_lt_pow_right (by decide) c))
        · omega
      subst this
      show huff [w] ≤ cost [(w, 0)]
      rw [huff_one]
      simp [cost]
  | n + 1, P, M, hl, hM, hk => by
    have hne : P ≠ [] := fun z => by subst z; simp at hl
    obtain ⟨q, hq, mq⟩ := ex_max hne
    obtain ⟨p, hp, mp⟩ := ex_min hne
    have hqM := hM q hq
    have hk' : kr q.2 (P.map Prod.snd) = 2 ^ q.2 := by
      have h := kr_down hqM (ls := P.map Prod.snd) fun x hx => by obtain ⟨y, hy, rfl⟩ := List.mem_map.mp hx; exact mq y hy
      rw [hk, show (2 : Nat) ^ M = 2 ^ (M - q.2) * 2 ^ q.2 by rw [← Nat.pow_add]; congr 1; omega] at h
      exact (Nat.eq_of_mul_eq_mul_left (Nat.pow_pos (by decide)) h).symm
    have hq0 : 1 ≤ q.2 := by
      refine Nat.one_le_iff_ne_zero.mpr fun z => ?_
      have h := kr_big (M := q.2) (ls := P.map Prod.snd) fun x hx => by obtain ⟨y, hy, rfl⟩ := List.mem_map.mp hx; have := mq y hy; omega
      rw [hk', z, List.length_map, hl] at h
      simp at h
    have evn : 2 ^ q.2 % 2 = 0 := by
      rw [show q.2 = (q.2 - 1) + 1 by omega, Nat.pow_succ]
      omega
    obtain ⟨R, r1, r2, r3⟩ := exch hp hq mp mq
    have kR : 1 + kr q.2 (R.map Prod.snd) = 2 ^ q.2 := by
      rw [← hk', kr_perm r2, kr_cons, Nat.sub_self]
    have lR : R.length = n + 1 := by
      have := r1.length_eq
      simp at this
      omega
    have hRl : ∀ x ∈ R, x.2 ≤ q.2 := fun x hx => by
      have : x.2 ∈ P.map Prod.snd := r2.mem_iff.mpr (List.mem_cons_of_mem _ (List.mem_map.mpr ⟨x, hx, rfl⟩))
      obtain ⟨y, hy, e⟩ := List.mem_map.mp this
      rw [← e]
      exact mq y hy
    have hRw : ∀ x ∈ R, p.1 ≤ x.1 := fun x hx => by
      have : x.1 ∈ P.map Prod.fst := r1.mem_iff.mpr (List.mem_cons_of_mem _ (List.mem_map.mpr ⟨x, hx, rfl⟩))
      obtain ⟨y, hy, e⟩ := List.mem_map.mp this
      rw [← e]
      exact mp y hy
    have hneR : R ≠ [] := fun z => by subst z; simp at lR
    obtain ⟨t, ht, mt⟩ : ∃ t ∈ R, t.2 = q.2 := by
      refine Classical.byContradiction fun no => ?_
      have h := kr_even (l := q.2) (ls := R.map Prod.snd) fun x hx => by
        obtain ⟨y, hy, rfl⟩ := List.mem_map.mp hx
        have h1 := hRl y hy
        have h2 : y.2 ≠ q.2 := fun e => no ⟨y, hy, e⟩
        omega
      omega
    obtain ⟨u, hu, mu⟩ := ex_min hneR
    obtain ⟨U, u1, u2, u3⟩ := exch hu ht mu (fun x hx => by rw [mt]; exact hRl x hx)
    rw [mt] at u2 u3
    have lU : U.length = n := by
      have := u1.length_eq
      simp at this
      omega
    have kU : 2 + kr q.2 (U.map Prod.snd) = 2 ^ q.2 := by
      rw [← kR, kr_perm u2, kr_cons, Nat.sub_self]
      omega
    have hUl : ∀ x ∈ U, x.2 ≤ q.2 := fun x hx => by
      have : x.2 ∈ R.map Prod.snd := u2.mem_iff.mpr (List.mem_cons_of_mem _ (List.mem_map.mpr ⟨x, hx, rfl⟩))
      obtain ⟨y, hy, e⟩ := List.mem_map.mp this
      rw [← e]
      exact hRl y hy
    have hUw : ∀ x ∈ U.map Prod.fst, u.1 ≤ x := fun x hx => by
      have : x ∈ R.map Prod.fst := u1.mem_iff.mpr (List.mem_cons_of_mem _ hx)
      obtain ⟨y, hy, e⟩ := List.mem_map.mp this
      rw [← e]
      exact mu y hy
    have pu : p.1 ≤ u.1 := hRw u hu
    have ih := lower n ((p.1 + u.1, q.2 - 1) :: U) q.2 (by simp [lU]) (fun x hx => by
      rcases List.mem_cons.mp hx with rfl | hx
      · exact Nat.sub_le _ _
      · exact hUl x hx) (by
      rw [List.map_cons, kr_cons, ← kU, show q.2 - (q.2 - 1) = 1 by omega]
      done)
    have e1 : huff (P.map Prod.fst) = (p.1 + u.1) + huff ((p.1 + u.1) :: U.map Prod.fst) := by
      rw [huff_perm (r1.trans (u1.cons p.1))]
      exact huff_step pu (fun x hx => Int.le_trans pu (hUw x hx)) hUw
    have e2 : cost ((p.1, q.2) :: (u.1, q.2) :: U) ≤ cost P := by
      refine Int.le_trans ?_ r3
      rw [cost_cons, cost_cons]
      exact Int.add_le_add_left u3 _
    rw [cost_cons, cost_cons] at e2
    rw [List.map_cons, cost_cons] at ih
    have e3 : (p.1 + u.1) * ((q.2 - 1 : Nat) : Int) = p.1 * (q.2 : Int) + u.1 * (q.2 : Int) - (p.1 + u.1) := by
      rw [show ((q.2 - 1 : Nat) : Int) = (q.2 : Int) - 1 by omega, Int.mul_sub, Int.add_mul]
      omega
    have e2' : p.1 * (q.2 : Int) + (u.1 * (q.2 : Int) + cost U) ≤ cost P := e2
    have ih' : huff ((p.1 + u.1) :: U.map Prod.fst) ≤ (p.1 + u.1) * ((q.2 - 1 : Nat) : Int) + cost U := ih
    rw [e3] at ih'
    omega
end HU

set_option Elab.async false
set_option linter.all false
/-! levels: joined from the lowest one on -/
namespace HU
def psum : List Int → List Int
  | a :: b :: r => (a + b) :: psum r
  | _ => []
theorem psum_len : ∀ {k : Nat} {X : List Int}, X.length = 2 * k → (psum X).length = k
  | 0, [], _ => rfl
  | k + 1, a :: b :: r, h => by
    show (psum r).length + 1 = k + 1
    rw [psum_len (k := k) (X := r) (by simp at h; omega)]
  | k + 1, [a], h => by simp at h; omega
  | k + 1, [], h => by simp at h
  | 0, a :: r, h => by simp at h
theorem psum_sum : ∀ {k : Nat} {X : List Int}, X.length = 2 * k → (psum X).sum = X.sum
  | 0, [], _ => rfl
  | k + 1, a :: b :: r, h => by
    show (a + b) + (psum r).sum = a + (b + r.sum)
    rw [psum_sum (k := k) (X := r) (by simp at h; omega)]
    omega
  | k + 1, [a], h => by simp at h; omega
  | k + 1, [], h => by simp at h
  | 0, a :: r, h => by simp at h
/-- the least ones of all are joined in pairs -/
theorem merge_all : ∀ (k : Nat) (X Y : List Int), X.length = 2 * k → Asc X → (∀ y ∈ Y, ∀ x ∈ X, x ≤ y) → (∀ s ∈ psum X, ∀ x ∈ X, x ≤ s) → huff (X ++ Y) = X.sum + huff (psum X ++ Y)
  | 0, [], Y, _, _, _, _ => by simp [psum]
  | 0, a :: r, _, h, _, _, _ => by simp at h
  | k + 1, [], _, h, _, _, _ => by simp at h
  | k + 1, [a], _, h, _, _, _ => by simp at h; omega
  | k + 1, a :: b :: r, Y, hl, hs, hY, hp => by
    obtain ⟨s1, s2⟩ := List.pairwise_cons.mp hs
    obtain ⟨s3, s4⟩ := List.pairwise_cons.mp s2
    have e1 : huff (a :: b :: (r ++ Y)) = (a + b) + huff ((a + b) :: (r ++ Y)) := by
      refine huff_step (s1 b List.mem_cons_self) (fun x hx => ?_) (fun x hx => ?_)
      · rcases List.mem_append.mp hx with h | h
        · exact s1 x (List.mem_cons_of_mem _ h)
        · exact hY x h a List.mem_cons_self
      · rcases List.mem_append.mp hx with h | h
        · exact s3 x h
        · exact hY x h b (List.mem_cons_of_mem _ List.mem_cons_self)
    have p1 : ((a + b) :: (r ++ Y)).Perm (r ++ ((a + b) :: Y)) := List.perm_middle.symm
    have ih := merge_all k r ((a + b) :: Y) (by simp at hl; omega) s4 (fun y hy x hx => by
      rcases List.mem_cons.mp hy with rfl | hy
      · exact hp _ List.mem_cons_self x (List.mem_cons_of_mem _ (List.mem_cons_of_mem _ hx))
      · exact hY y hy x (List.mem_cons_of_mem _ (List.mem_cons_of_mem _ hx)))
      fun s h x hx => hp s (List.mem_cons_of_mem _ h) x (List.mem_cons_of_mem _ (List.mem_cons_of_mem _ hx))
    have p2 : (psum r ++ ((a + b) :: Y)).Perm (psum (a :: b :: r) ++ Y) := List.perm_middle
    show huff (a :: b :: (r ++ Y)) = (a + (b + r.sum)) + huff (psum (a :: b :: r) ++ Y)
    rw [e1, huff_perm p1, ih, huff_perm p2]
    omega
/-- the levels' weights, of the signs by lengths -/
def rw' : List (List Int) → List (List Int)
  | [] => []
  | g :: gs => srt (g ++ psum ((rw' gs).headD [])) :: rw' gs
abbrev hd (gs : List (List Int)) : List Int := (rw' gs).headD []
theorem hd_cons (g : List Int) (gs : List (List Int)) : hd (g :: gs) = srt (g ++ psum (hd gs)) := rfl
theorem hd_perm (g : List Int) (gs : List (List Int)) : (hd (g :: gs)).Perm (g ++ psum (hd gs)) := srt_perm _
/-- as many nodes as there is room for -/
def fits : Nat → List (List Int) → Prop
  | b, [] => b = 0
  | b, g :: gs => g.length ≤ b ∧ fits (2 * (b - g.length)) gs
theorem fits_len : ∀ {gs : List (List Int)} {b : Nat}, fits b gs → (hd gs).length = b
  | [], b, h => by cases (show b = 0 from h); rfl
  | g :: gs, b, h => by
    have ih := fits_len (gs := gs) h.2
    rw [(hd_perm g gs).length_eq, List.length_append, psum_len ih]
    have := h.1
    omega
/-- each level's nodes weigh no less than the next one's -/
def Mono : List (List Int) → Prop
  | a :: b :: r => (∀ x ∈ a, ∀ y ∈ b, y ≤ x) ∧ Mono (b :: r)
  | _ => True
theorem Mono.tail {a : List Int} {r : List (List Int)} (h : Mono (a :: r)) : Mono r := by
  cases r with
  | nil => trivial
  | cons b r => exact h.2
theorem fits_pos : ∀ {gs : List (List Int)} {b : Nat}, fits b gs → (∃ g ∈ gs, g ≠ []) → 0 < b
  | [], b, _, h => by obtain ⟨g, h, _⟩ := h; cases h
  | g :: gs, b, h, ⟨g', hg, hn⟩ => by
    rcases List.mem_cons.mp hg with rfl | hg
    · have := List.length_pos_iff.mpr hn
      have := h.1
      omega
    · have := fits_pos h.2 ⟨g', hg, hn⟩
      omega
/-- levels from the first one below the root on -/
theorem tower : ∀ (gs : List (List Int)) (b : Nat) (Y : List Int), fits (2 * b) gs → (∀ g ∈ gs.getLast?, g ≠ []) → Mono (rw' gs) → (∀ y ∈ Y, ∀ x ∈ hd gs, x ≤ y) → (∀ s ∈ psum (hd gs), ∀ x ∈ hd gs, x ≤ s) →
    huff (gs.flatten ++ Y) = ((rw' gs).map List.sum).sum + huff (psum (hd gs) ++ Y)
  | [], b, Y, _, _, _, _, _ => by simp [rw', psum]
  | g :: gs, b, Y, hf, hl, hm, hY, hp => by
    have hlen := fits_len hf
    have e2 : huff (hd (g :: gs) ++ Y) = (hd (g :: gs)).sum + huff (psum (hd (g :: gs)) ++ Y) := merge_all b _ Y hlen (srt_asc _) hY hp
    have e1 : huff (gs.flatten ++ (g ++ Y)) = ((rw' gs).map List.sum).sum + huff (psum (hd gs) ++ (g ++ Y)) := by
      cases gs with
      | nil => simp [rw', psum]
      | cons g2 gs =>
        have ne : ∃ x, x ∈ hd (g :: g2 :: gs) := by
          have : 0 < 2 * b := fits_pos hf ⟨(g2 :: gs).getLast (by simp), List.mem_cons_of_mem _ (List.getLast_mem _), hl _ (by simp [List.getLast?_eq_getLast])⟩
          rw [← hlen] at this
          exact List.exists_mem_of_length_pos this
        obtain ⟨x0, hx0⟩ := ne
        have up : ∀ x ∈ hd (g :: g2 :: gs), ∀ y ∈ hd (g2 :: gs), y ≤ x := hm.1
        refine tower (g2 :: gs) _ (g ++ Y) hf.2 (fun q hq => hl q (by simpa [List.getLast?_cons_cons] using hq)) hm.tail (fun y hy x hx => ?_) (fun s hs x hx => ?_)
        · rcases List.mem_append.mp hy with h | h
          · exact up y ((hd_perm g (g2 :: gs)).mem_iff.mpr (List.mem_append_left _ h)) x hx
          · exact Int.le_trans (up x0 hx0 x hx) (hY y h x0 hx0)
        · exact up s ((hd_perm g (g2 :: gs)).mem_iff.mpr (List.mem_append_right _ hs)) x hx
    have p1 : ((g :: gs).flatten ++ Y).Perm (gs.flatten ++ (g ++ Y)) := by
      rw [List.flatten_cons, List.append_assoc]
      exact (List.perm_append_comm_assoc g gs.flatten Y)
    have p2 : (psum (hd gs) ++ (g ++ Y)).Perm (hd (g :: gs) ++ Y) := by
      rw [← List.append_assoc]
      exact (List.perm_append_comm.trans (hd_perm g gs).symm).append_right Y
    rw [huff_perm p1, e1, huff_perm p2, e2]
    show _ = ((hd (g :: gs)).sum + ((rw' gs).map List.sum).sum) + _
    omega
def cg : Nat → List (List Int) → Int
  | _, [] => 0
  | l, g :: gs => (l : Int) * g.sum + cg (l + 1) gs
theorem hd_sum : ∀ {gs : List (List Int)} {b : Nat}, fits b gs → (hd gs).sum = gs.flatten.sum
  | [], b, _ => rfl
  | g :: gs, b, h => by
    rw [sum_perm (hd_perm g gs), List.sum_append, psum_sum (fits_len h.2), hd_sum h.2, List.flatten_cons, List.sum_append]
theorem cg_up : ∀ (gs : List (List Int)) (l : Nat), cg (l + 1) gs = cg l gs + gs.flatten.sum
  | [], l => by simp [cg]
  | g :: gs, l => by
    show ((l + 1 : Nat) : Int) * g.sum + cg (l + 1 + 1) gs = ((l : Int) * g.sum + cg (l + 1) gs) + (g :: gs).flatten.sum
    rw [cg_up gs (l + 1), List.flatten_cons, List.sum_append, show ((l + 1 : Nat) : Int) = (l : Int) + 1 by omega, Int.add_mul]
    omega
theorem rows_cost : ∀ {gs : List (List Int)} {b : Nat}, fits b gs → ((rw' gs).map List.sum).sum = cg 1 gs
  | [], b, _ => rfl
  | g :: gs, b, h => by
    show (hd (g :: gs)).sum + ((rw' gs).map List.sum).sum = cg 1 (g :: gs)
    rw [rows_cost h.2, hd_sum h]
    show _ = ((1 : Nat) : Int) * g.sum + cg (1 + 1) gs
    rw [cg_up gs 1, List.flatten_cons, List.sum_append]
    omega
/-- LEVELS THAT FALL cost what joining costs -/
theorem falls {g : List Int} {gs : List (List Int)} (hf : fits 1 (g :: gs)) (hl : ∀ q ∈ (g :: gs).getLast?, q ≠ []) (hm : Mono (rw' (g :: gs))) : huff ((g :: gs).flatten) = cg 0 (g :: gs) := by
  have hlen := fits_len hf
  have e : huff (gs.flatten ++ g) = ((rw' gs).map List.sum).sum + huff (psum (hd gs) ++ g) := by
    cases gs with
    | nil => simp [rw', psum]
    | cons g2 gs =>
      have up : ∀ x ∈ hd (g :: g2 :: gs), ∀ y ∈ hd (g2 :: gs), y ≤ x := hm.1
      exact tower (g2 :: gs) _ g hf.2 (fun q hq => hl q (by simpa [List.getLast?_cons_cons] using hq)) hm.tail
        (fun y hy x hx => up y ((hd_perm g (g2 :: gs)).mem_iff.mpr (List.mem_append_left _ hy)) x hx)
        fun s hs x hx => up s ((hd_perm g (g2 :: gs)).mem_iff.mpr (List.mem_append_right _ hs)) x hx
  have p2 : (psum (hd gs) ++ g).Perm (hd (g :: gs)) := List.perm_append_comm.trans (hd_perm g gs).symm
  rw [List.flatten_cons, huff_perm List.perm_append_comm, e, huff_perm p2, rows_cost hf.2]
  have : huff (hd (g :: gs)) = 0 := by
    match hd (g :: gs), hlen with
    | [a], _ => rfl
  rw [this]
  show _ = ((0 : Nat) : Int) * g.sum + cg (0 + 1) gs
  simp
/-- room by widths -/
def kg (M : Nat) : Nat → List (List Int) → Nat
  | _, [] => 0
  | l, g :: gs => g.length * 2 ^ (M - l) + kg M (l + 1) gs
theorem fits_of {M : Nat} : ∀ {gs : List (List Int)} {l b : Nat}, l + gs.length ≤ M + 1 → b * 2 ^ (M - l) = kg M l gs → fits b gs
  | [], l, b, _, h => by
    have : b * 2 ^ (M - l) = 0 := h
    rcases Nat.mul_eq_zero.mp this with z | z
    · exact z
    · exact absurd z (Nat.ne_of_gt (Nat.pow_pos (by decide)))
  | g :: gs, l, b, hl, h => by
    have h' : b * 2 ^ (M - l) = g.length * 2 ^ (M - l) + kg M (l + 1) gs := h
    have le : g.length ≤ b := by
      refine Nat.le_of_mul_le_mul_right (c := 2 ^ (M - l)) ?_ (Nat.pow_pos (by decide))
      omega
    have e : (b - g.length) * 2 ^ (M - l) = kg M (l + 1) gs := by rw [Nat.sub_mul]; omega
    refine ⟨le, ?_⟩
    cases gs with
    | nil =>
      have : (b - g.length) * 2 ^ (M - l) = 0 := e
      rcases Nat.mul_eq_zero.mp this with z | z
      · show 2 * (b - g.length) = 0; omega
      · exact absurd z (Nat.ne_of_gt (Nat.pow_pos (by decide)))
    | cons g2 gs =>
      refine fits_of (M := M) (l := l + 1) (by simp at hl ⊢; omega) ?_
      rw [← e, show M - l = (M - (l + 1)) + 1 by simp at hl; omega, Nat.pow_succ]
      rw [Nat.mul_comm 2, Nat.mul_assoc, Nat.mul_comm 2]
end HU

set_option Elab.async false
set_option linter.all false
set_option maxRecDepth 100000
set_option maxHeartbeats 4000000
/-! from nodes to weights -/
namespace Z
open PySem L2 XV KR PL
theorem nd_le {a b : Nd} (h : PySem.W.dataLe false (fun x => (ndV x).dat) a b = true) : a.1 ≤ b.1 := by
  have h' : (!PySem.W.dataLt (ndV b).dat (ndV a).dat) = true := h
  rw [ndV_dat, ndV_dat, PySem.W.dataLt_tuple] at h'
  by_cases e : b.1 = a.1
  · omega
  · rw [PySem.W.dataLt_all_no (by rfl) (by show (b.1 == a.1) = false; rw [beq_eq_false_iff_ne]; exact e), PySem.W.dataLt_int] at h'
    simp at h'
    omega
theorem int_le {a b : Int} (h : PySem.W.dataLe false (fun x => (PV.int x).dat) a b = true) : a ≤ b := by
  have h' : (!PySem.W.dataLt (PV.int b).dat (PV.int a).dat) = true := h
  rw [PV.dat, PV.dat, PySem.W.dataLt_int] at h'
  simp at h'
  exact h'
theorem sortNd_asc (l : List Nd) : (sortNd l).Pairwise fun a b => a.1 ≤ b.1 := by
  have tot := PySem.W.sortLe_total (PyProof.Rows.listOrd PyProof.Rows.itemOrd) false (fun b : Nd => PySem.W.keyToks (ndV b).dat)
  have s1 : (sortNd l).Pairwise fun a b => PySem.W.dataLe false (fun x => (ndV x).dat) a b = true := List.pairwise_mergeSort (fun a b c h1 h2 => tot.trans a b c h1 h2) (fun a b => by
    have := tot.total a b
    simpa [PySem.W.dataLe] using this) _
  exact s1.imp nd_le
theorem sortI_asc (l : List Int) : HU.Asc (sortI l) := by
  have tot := PySem.W.sortLe_total (PyProof.Rows.listOrd PyProof.Rows.itemOrd) false (fun b : Int => PySem.W.keyToks (PV.int b).dat)
  have s1 : (sortI l).Pairwise fun a b => PySem.W.dataLe false (fun x => (PV.int x).dat) a b = true := List.pairwise_mergeSort (fun a b c h1 h2 => tot.trans a b c h1 h2) (fun a b => by
    have := tot.total a b
    simpa [PySem.W.dataLe] using this) _
  exact s1.imp int_le
abbrev fsts (r : List Nd) : List Int := r.map fun n => n.1
theorem fsts_sort (l : List Nd) : fsts (sortNd l) = HU.srt (fsts l) := HU.asc_eq (List.pairwise_map.mpr (sortNd_asc l)) (HU.srt_asc _) (((sortNd_perm l).map _).trans (HU.srt_perm _).symm)
theorem sortI_srt (l : List Int) : sortI l = HU.srt l := HU.asc_eq (sortI_asc l) (HU.srt_asc _) ((sortI_perm l).trans (HU.srt_perm _).symm)
theorem fsts_pairs : ∀ ns : List Nd, fsts (pairsR ns) = HU.psum (fsts ns)
  | [] => rfl
  | [_] => rfl
  | a :: b :: t => by
    show (a.1 + b.1) :: fsts (pairsR t) = (a.1 + b.1) :: HU.psum (fsts t)
    rw [fsts_pairs t]
theorem fsts_lv : ∀ gs : List (List Nd), (lv gs).map fsts = HU.rw' (gs.map fsts)
  | [] => rfl
  | g :: t => by
    have ih := fsts_lv t
    have hd : fsts ((lv t).headD []) = (HU.rw' (t.map fsts)).headD [] := by
      rw [← ih]
      cases lv t <;> rfl
    show fsts (sortNd (g ++ pairsR ((lv t).headD []))) :: (lv t).map fsts = HU.srt (fsts g ++ HU.psum ((HU.rw' (t.map fsts)).headD [])) :: HU.rw' (t.map fsts)
    rw [ih, fsts_sort, ← hd, ← fsts_pairs, fsts, List.map_append]
/-- what the law calls the least cost -/
theorem hloop_hN : ∀ (n : Nat) (l : List Int) (f : Int), HU.Asc l → hloop n l f = f + HU.hN n l
  | 0, l, f, _ => by cases l with
    | nil => show f = f + 0; omega
    | cons a t => cases t <;> (show f = f + 0; omega)
  | n + 1, [], f, _ => by show f = f + 0; omega
  | n + 1, [_], f, _ => by show f = f + 0; omega
  | n + 1, a :: b :: t, f, h => by
    have ht : HU.Asc t := (List.pairwise_cons.mp (List.pairwise_cons.mp h).2).2
    have e : sortI (t ++ [a + b]) = HU.ins (a + b) t := HU.asc_eq (sortI_asc _) (HU.ins_asc _ ht) ((sortI_perm _).trans ((List.perm_append_singleton _ _).trans (HU.ins_perm _ _).symm))
    show hloop n (sortI (t ++ [a + b])) (f + (a + b)) = f + ((a + b) + HU.hN n (HU.ins (a + b) t))
    rw [e, hloop_hN n _ _ (HU.ins_asc _ ht)]
    omega
theorem hcost_huff (cs : List Int) : hcost cs = HU.huff cs := by
  unfold hcost HU.huff
  rw [hloop_hN _ _ _ (sortI_asc cs), sortI_srt]
  omega
end Z

set_option Elab.async false
set_option linter.all false
set_option maxRecDepth 100000
set_option maxHeartbeats 4000000
/-! the levels are full -/
namespace Z
open PySem L2 XV KR PL
theorem grp_cons (a : Nat) (L : List Nat) (j : Nat) : grpAt (a :: L) (L.length + 1) j = if a = j then 0 :: (grpAt L L.length j).map Nat.succ else (grpAt L L.length j).map Nat.succ := by
  unfold grpAt
  rw [List.range_succ_eq_map, List.filter_cons, List.filter_map]
  have : ((fun i => decide ((a :: L).getD i 0 = j)) ∘ Nat.succ) = fun i => decide (L.getD i 0 = j) := by
    funext i
    rfl
  rw [this]
  show (if decide (a = j) = true then _ else _) = _
  by_cases h : a = j
  · rw [if_pos (decide_eq_true h), if_pos h]
  · rw [if_neg (by rw [decide_eq_false h]; decide), if_neg h]
def cntL (L : List Nat) (j : Nat) : Nat := (grpAt L L.length j).length
theorem cntL_cons (a : Nat) (L : List Nat) (j : Nat) : cntL (a :: L) j = cntL L j + if a = j then 1 else 0 := by
  unfold cntL
  rw [List.length_cons, grp_cons]
  by_cases h : a = j
  · rw [if_pos h, if_pos h, List.length_cons, List.length_map]
  · rw [if_neg h, if_neg h, List.length_map]
    rfl
def kgs (c : Nat → Nat) : Nat → Nat → Nat
  | _, 0 => 0
  | l, m + 1 => c l * 2 ^ (25 - l) + kgs c (l + 1) m
theorem kg_range {α : Type} (f : α → List Int) (g : Nat → α) : ∀ (m l : Nat), HU.kg 25 l ((List.range' l m).map fun j => f (g j)) = kgs (fun j => (f (g j)).length) l m
  | 0, _ => rfl
  | m + 1, l => by
    rw [List.range'_succ, List.map_cons]
    show (f (g l)).length * 2 ^ (25 - l) + HU.kg 25 (l + 1) _ = _
    rw [kg_range f g m (l + 1)]
    rfl
theorem kgs_zero : ∀ (m l : Nat), kgs (fun _ => 0) l m = 0
  | 0, _ => rfl
  | m + 1, l => by
    show 0 * 2 ^ (25 - l) + kgs (fun _ => 0) (l + 1) m = 0
    rw [kgs_zero m]
    omega
theorem kgs_add (c d : Nat → Nat) : ∀ (m l : Nat), kgs (fun j => c j + d j) l m = kgs c l m + kgs d l m
  | 0, _ => rfl
  | m + 1, l => by
    show (c l + d l) * 2 ^ (25 - l) + kgs (fun j => c j + d j) (l + 1) m = (c l * 2 ^ (25 - l) + kgs c (l + 1) m) + (d l * 2 ^ (25 - l) + kgs d (l + 1) m)
    rw [kgs_add c d m, Nat.add_mul]
    omega
theorem kgs_one (a : Nat) : ∀ (m l : Nat), kgs (fun j => if a = j then 1 else 0) l m = if l ≤ a ∧ a < l + m then 2 ^ (25 - a) else 0
  | 0, l => by
    rw [if_neg (by omega)]
    rfl
  | m + 1, l => by
    show (if a = l then 1 else 0) * 2 ^ (25 - l) + kgs (fun j => if a = j then 1 else 0) (l + 1) m = _
    rw [kgs_one a m]
    by_cases h : a = l
    · subst h
      rw [if_pos rfl, if_neg (by omega), if_pos (by omega)]
      omega
    · rw [if_neg h]
      by_cases k : l + 1 ≤ a ∧ a < l + 1 + m
      · rw [if_pos k, if_pos (by omega)]
        omega
      · rw [if_neg k, if_neg (by omega)]
        omega
theorem kgs_cnt (m : Nat) : ∀ {L : List Nat}, (∀ l ∈ L, l < m) → kgs (cntL L) 0 m = (L.map fun l => 2 ^ (25 - l)).sum
  | [], _ => kgs_zero m 0
  | a :: L, h => by
    rw [show cntL (a :: L) = fun j => cntL L j + (if a = j then 1 else 0) from funext fun j => cntL_cons a L j, kgs_add, kgs_cnt m (fun l hl => h l (List.mem_cons_of_mem _ hl)), kgs_one, if_pos ⟨Nat.zero_le _, by have := h a (List.mem_cons_self ..); omega⟩, List.map_cons, List.sum_cons]
    omega
theorem sum_nat {L : List Nat} (gc : GoodC L) : (L.map fun l => 2 ^ (25 - l)).sum = 2 ^ 25 := by
  have := gc.sum
  rw [wid_sum L fun l hl => (gc.all l hl).2] at this
  exact_mod_cast this
theorem fits_sgs {L : List Nat} (gc : GoodC L) (W : List Int) : HU.fits 1 ((sgs L W).map fsts) := by
  have mb : mx L < 26 := by
    have := (gc.all _ (mx_in (fun e => by have := gc.lo; rw [e] at this; exact absurd this (by decide)))).2
    omega
  refine HU.fits_of (M := 25) (l := 0) (by unfold sgs; rw [List.length_map, List.length_map, List.length_range]; omega) ?_
  unfold sgs
  rw [List.map_map, List.range_eq_range']
  have := kg_range fsts (fun j => (grpAt L L.length j).map fun s => ((W.getD s 0, [s]) : Nd)) (mx L + 1) 0
  have e : (fun j => (fsts ((grpAt L L.length j).map fun s => ((W.getD s 0, [s]) : Nd))).length) = cntL L := by
    funext j
    rw [fsts, List.length_map, List.length_map]
    rfl
  rw [e, kgs_cnt _ (fun l hl => Nat.lt_succ_of_le (mx_ge hl)), sum_nat gc] at this
  exact this.symm ▸ rfl
end Z

set_option Elab.async false
set_option linter.all false
set_option maxRecDepth 100000
set_option maxHeartbeats 4000000
/-! no level is empty; levels that fall cost the least -/
namespace Z
open PySem L2 XV KR PL
theorem rows_ne : ∀ {gs : List (List Int)} {b : Nat}, HU.fits b gs → (∀ g ∈ gs.getLast?, g ≠ []) → ∀ r ∈ HU.rw' gs, r ≠ []
  | [], _, _, _, _, h => nomatch h
  | g :: t, b, hf, hl, r, hr => by
    have ex : ∃ q ∈ g :: t, q ≠ [] := ⟨(g :: t).getLast (by simp), List.getLast_mem _, hl _ (by rw [List.getLast?_eq_some_getLast (by simp)]; rfl)⟩
    rcases List.mem_cons.mp hr with e | hr
    · subst e
      have h1 := HU.fits_len hf
      have h2 := HU.fits_pos hf ex
      intro z
      have h3 : (HU.hd (g :: t)).length = 0 := by
        show (HU.srt (g ++ HU.psum ((HU.rw' t).headD []))).length = 0
        rw [z]; rfl
      omega
    · cases t with
      | nil => exact nomatch hr
      | cons q t => exact rows_ne hf.2 (fun x hx => hl x (by rw [List.getLast?_cons_cons]; exact hx)) r hr
theorem grow_ne {L : List Nat} (W : List Int) {j : Nat} (h : j ∈ L) : grow L W j ≠ [] := by
  obtain ⟨i, hi⟩ := List.mem_iff_getElem?.mp h
  have lt := (List.getElem?_eq_some_iff.mp hi).1
  have : i ∈ grpAt L L.length j := List.mem_filter.mpr ⟨List.mem_range.mpr lt, by rw [List.getD_eq_getElem?_getD, hi]; exact decide_eq_true rfl⟩
  intro z
  have z' : (grpAt L L.length j).map (fun s => ((W.getD s 0, [s]) : Nd)) = [] := z
  rw [List.map_eq_nil_iff.mp z'] at this
  cases this
theorem last_ne {L : List Nat} (gc : GoodC L) (W : List Int) : ∀ g ∈ ((sgs L W).map fsts).getLast?, g ≠ [] := fun g hg => by
  have e : sgs L W = ((List.range (mx L)).map fun j => grow L W j) ++ [grow L W (mx L)] := by
    unfold sgs
    rw [List.range_succ, List.map_append]
    rfl
  rw [e, List.map_append, List.map_singleton, List.getLast?_append] at hg
  simp at hg
  subst hg
  intro z
  exact grow_ne W (mx_in (fun e => by have := gc.lo; rw [e] at this; exact absurd this (by decide))) (List.map_eq_nil_iff.mp z)
theorem lv_ne {L : List Nat} (gc : GoodC L) (W : List Int) : ∀ r ∈ lv (sgs L W), r ≠ [] := fun r hr z => by
  have := rows_ne (fits_sgs gc W) (last_ne gc W) (fsts r) (by rw [← fsts_lv]; exact List.mem_map.mpr ⟨r, hr, rfl⟩)
  subst z
  exact this rfl
theorem lv_sorted : ∀ {gs : List (List Nd)}, ∀ r ∈ lv gs, r.Pairwise fun a b => a.1 ≤ b.1
  | [], _, h => nomatch h
  | g :: t, r, h => by
    rcases List.mem_cons.mp h with rfl | h
    · exact sortNd_asc _
    · exact lv_sorted r h
theorem asc_fst {r : List Nd} (h : r.Pairwise fun a b => a.1 ≤ b.1) : ∀ x ∈ r, fst0 r ≤ x.1 := fun x hx => by
  match r, h with
  | a :: t, h =>
    rcases List.mem_cons.mp hx with rfl | hx
    · exact Int.le_refl _
    · exact (List.pairwise_cons.mp h).1 x hx
theorem asc_lst : ∀ {r : List Nd}, (r.Pairwise fun a b => a.1 ≤ b.1) → ∀ x ∈ r, x.1 ≤ lst0 r
  | [a], _, x, hx => by rw [List.mem_singleton.mp hx]; exact Int.le_refl _
  | a :: b :: t, h, x, hx => by
    have ih := asc_lst (r := b :: t) (List.pairwise_cons.mp h).2
    have e : lst0 (a :: b :: t) = lst0 (b :: t) := by
      unfold lst0
      rw [List.getLastD_eq_getLast?, List.getLastD_eq_getLast?, List.getLast?_cons_cons]
    rw [e]
    rcases List.mem_cons.mp hx with rfl | hx
    · exact Int.le_trans ((List.pairwise_cons.mp h).1 b (List.mem_cons_self ..)) (ih b (List.mem_cons_self ..))
    · exact ih x hx
theorem abv_mono : ∀ {rs : List (List Nd)} {k : Nat}, (∀ r ∈ rs, r.Pairwise fun a b => a.1 ≤ b.1) → abv k rs = none → HU.Mono (rs.map fsts)
  | [], _, _, _ => trivial
  | [_], _, _, _ => trivial
  | r :: s :: t, k, hs, h => by
    rw [abv] at h
    by_cases c : fst0 r < lst0 s
    · rw [if_pos c] at h; cases h
    · rw [if_neg c] at h
      refine ⟨fun x hx y hy => ?_, abv_mono (rs := s :: t) (fun q hq => hs q (List.mem_cons_of_mem _ hq)) h⟩
      obtain ⟨u, hu, rfl⟩ := List.mem_map.mp hx
      obtain ⟨v, hv, rfl⟩ := List.mem_map.mp hy
      have h1 := asc_fst (hs r (List.mem_cons_self ..)) u hu
      have h2 := asc_lst (hs s (List.mem_cons_of_mem _ (List.mem_cons_self ..))) v hv
      omega
/-! the levels' cost -/
def wS (L : List Nat) (W : List Int) (j : Nat) : List Int := (grpAt L L.length j).map fun s => W.getD s 0
theorem fsts_grow (L : List Nat) (W : List Int) (j : Nat) : fsts (grow L W j) = wS L W j := by
  unfold grow wS
  rw [fsts, List.map_map]
  rfl
theorem wS_cons (a : Nat) (L : List Nat) (w : Int) (W : List Int) (j : Nat) : wS (a :: L) (w :: W) j = if a = j then w :: wS L W j else wS L W j := by
  unfold wS
  rw [List.length_cons, grp_cons]
  have e : ((grpAt L L.length j).map Nat.succ).map (fun s => (w :: W).getD s 0) = (grpAt L L.length j).map fun s => W.getD s 0 := by
    rw [List.map_map]
    rfl
  by_cases h : a = j
  · rw [if_pos h, if_pos h, List.map_cons, e]
    rfl
  · rw [if_neg h, if_neg h, e]
def flatW (X : Nat → List Int) (l m : Nat) : List Int := ((List.range' l m).map X).flatten
theorem flatW_succ (X : Nat → List Int) (l m : Nat) : flatW X l (m + 1) = X l ++ flatW X (l + 1) m := by
  unfold flatW
  rw [List.range'_succ, List.map_cons, List.flatten_cons]
theorem flatW_one (X : Nat → List Int) (a : Nat) (w : Int) : ∀ (m l : Nat), (flatW (fun j => if a = j then w :: X j else X j) l m).Perm (if l ≤ a ∧ a < l + m then w :: flatW X l m else flatW X l m)
  | 0, l => by
    rw [if_neg (by omega)]
    exact .refl _
  | m + 1, l => by
    rw [flatW_succ, flatW_succ]
    have ih := flatW_one X a w m (l + 1)
    by_cases h : a = l
    · subst h
      rw [if_neg (by omega)] at ih
      rw [if_pos rfl, if_pos (by omega)]
      exact (ih.append_left (X a)).cons w
    · rw [if_neg h]
      by_cases k : l + 1 ≤ a ∧ a < l + 1 + m
      · rw [if_pos k] at ih
        rw [if_pos (by omega)]
        exact (ih.append_left (X l)).trans List.perm_middle
      · rw [if_neg k] at ih
        rw [if_neg (by omega)]
        exact ih.append_left (X l)
theorem flatW_nil : ∀ (m l : Nat), flatW (fun _ => []) l m = []
  | 0, _ => rfl
  | m + 1, l => by rw [flatW_succ, flatW_nil m]; rfl
theorem flatW_wS (m : Nat) : ∀ {L : List Nat} {W : List Int}, W.length = L.length → (∀ l ∈ L, l < m) → (flatW (wS L W) 0 m).Perm W
  | [], [], _, _ => by
    rw [show wS [] [] = fun _ => [] from rfl, flatW_nil]
  | a :: L, w :: W, h, hl => by
    rw [show wS (a :: L) (w :: W) = fun j => if a = j then w :: wS L W j else wS L W j from funext fun j => wS_cons a L w W j]
    have := flatW_one (wS L W) a w m 0
    rw [if_pos ⟨Nat.zero_le _, by have := hl a (List.mem_cons_self ..); omega⟩] at this
    exact this.trans ((flatW_wS m (by simpa using h) fun l h => hl l (List.mem_cons_of_mem _ h)).cons w)
  | [], _ :: _, h, _ => by simp at h
  | _ :: _, [], h, _ => by simp at h
def cgs (X : Nat → List Int) : Nat → Nat → Int
  | _, 0 => 0
  | l, m + 1 => (l : Int) * (X l).sum + cgs X (l + 1) m
theorem cg_range (X : Nat → List Int) : ∀ (m l : Nat), HU.cg l ((List.range' l m).map X) = cgs X l m
  | 0, _ => rfl
  | m + 1, l => by
    rw [List.range'_succ, List.map_cons]
    show (l : Int) * (X l).sum + HU.cg (l + 1) _ = _
    rw [cg_range X m (l + 1)]
    rfl
theorem cgs_one (X : Nat → List Int) (a : Nat) (w : Int) : ∀ (m l : Nat), cgs (fun j => if a = j then w :: X j else X j) l m = cgs X l m + if l ≤ a ∧ a < l + m then (a : Int) * w else 0
  | 0, l => by
    rw [if_neg (by omega)]
    rfl
  | m + 1, l => by
    show (l : Int) * (if a = l then w :: X l else X l).sum + cgs (fun j => if a = j then w :: X j else X j) (l + 1) m = (l : Int) * (X l).sum + cgs X (l + 1) m + _
    rw [cgs_one X a w m (l + 1)]
    by_cases h : a = l
    · subst h
      rw [if_pos rfl, if_neg (by omega), if_pos (by omega), List.sum_cons, Int.mul_add]
      omega
    · rw [if_neg h]
      by_cases k : l + 1 ≤ a ∧ a < l + 1 + m
      · rw [if_pos k, if_pos (by omega)]
        omega
      · rw [if_neg k, if_neg (by omega)]
        omega
theorem cgs_nil : ∀ (m l : Nat), cgs (fun _ => []) l m = 0
  | 0, _ => rfl
  | m + 1, l => by
    show (l : Int) * 0 + cgs (fun _ => []) (l + 1) m = 0
    rw [cgs_nil m]
    omega
theorem cgs_wS (m : Nat) : ∀ {L : List Nat} {W : List Int}, W.length = L.length → (∀ l ∈ L, l < m) → cgs (wS L W) 0 m = (costs W L).sum
  | [], [], _, _ => by
    rw [show wS [] [] = fun _ => [] from rfl, cgs_nil]
    rfl
  | a :: L, w :: W, h, hl => by
    rw [show wS (a :: L) (w :: W) = fun j => if a = j then w :: wS L W j else wS L W j from funext fun j => wS_cons a L w W j, cgs_one, if_pos ⟨Nat.zero_le _, by have := hl a (List.mem_cons_self ..); omega⟩, cgs_wS m (by simpa using h) fun l h => hl l (List.mem_cons_of_mem _ h)]
    show _ = w * (a : Int) + (costs W L).sum
    rw [Int.mul_comm]
    omega
  | [], _ :: _, h, _ => by simp at h
  | _ :: _, [], h, _ => by simp at h
theorem sgs_w (L : List Nat) (W : List Int) : (sgs L W).map fsts = (List.range' 0 (mx L + 1)).map (wS L W) := by
  unfold sgs
  rw [List.map_map, List.range_eq_range']
  apply List.map_congr_left
  intro j _
  exact fsts_grow L W j
/-- levels that fall cost the least -/
theorem least_of {L : List Nat} (gc : GoodC L) {W : List Int} (hl : W.length = L.length) (h : abv 0 (lv (sgs L W)) = none) : (costs W L).sum = hcost W := by
  have hm := abv_mono (fun r hr => lv_sorted r hr) h
  rw [fsts_lv] at hm
  have lt : ∀ l ∈ L, l < mx L + 1 := fun l h => Nat.lt_succ_of_le (mx_ge h)
  have hf := fits_sgs gc W
  have hn := last_ne gc W
  rw [hcost_huff, ← HU.huff_perm (flatW_wS _ hl lt), ← cgs_wS _ hl lt, ← cg_range]
  rw [sgs_w] at hm hf hn
  unfold flatW
  rw [List.range'_succ] at *
  rw [List.map_cons] at *
  exact (HU.falls hf hn hm).symm
end Z

set_option Elab.async false
set_option linter.all false
set_option maxRecDepth 100000
set_option maxHeartbeats 4000000
/-! what the nodes of a level are -/
namespace Z
open PySem L2 XV KR PL
theorem fits_many : ∀ {gs : List (List Int)} {b : Nat}, HU.fits b gs → (∀ g ∈ gs.getLast?, g ≠ []) → gs ≠ [] → gs.length + b ≤ gs.flatten.length + 1
  | [], _, _, _, h => absurd rfl h
  | [g], b, hf, _, _ => by
    have h1 : g.length ≤ b := hf.1
    have h2 : 2 * (b - g.length) = 0 := hf.2
    rw [List.flatten_cons, List.length_append]
    simp
    omega
  | g :: q :: t, b, hf, hl, _ => by
    have hl' : ∀ x ∈ (q :: t).getLast?, x ≠ [] := fun x hx => hl x (by rw [List.getLast?_cons_cons]; exact hx)
    have ih := fits_many hf.2 hl' (by simp)
    have ex : ∃ x ∈ q :: t, x ≠ [] := ⟨(q :: t).getLast (by simp), List.getLast_mem _, hl' _ (by rw [List.getLast?_eq_some_getLast (by simp)]; rfl)⟩
    have pos := HU.fits_pos hf.2 ex
    have h1 : g.length ≤ b := hf.1
    rw [List.flatten_cons, List.length_append, List.length_cons]
    omega
/-- no sign lies deeper than there are signs, less one -/
theorem mx_lt {L : List Nat} (gc : GoodC L) : mx L < L.length := by
  have hW : (L.map fun _ => (0 : Int)).length = L.length := List.length_map ..
  have hf := fits_sgs gc (L.map fun _ => (0 : Int))
  have hn := last_ne gc (L.map fun _ => (0 : Int))
  have lt : ∀ l ∈ L, l < mx L + 1 := fun l h => Nat.lt_succ_of_le (mx_ge h)
  have p := (flatW_wS _ hW lt).length_eq
  rw [hW] at p
  rw [sgs_w] at hf hn
  have := fits_many hf hn (by rw [List.range'_succ]; simp)
  have e : ((List.range' 0 (mx L + 1)).map (wS L (L.map fun _ => (0 : Int)))).flatten.length = L.length := p
  rw [e, List.length_map, List.length_range'] at this
  omega
/-- the weight, the width of some signs -/
def sW (W : List Int) (S : List Nat) : Int := (S.map fun s => W.getD s 0).sum
def sK (L : List Nat) (S : List Nat) : Nat := (S.map fun s => 2 ^ (25 - L.getD s 0)).sum
structure NdOk (L : List Nat) (W : List Int) (j : Nat) (n : Nd) : Prop where
  w : n.1 = sW W n.2
  k : sK L n.2 = 2 ^ (25 - j)
  at' : ∀ s ∈ n.2, s < L.length ∧ j ≤ L.getD s 0
def signs (r : List Nd) : List Nat := (r.map fun n => n.2).flatten
structure RowOk (L : List Nat) (W : List Int) (j : Nat) (r : List Nd) : Prop where
  ok : ∀ n ∈ r, NdOk L W j n
  nd : (signs r).Nodup
theorem sumI_perm {l m : List Int} (p : l.Perm m) : l.sum = m.sum := HU.sum_perm p
theorem sW_perm {W : List Int} {S T : List Nat} (p : S.Perm T) : sW W S = sW W T := HU.sum_perm (p.map _)
theorem sK_perm {L : List Nat} {S T : List Nat} (p : S.Perm T) : sK L S = sK L T := HU.sumN_perm (p.map _)
theorem sW_app (W : List Int) (S T : List Nat) : sW W (S ++ T) = sW W S + sW W T := by unfold sW; rw [List.map_append, List.sum_append]
theorem sK_app (L : List Nat) (S T : List Nat) : sK L (S ++ T) = sK L S + sK L T := by unfold sK; rw [List.map_append, List.sum_append]
theorem NdOk.join {L : List Nat} {W : List Int} {j : Nat} {a b : Nd} (h : NdOk L W (j + 1) a) (k : NdOk L W (j + 1) b) (hj : j + 1 ≤ 25) : NdOk L W j (joinN a b) := by
  have p := sortS_perm (a.2 ++ b.2)
  refine ⟨?_, ?_, fun s hs => ?_⟩
  · show a.1 + b.1 = sW W (sortS (a.2 ++ b.2))
    rw [sW_perm p, sW_app, ← h.w, ← k.w]
  · show sK L (sortS (a.2 ++ b.2)) = _
    rw [sK_perm p, sK_app, h.k, k.k, show 25 - j = (25 - (j + 1)) + 1 by omega, Nat.pow_succ]
    omega
  · have hs' := p.mem_iff.mp hs
    rcases List.mem_append.mp hs' with z | z
    · exact ⟨(h.at' s z).1, by have := (h.at' s z).2; omega⟩
    · exact ⟨(k.at' s z).1, by have := (k.at' s z).2; omega⟩
theorem signs_cons (n : Nd) (r : List Nd) : signs (n :: r) = n.2 ++ signs r := by unfold signs; rw [List.map_cons, List.flatten_cons]
theorem signs_app (r s : List Nd) : signs (r ++ s) = signs r ++ signs s := by unfold signs; rw [List.map_append, List.flatten_append]
theorem signs_perm {r s : List Nd} (p : r.Perm s) : (signs r).Perm (signs s) := (p.map _).flatten
/-- what is joined keeps its signs, but an odd last one -/
theorem signs_pairs : ∀ (r : List Nd), ∃ rest, (signs (pairsR r) ++ rest).Perm (signs r)
  | [] => ⟨[], .refl _⟩
  | [a] => ⟨signs [a], .refl _⟩
  | a :: b :: t => by
    obtain ⟨rest, ih⟩ := signs_pairs t
    refine ⟨rest, ?_⟩
    rw [pairsR, signs_cons, signs_cons, signs_cons, List.append_assoc, ← List.append_assoc a.2]
    exact (sortS_perm (a.2 ++ b.2)).append ih
theorem pairs_mem : ∀ {r : List Nd} {n : Nd}, n ∈ pairsR r → ∃ a ∈ r, ∃ b ∈ r, n = joinN a b
  | [], _, h => nomatch h
  | [_], _, h => nomatch h
  | a :: b :: t, n, h => by
    rw [pairsR] at h
    rcases List.mem_cons.mp h with rfl | h
    · exact ⟨a, List.mem_cons_self .., b, List.mem_cons_of_mem _ (List.mem_cons_self ..), rfl⟩
    · obtain ⟨x, hx, y, hy, e⟩ := pairs_mem h
      exact ⟨x, List.mem_cons_of_mem _ (List.mem_cons_of_mem _ hx), y, List.mem_cons_of_mem _ (List.mem_cons_of_mem _ hy), e⟩
end Z

set_option Elab.async false
set_option linter.all false
set_option maxRecDepth 100000
set_option maxHeartbeats 4000000
/-! every level's nodes -/
namespace Z
open PySem L2 XV KR PL
theorem lv_drop : ∀ (gs : List (List Nd)) (j : Nat), (lv gs).drop j = lv (gs.drop j)
  | gs, 0 => rfl
  | [], j + 1 => rfl
  | g :: t, j + 1 => by
    show (lv t).drop j = lv (t.drop j)
    exact lv_drop t j
/-- the row at j -/
noncomputable def rowAt (L : List Nat) (W : List Int) (j : Nat) : List Nd := (lv ((sgs L W).drop j)).headD []
theorem rowAt_eq (L : List Nat) (W : List Int) {j : Nat} (h : j ≤ mx L) : rowAt L W j = sortNd (grow L W j ++ pairsR (rowAt L W (j + 1))) := by
  unfold rowAt
  rw [sgs_drop L W h, lv]
  rfl
theorem rowAt_get (L : List Nat) (W : List Int) {j : Nat} (h : j ≤ mx L) : (lv (sgs L W))[j]? = some (rowAt L W j) := by
  have h1 : (lv (sgs L W)).drop j = sortNd (grow L W j ++ pairsR ((lv ((sgs L W).drop (j + 1))).headD [])) :: lv ((sgs L W).drop (j + 1)) := by rw [lv_drop, sgs_drop L W h, lv]
  have h2 : ((lv (sgs L W)).drop j)[0]? = (lv (sgs L W))[j]? := by rw [List.getElem?_drop, Nat.add_zero]
  rw [← h2, h1]
  unfold rowAt
  rw [sgs_drop L W h, lv]
  rfl
theorem rowAt_end (L : List Nat) (W : List Int) {j : Nat} (h : mx L < j) : rowAt L W j = [] := by
  unfold rowAt
  rw [List.drop_of_length_le (by unfold sgs; rw [List.length_map, List.length_range]; omega)]
  rfl
/-- a node is a sign's, or two nodes' of the next level -/
theorem kind {L : List Nat} {W : List Int} {j : Nat} {n : Nd} (h : j ≤ mx L) (hn : n ∈ rowAt L W j) : (∃ s, s ∈ grpAt L L.length j ∧ n = (W.getD s 0, [s])) ∨ ∃ a ∈ rowAt L W (j + 1), ∃ b ∈ rowAt L W (j + 1), n = joinN a b := by
  rw [rowAt_eq L W h] at hn
  have := (sortNd_perm _).mem_iff.mp hn
  rcases List.mem_append.mp this with z | z
  · obtain ⟨s, hs, rfl⟩ := List.mem_map.mp z
    exact .inl ⟨s, hs, rfl⟩
  · exact .inr (pairs_mem z)
theorem grp_at {L : List Nat} {j s : Nat} (h : s ∈ grpAt L L.length j) : s < L.length ∧ L.getD s 0 = j := by
  obtain ⟨h1, h2⟩ := List.mem_filter.mp h
  exact ⟨List.mem_range.mp h1, of_decide_eq_true h2⟩
theorem signs_grow (L : List Nat) (W : List Int) (j : Nat) : signs (grow L W j) = grpAt L L.length j := by
  unfold grow
  generalize grpAt L L.length j = G
  induction G with
  | nil => rfl
  | cons a t ih =>
    rw [List.map_cons, signs_cons, ih]
    rfl
theorem row_ok {L : List Nat} (gc : GoodC L) (W : List Int) (hm : mx L < 26) : ∀ (k j : Nat), j + k = mx L + 1 → RowOk L W j (rowAt L W j)
  | 0, j, h => by
    rw [rowAt_end L W (by omega)]
    exact ⟨(fun _ z => nomatch z), .nil⟩
  | k + 1, j, h => by
    have ih := row_ok gc W hm k (j + 1) (by omega)
    have hj : j ≤ mx L := by omega
    refine ⟨fun n hn => ?_, ?_⟩
    · rcases kind hj hn with ⟨s, hs, rfl⟩ | ⟨a, ha, b, hb, rfl⟩
      · obtain ⟨h1, h2⟩ := grp_at hs
        refine ⟨by simp [sW], by unfold sK; rw [List.map_singleton, List.sum_singleton, h2], fun t ht => ?_⟩
        rw [List.mem_singleton.mp ht]
        exact ⟨h1, by omega⟩
      · by_cases e : j + 1 ≤ 25
        · exact (ih.ok a ha).join (ih.ok b hb) e
        · rw [rowAt_end L W (by omega)] at ha
          exact nomatch ha
    · rw [rowAt_eq L W hj]
      refine (signs_perm (sortNd_perm _)).nodup_iff.mpr ?_
      rw [signs_app, signs_grow, List.nodup_append]
      obtain ⟨rest, p⟩ := signs_pairs (rowAt L W (j + 1))
      have nd : (signs (pairsR (rowAt L W (j + 1))) ++ rest).Nodup := p.nodup_iff.mpr ih.nd
      refine ⟨List.nodup_range.filter _, (List.nodup_append.mp nd).1, fun s hs t ht e => ?_⟩
      subst e
      have h1 := (grp_at hs).2
      have h2 : s ∈ signs (rowAt L W (j + 1)) := p.mem_iff.mp (List.mem_append_left _ ht)
      obtain ⟨S, hS, hm⟩ := List.mem_flatten.mp h2
      obtain ⟨n, hn, rfl⟩ := List.mem_map.mp hS
      have := ((ih.ok n hn).at' s hm).2
      omega
/-- two nodes of a row share no sign -/
theorem apart2 : ∀ {r : List Nd} {a b : Nd}, (signs r).Nodup → a ∈ r → b ∈ r → a ≠ b → ∀ s ∈ a.2, s ∉ b.2
  | x :: t, a, b, nd, ha, hb, ne, s, hs, hs' => by
    rw [signs_cons, List.nodup_append] at nd
    have inS : ∀ {c : Nd}, c ∈ t → ∀ u ∈ c.2, u ∈ signs t := fun hc u hu => List.mem_flatten.mpr ⟨_, List.mem_map.mpr ⟨_, hc, rfl⟩, hu⟩
    rcases List.mem_cons.mp ha with e1 | ha2
    · rcases List.mem_cons.mp hb with e2 | hb2
      · exact ne (e1.trans e2.symm)
      · exact nd.2.2 s (e1 ▸ hs) s (inS hb2 s hs') rfl
    · rcases List.mem_cons.mp hb with e2 | hb2
      · exact nd.2.2 s (e2 ▸ hs') s (inS ha2 s hs) rfl
      · exact apart2 nd.2.1 ha2 hb2 ne s hs hs'
theorem abv_some : ∀ {rs : List (List Nd)} {k i : Nat}, abv k rs = some i → ∃ a b, rs[i - k]? = some a ∧ rs[i - k + 1]? = some b ∧ fst0 a < lst0 b ∧ k ≤ i
  | [], k, i, h => by cases h
  | [_], k, i, h => by cases h
  | r :: s :: t, k, i, h => by
    rw [abv] at h
    by_cases c : fst0 r < lst0 s
    · rw [if_pos c] at h
      cases h
      exact ⟨r, s, by rw [Nat.sub_self]; rfl, by rw [Nat.sub_self]; rfl, c, Nat.le_refl _⟩
    · rw [if_neg c] at h
      obtain ⟨a, b, h1, h2, h3, h4⟩ := abv_some h
      refine ⟨a, b, ?_, ?_, h3, by omega⟩
      · rw [show i - k = (i - (k + 1)) + 1 by omega, List.getElem?_cons_succ]; exact h1
      · rw [show i - k + 1 = (i - (k + 1) + 1) + 1 by omega, List.getElem?_cons_succ]; exact h2
end Z

set_option Elab.async false
set_option linter.all false
set_option maxRecDepth 100000
set_option maxHeartbeats 4000000
/-! sums over what bump makes -/
namespace Z
open PySem L2 XV KR PL
def sumF (Φ : Nat → Int → Int) : Nat → List Int → Int
  | _, [] => 0
  | k, z :: t => Φ k z + sumF Φ (k + 1) t
theorem sumF_set (Φ : Nat → Int → Int) (z : Int) : ∀ (l : List Int) (k s : Nat), s < l.length → sumF Φ k (l.set s z) = sumF Φ k l + (Φ (k + s) z - Φ (k + s) (l.getD s 0))
  | [], _, s, h => by simp at h
  | a :: t, k, 0, _ => by
    show Φ k z + sumF Φ (k + 1) t = Φ k a + sumF Φ (k + 1) t + (Φ k z - Φ k a)
    omega
  | a :: t, k, s + 1, h => by
    show Φ k a + sumF Φ (k + 1) (t.set s z) = Φ k a + sumF Φ (k + 1) t + (Φ (k + (s + 1)) z - Φ (k + (s + 1)) (t.getD s 0))
    rw [sumF_set Φ z t (k + 1) s (by simpa using h), show k + 1 + s = k + (s + 1) by omega]
    omega
theorem getD_set (l : List Int) (s i : Nat) (z : Int) : (l.set s z).getD i 0 = if i = s ∧ s < l.length then z else l.getD i 0 := by
  rw [List.getD_eq_getElem?_getD, List.getD_eq_getElem?_getD]
  by_cases h : i = s
  · subst h
    by_cases k : i < l.length
    · rw [if_pos ⟨rfl, k⟩, List.getElem?_set_self k]
      rfl
    · rw [if_neg (fun z => k z.2), List.getElem?_eq_none (by rw [List.length_set]; omega), List.getElem?_eq_none (by omega)]
  · rw [if_neg (fun z => h z.1), List.getElem?_set_ne (fun z => h z.symm)]
theorem bump_get (d : Int) : ∀ {S : List Nat} {l : List Int}, S.Nodup → (∀ s ∈ S, s < l.length) → ∀ i, (bump d S l).getD i 0 = if i ∈ S then l.getD i 0 + d else l.getD i 0
  | [], l, _, _, i => by rw [if_neg (by simp)]; rfl
  | s :: S, l, nd, h, i => by
    obtain ⟨n1, n2⟩ := List.nodup_cons.mp nd
    have hs := h s (List.mem_cons_self ..)
    show (bump d S (l.set s (l.getD s 0 + d))).getD i 0 = _
    rw [bump_get d n2 (fun t ht => by rw [List.length_set]; exact h t (List.mem_cons_of_mem _ ht)) i, getD_set]
    by_cases e : i = s
    · subst e
      rw [if_neg n1, if_pos ⟨rfl, hs⟩, if_pos (List.mem_cons_self ..)]
    · have hne : ¬ (i = s ∧ s < l.length) := fun z => e z.1
      rw [if_neg hne]
      by_cases m : i ∈ S
      · rw [if_pos m, if_pos (List.mem_cons_of_mem _ m)]
      · rw [if_neg m, if_neg (fun z => (List.mem_cons.mp z).elim e m)]
theorem bump_sum (Φ : Nat → Int → Int) (d : Int) : ∀ {S : List Nat} {l : List Int}, S.Nodup → (∀ s ∈ S, s < l.length) → sumF Φ 0 (bump d S l) = sumF Φ 0 l + (S.map fun s => Φ s (l.getD s 0 + d) - Φ s (l.getD s 0)).sum
  | [], l, _, _ => by show sumF Φ 0 l = sumF Φ 0 l + 0; omega
  | s :: S, l, nd, h => by
    obtain ⟨n1, n2⟩ := List.nodup_cons.mp nd
    have hs := h s (List.mem_cons_self ..)
    show sumF Φ 0 (bump d S (l.set s (l.getD s 0 + d))) = _
    rw [bump_sum Φ d n2 (fun t ht => by rw [List.length_set]; exact h t (List.mem_cons_of_mem _ ht)), sumF_set Φ _ l 0 s hs, List.map_cons, List.sum_cons, Nat.zero_add]
    have e : (S.map fun t => Φ t ((l.set s (l.getD s 0 + d)).getD t 0 + d) - Φ t ((l.set s (l.getD s 0 + d)).getD t 0)) = S.map fun t => Φ t (l.getD t 0 + d) - Φ t (l.getD t 0) := by
      apply List.map_congr_left
      intro t ht
      have hne : ¬ (t = s ∧ s < l.length) := fun z => n1 (z.1 ▸ ht)
      rw [getD_set, if_neg hne]
    rw [e]
    omega
def kφ (_ : Nat) (z : Int) : Int := ((2 ^ (25 - z.toNat) : Nat) : Int)
theorem sumF_k : ∀ (L : List Nat) (k : Nat), sumF kφ k (zl L) = (((L.map fun l => 2 ^ (25 - l)).sum : Nat) : Int)
  | [], _ => rfl
  | l :: L, k => by
    show kφ k (l : Int) + sumF kφ (k + 1) (zl L) = _
    rw [sumF_k L (k + 1), List.map_cons, List.sum_cons]
    unfold kφ
    rw [Int.toNat_natCast]
    omega
def wφ (V : List Int) (i : Nat) (z : Int) : Int := V.getD i 0 * z
theorem sumF_w (V : List Int) : ∀ (L : List Nat) (k : Nat), k + L.length = V.length → sumF (wφ V) k (zl L) = (costs (V.drop k) L).sum
  | [], k, h => by
    unfold costs
    rw [List.zipWith_nil_right]
    rfl
  | l :: L, k, h => by
    have hk : k < V.length := by rw [List.length_cons] at h; omega
    show wφ V k (l : Int) + sumF (wφ V) (k + 1) (zl L) = _
    rw [sumF_w V L (k + 1) (by rw [List.length_cons] at h; omega), List.drop_eq_getElem_cons hk]
    show V.getD k 0 * (l : Int) + _ = (V[k] * (l : Int) :: costs (V.drop (k + 1)) L).sum
    rw [List.sum_cons, List.getD_eq_getElem?_getD, List.getElem?_eq_getElem hk]
    rfl
end Z

set_option Elab.async false
set_option linter.all false
set_option maxRecDepth 100000
set_option maxHeartbeats 4000000
/-! where levels don't fall, the code beyond is good and costs less -/
namespace Z
open PySem L2 XV KR PL
theorem nd_of : ∀ {r : List Nd} {n : Nd}, (signs r).Nodup → n ∈ r → n.2.Nodup
  | x :: t, n, nd, h => by
    rw [signs_cons, List.nodup_append] at nd
    rcases List.mem_cons.mp h with e | h2
    · exact e ▸ nd.1
    · exact nd_of nd.2.1 h2
theorem sW_nn {W : List Int} (h0 : ∀ w ∈ W, 0 ≤ w) : ∀ S : List Nat, 0 ≤ sW W S
  | [] => Int.le_refl _
  | s :: S => by
    have ih := sW_nn h0 S
    unfold sW at *
    rw [List.map_cons, List.sum_cons]
    have : 0 ≤ W.getD s 0 := by
      rw [List.getD_eq_getElem?_getD]
      cases e : W[s]? with
      | none => exact Int.le_refl _
      | some w => exact h0 w (List.mem_of_getElem? e)
    omega
theorem sum_two {f g : Nat → Int} : ∀ {S : List Nat}, (∀ s ∈ S, 2 * f s = - g s) → 2 * (S.map f).sum = - (S.map g).sum
  | [], _ => rfl
  | s :: S, h => by
    have ih := sum_two (S := S) fun t ht => h t (List.mem_cons_of_mem _ ht)
    have := h s (List.mem_cons_self ..)
    rw [List.map_cons, List.map_cons, List.sum_cons, List.sum_cons]
    omega
theorem sum_same {f g : Nat → Int} {S : List Nat} (h : ∀ s ∈ S, f s = g s) : (S.map f).sum = (S.map g).sum := by rw [List.map_congr_left h]
theorem sK_cast (L S : List Nat) : (S.map fun s => ((2 ^ (25 - L.getD s 0) : Nat) : Int)).sum = ((sK L S : Nat) : Int) := by
  unfold sK
  induction S with
  | nil => rfl
  | cons s S ih =>
    rw [List.map_cons, List.map_cons, List.sum_cons, List.sum_cons, ih]
    omega
theorem sum_ge {f : Nat → Nat} (hf : ∀ l, 1 ≤ f l) : ∀ {L : List Nat} {l : Nat}, l ∈ L → f l + L.length ≤ (L.map f).sum + 1
  | a :: t, l, h => by
    have big : ∀ t : List Nat, t.length ≤ (t.map f).sum := fun t => by
      induction t with
      | nil => exact Nat.le_refl _
      | cons x t ih =>
        have := hf x
        rw [List.map_cons, List.sum_cons, List.length_cons]
        omega
    rw [List.map_cons, List.sum_cons, List.length_cons]
    rcases List.mem_cons.mp h with rfl | h
    · have := big t
      omega
    · have := sum_ge hf h
      have := hf a
      omega
theorem zl_get (L : List Nat) (s : Nat) : (zl L).getD s 0 = ((L.getD s 0 : Nat) : Int) := by
  unfold zl
  rw [List.getD_eq_getElem?_getD, List.getD_eq_getElem?_getD, List.getElem?_map]
  cases L[s]? <;> rfl
/-- what is changed, in numbers -/
theorem change {L : List Nat} (gc : GoodC L) (hn : L.length ≤ 25) {W : List Int} (hW : W.length = L.length) {i : Nat} {l h : Nd} (nl : l.2.Nodup) (nh : h.2.Nodup) (ol : NdOk L W i l) (oh : NdOk L W (i + 1) h) (ap : ∀ s ∈ l.2, s ∉ h.2) (hi : i + 1 ≤ 25) (less : l.1 < h.1) :
    ∃ L', bump (-1) h.2 (bump 1 l.2 (zl L)) = zl L' ∧ GoodC L' ∧ L'.length = L.length ∧ (costs W L').sum < (costs W L).sum := by
  have mL := mx_lt gc
  have zlen : (zl L).length = L.length := List.length_map ..
  have up : ∀ s, L.getD s 0 ≤ 24 := fun s => by
    rw [List.getD_eq_getElem?_getD]
    cases e : L[s]? with
    | none => exact Nat.zero_le _
    | some x =>
      have := mx_ge (List.mem_of_getElem? e)
      show x ≤ 24
      omega
  have bl : ∀ s ∈ l.2, s < (zl L).length := fun s hs => by rw [zlen]; exact (ol.at' s hs).1
  have bh : ∀ s ∈ h.2, s < (bump 1 l.2 (zl L)).length := fun s hs => by rw [bump_len, zlen]; exact (oh.at' s hs).1
  have g1 := bump_get 1 nl bl
  have g2 := bump_get (-1) nh bh
  have hs1 : ∀ s ∈ h.2, (bump 1 l.2 (zl L)).getD s 0 = ((L.getD s 0 : Nat) : Int) := fun s hs => by
    rw [g1, if_neg (fun z => ap s z hs), zl_get]
  have len2 : (bump (-1) h.2 (bump 1 l.2 (zl L))).length = L.length := by rw [bump_len, bump_len, zlen]
  have ent : ∀ t, 0 ≤ (bump (-1) h.2 (bump 1 l.2 (zl L))).getD t 0 ∧ (bump (-1) h.2 (bump 1 l.2 (zl L))).getD t 0 ≤ 25 := fun t => by
    have u := up t
    rw [g2]
    by_cases c : t ∈ h.2
    · have := (oh.at' t c).2
      rw [if_pos c, hs1 t c]
      omega
    · rw [if_neg c, g1, zl_get]
      by_cases c2 : t ∈ l.2
      · rw [if_pos c2]; omega
      · rw [if_neg c2]; omega
  have sk := (bump_sum kφ (-1) nh bh).trans (by rw [bump_sum kφ 1 nl bl])
  have sw := (bump_sum (wφ W) (-1) nh bh).trans (by rw [bump_sum (wφ W) 1 nl bl])
  have e1 : (h.2.map fun s => kφ s ((bump 1 l.2 (zl L)).getD s 0 + -1) - kφ s ((bump 1 l.2 (zl L)).getD s 0)).sum = ((sK L h.2 : Nat) : Int) := by
    rw [← sK_cast]
    refine sum_same fun s hs => ?_
    have u := up s
    have v := (oh.at' s hs).2
    rw [hs1 s hs]
    unfold kφ
    rw [Int.toNat_natCast, show ((L.getD s 0 : Nat) : Int) + -1 = ((L.getD s 0 - 1 : Nat) : Int) by omega, Int.toNat_natCast, show 25 - (L.getD s 0 - 1) = (25 - L.getD s 0) + 1 by omega, Nat.pow_succ]
    omega
  have e2 : 2 * (l.2.map fun s => kφ s ((zl L).getD s 0 + 1) - kφ s ((zl L).getD s 0)).sum = - ((sK L l.2 : Nat) : Int) := by
    rw [← sK_cast]
    refine sum_two fun s hs => ?_
    have u := up s
    rw [zl_get]
    unfold kφ
    rw [Int.toNat_natCast, show ((L.getD s 0 : Nat) : Int) + 1 = ((L.getD s 0 + 1 : Nat) : Int) by omega, Int.toNat_natCast, show 25 - L.getD s 0 = (25 - (L.getD s 0 + 1)) + 1 by omega, Nat.pow_succ]
    omega
  have e3 : (h.2.map fun s => wφ W s ((bump 1 l.2 (zl L)).getD s 0 + -1) - wφ W s ((bump 1 l.2 (zl L)).getD s 0)).sum = - sW W h.2 := by
    have : 2 * (h.2.map fun s => wφ W s ((bump 1 l.2 (zl L)).getD s 0 + -1) - wφ W s ((bump 1 l.2 (zl L)).getD s 0)).sum = - (h.2.map fun s => 2 * W.getD s 0).sum := sum_two fun s hs => by
      unfold wφ
      rw [Int.mul_add]
      omega
    have dbl : ∀ S : List Nat, (S.map fun s => 2 * W.getD s 0).sum = 2 * sW W S := fun S => by
      unfold sW
      induction S with
      | nil => rfl
      | cons s S ih => rw [List.map_cons, List.map_cons, List.sum_cons, List.sum_cons, ih]; omega
    rw [dbl] at this
    omega
  have e4 : (l.2.map fun s => wφ W s ((zl L).getD s 0 + 1) - wφ W s ((zl L).getD s 0)).sum = sW W l.2 := by
    refine sum_same fun s hs => ?_
    unfold wφ
    rw [Int.mul_add]
    omega
  rw [e1, sumF_k] at sk
  rw [e3, e4, sumF_w W L 0 (by omega)] at sw
  generalize hl2 : bump (-1) h.2 (bump 1 l.2 (zl L)) = l2 at *
  have hz : zl (l2.map Int.toNat) = l2 := by
    unfold zl
    rw [List.map_map]
    conv => rhs; rw [← List.map_id l2]
    apply List.map_congr_left
    intro z hz
    obtain ⟨t, ht⟩ := List.mem_iff_getElem?.mp hz
    have := (ent t).1
    rw [List.getD_eq_getElem?_getD, ht] at this
    exact Int.toNat_of_nonneg this
  refine ⟨l2.map Int.toNat, hz.symm, ?_, by rw [List.length_map, len2], ?_⟩
  · have k1 := sumF_k (l2.map Int.toNat) 0
    rw [hz, sk, sum_nat gc, oh.k] at k1
    have p : 2 ^ (25 - i) = 2 ^ (25 - (i + 1)) * 2 := by rw [show 25 - i = (25 - (i + 1)) + 1 by omega, Nat.pow_succ]
    rw [ol.k, p] at e2
    have tot : ((l2.map Int.toNat).map fun l => 2 ^ (25 - l)).sum = 2 ^ 25 := by
      generalize ((l2.map Int.toNat).map fun l => 2 ^ (25 - l)).sum = A at *
      generalize 2 ^ (25 - (i + 1)) = B at *
      omega
    have all : ∀ x ∈ l2.map Int.toNat, 1 ≤ x ∧ x ≤ 25 := fun x hx => by
      refine ⟨?_, ?_⟩
      · rcases Nat.eq_zero_or_pos x with z | z
        · subst z
          have := sum_ge (f := fun l => 2 ^ (25 - l)) (fun l => Nat.pow_pos (by decide)) hx
          rw [tot, List.length_map, len2] at this
          have := gc.lo
          omega
        · exact z
      · obtain ⟨z, hz, rfl⟩ := List.mem_map.mp hx
        obtain ⟨t, ht⟩ := List.mem_iff_getElem?.mp hz
        have := (ent t).2
        rw [List.getD_eq_getElem?_getD, ht] at this
        have : z ≤ 25 := this
        omega
    refine ⟨by rw [List.length_map, len2]; exact gc.lo, by rw [List.length_map, len2]; exact gc.hi, all, ?_⟩
    rw [wid_sum _ fun x hx => (all x hx).2, tot]
    rfl
  · have w1 := sumF_w W (l2.map Int.toNat) 0 (by rw [List.length_map, len2]; omega)
    rw [hz, List.drop_zero] at w1
    rw [List.drop_zero] at sw
    rw [← w1, sw, ← ol.w, ← oh.w]
    omega
end Z

set_option Elab.async false
set_option linter.all false
set_option maxRecDepth 100000
set_option maxHeartbeats 4000000
/-! judge is right -/
namespace Z
open PySem L2 XV KR PL
theorem costs_wl : ∀ {W : List Int} {L : List Nat}, W.length = L.length → (costs W L).sum = HU.cost (W.zip L)
  | [], [], _ => rfl
  | w :: W, l :: L, h => by
    have ih := costs_wl (W := W) (L := L) (by simpa using h)
    show w * (l : Int) + (costs W L).sum = _
    rw [ih, List.zip_cons_cons, HU.cost_cons]
  | [], _ :: _, h => by simp at h
  | _ :: _, [], h => by simp at h
theorem least_le {L : List Nat} (gc : GoodC L) {W : List Int} (hW : W.length = L.length) : hcost W ≤ (costs W L).sum := by
  have lo := gc.lo
  have e1 : (W.zip L).map Prod.fst = W := List.map_fst_zip (by omega)
  have e2 : (W.zip L).map Prod.snd = L := List.map_snd_zip (by omega)
  have := HU.lower (L.length - 1) (W.zip L) 25 (by rw [List.length_zip]; omega) (fun p hp => (gc.all p.2 (by rw [← e2]; exact List.mem_map.mpr ⟨p, hp, rfl⟩)).2) (by rw [e2]; exact sum_nat gc)
  rw [e1] at this
  rw [hcost_huff, costs_wl hW]
  exact this
theorem better_of {L : List Nat} (gc : GoodC L) (hn : L.length ≤ 25) {W : List Int} (hW : W.length = L.length) (h0 : ∀ w ∈ W, 0 ≤ w) {i : Nat} (h : abv 0 (lv (sgs L W)) = some i) :
    ∃ L', bump (-1) (hvyS (lv (sgs L W)) i) (bump 1 (litS (lv (sgs L W)) i) (zl L)) = zl L' ∧ GoodC L' ∧ (∀ s ∈ litS (lv (sgs L W)) i, s < L.length) ∧ (∀ s ∈ hvyS (lv (sgs L W)) i, s < L.length) ∧ (costs W L).sum ≠ hcost W := by
  have mL := mx_lt gc
  obtain ⟨a, b, ga, gb, lt, _⟩ := abv_some h
  rw [Nat.sub_zero] at ga gb
  have hl : (lv (sgs L W)).length = mx L + 1 := by rw [lv_len]; unfold sgs; rw [List.length_map, List.length_range]
  have hi : i + 1 ≤ mx L := by
    have := (List.getElem?_eq_some_iff.mp gb).1
    omega
  have ea : a = rowAt L W i := by
    rw [rowAt_get L W (by omega)] at ga
    exact (Option.some.inj ga).symm
  have eb : b = rowAt L W (i + 1) := by
    rw [rowAt_get L W hi] at gb
    exact (Option.some.inj gb).symm
  have na := lv_ne gc W a (List.mem_of_getElem? ga)
  have nb := lv_ne gc W b (List.mem_of_getElem? gb)
  have R0 := row_ok gc W (by omega) (mx L + 1 - i) i (by omega)
  have R1 := row_ok gc W (by omega) (mx L + 1 - (i + 1)) (i + 1) (by omega)
  have hlit : litS (lv (sgs L W)) i = (a.headD (0, [])).2 := by
    unfold litS
    rw [List.getD_eq_getElem?_getD, ga]
    rfl
  have hhvy : hvyS (lv (sgs L W)) i = (b.getLastD (0, [])).2 := by
    unfold hvyS
    rw [List.getD_eq_getElem?_getD, gb]
    rfl
  have ml : a.headD (0, []) ∈ rowAt L W i := by
    rw [← ea]
    cases a with
    | nil => exact absurd rfl na
    | cons x t => exact List.mem_cons_self ..
  have mh : b.getLastD (0, []) ∈ rowAt L W (i + 1) := by
    rw [← eb, List.getLastD_eq_getLast?, List.getLast?_eq_some_getLast nb]
    exact List.getLast_mem nb
  have lt' : (a.headD (0, [])).1 < (b.getLastD (0, [])).1 := lt
  rw [hlit, hhvy]
  generalize a.headD (0, []) = l at *
  generalize b.getLastD (0, []) = hv at *
  have ol := R0.ok l ml
  have oh := R1.ok hv mh
  have ap : ∀ s ∈ l.2, s ∉ hv.2 := fun s hs hs' => by
    rcases kind (by omega) ml with ⟨t, ht, e⟩ | ⟨x, hx, y, hy, e⟩
    · rw [e] at hs
      have e2 : s = t := List.mem_singleton.mp hs
      subst e2
      have := (grp_at ht).2
      have := (oh.at' s hs').2
      omega
    · have hs2 : s ∈ x.2 ++ y.2 := by
        rw [e] at hs
        exact (sortS_perm _).mem_iff.mp hs
      have wl : l.1 = x.1 + y.1 := by rw [e]; rfl
      have wx := (R1.ok x hx).w
      have wy := (R1.ok y hy).w
      have px := sW_nn h0 x.2
      have py := sW_nn h0 y.2
      rcases List.mem_append.mp hs2 with z | z
      · exact apart2 R1.nd hx mh (fun q => by rw [q] at wl; rw [← wy] at py; omega) s z hs'
      · exact apart2 R1.nd hy mh (fun q => by rw [q] at wl; rw [← wx] at px; omega) s z hs'
  obtain ⟨L', e, gc', hl', less⟩ := change gc hn hW (nd_of R0.nd ml) (nd_of R1.nd mh) ol oh ap (by omega) lt'
  refine ⟨L', e, gc', fun s hs => (ol.at' s hs).1, fun s hs => (oh.at' s hs).1, fun z => ?_⟩
  have := least_le gc' (W := W) (by omega)
  omega
end Z

set_option Elab.async false
set_option linter.all false
set_option maxRecDepth 100000
set_option maxHeartbeats 4000000
/-! code != code -/
namespace Z
open PySem L2 XV KR PL
def fNeCode (K : PySem.W.Frag) (C : Addr) : PV → PV → (PV → Prop) → Prop := fun x y Q => PySem.W.notFirst K C (.ref C) = true ∧ ∃ L : List Nat, x = codeP C L ∧ y = codeP C L ∧ Q (.bl false)
instance {S : Sit} {K : PySem.W.Frag} {C : Addr} {E : XK} : R2P S (rNeI K C (spEqR C) E) (fNeCode K C) := ⟨fun {O H v w x y Q Qp} oh r1 r2 q k => by
  obtain ⟨nf, L, rfl, rfl, q⟩ := q
  have r1' := r1
  have r2' := r2
  obtain ⟨a, dx, us, rfl, hi, hl, rs⟩ := r1
  obtain ⟨b, dy, us2, rfl, hi2, hl2, rs2⟩ := r2
  exact ⟨a, dx, _, .ref C, rfl, hi.2.ins, .inl ⟨b, dy, _, C, rfl, hi2.2.ins, rfl⟩, nf, O, [codeP C L, codeP C L], (fun x => x = .bl true), fun _ _ => False, oh, ⟨r1', r2', trivial⟩, ⟨L, rfl, rfl⟩, fun v x H' s r q' => by
    subst q'
    exact ⟨true, r, k _ (.bl false) H' s (rfl : V.bl false = V.bl false) q⟩, fun _ _ _ _ _ _ _ _ _ _ z => z.elim⟩⟩
theorem op_neIK {X : Cx} {CX : CXT} {C g : Addr} {n : Nat} {sp : Sp} {E : XK} {K : PySem.W.Frag} (hK : X.K = K) (hN : PySem.W.findIn K (.ref C) "__ne__" = some (some (.builtin "object.__ne__"))) (hs : PySem.W.findIn K (.ref C) "__eq__" = some (some (.ref g))) (hf : PySem.W.isFn K (.ref g) = true) (ho : PySem.W.mroIn K C (.type "object") = some true) (F : FnR X.prog X.w K X.mg X.base CX n g sp) (hr : Room (n + 1) X.A) (hx : Passes CX X E) : OpR X (compareOp .NotEq) (rNeI K C sp E) := by
  subst hK
  exact op_neI hN hs hf ho F hr hx
end Z
namespace PL
open PySem L2
/-- made where nothing may be raised -/
instance mk0 {S : Sit} {C : Addr} {f : PInit} : MkP S C (spInitP C f) [] E0 (fun xs Q => f xs (fun fs ys => Q (.ins C fs ys)) fun _ _ => False) := ⟨fun {O env σ H vs xs Q Qp} R r q k x dx nx nd ne => by
  have s1 : Same H (upd (upd H dx (.own x)) x (.ins C dx [])) := fun a o h => by rw [upd_ne (ne_of_none h nx), upd_ne (ne_of_none h nd)]; exact h
  have nO : ¬ O x := R.new nx
  have le0 : ∀ {G : Hp}, Same H G → Le (fz O H) (fz (orX O x) G) := fun s a o ⟨n, h⟩ => ⟨fun z => z.elim n fun z => by subst z; exact h.none nx, h.same s⟩
  refine ⟨x, dx, vs ++ [], O, xs, fun fs ys => Qp (.ins C fs ys), fun _ _ => False, rfl, upd_same, fun a z => ?_, by rw [List.append_nil]; exact Reps.mono (le0 s1) _ _ r, q, fun fs ys ws H' off hx hl r' q' => ⟨rfl, ?_⟩, fun D fs ys us d H' off hd hl r' q' => q'.elim⟩
  · rcases z with z | rfl
    · obtain ⟨o, h, n⟩ := R.oH a z
      exact ⟨o, s1 a o h, n⟩
    · exact ⟨_, upd_same, trivial⟩
  · have s : Same H H' := fun a o h => off a o (ne_of_none h nx) (s1 a o h)
    exact k _ (.ins C fs ys) H' s ⟨x, dx, ws, rfl, ⟨nO, .of hx⟩, hl, Reps.mono (fun a o ⟨n, h⟩ => ⟨fun z => n (.inl z), h⟩) _ _ r'⟩ q'⟩
instance {S : Sit} {C : Addr} {f : PInit} {d : V} {z : PV} [hd : FlatP d z] : MkP S C (spInitP C f) [d] E0 (fun xs Q => f (xs ++ [z]) (fun fs ys => Q (.ins C fs ys)) fun _ _ => False) := ⟨fun {O env σ H vs xs Q Qp} R r q k x dx nx nd ne => by
  have h := (mk0 (S := S) (C := C) (f := f)).snd (vs := vs ++ [d]) (xs := xs ++ [z]) (Q := Q) (Qp := Qp) R (Reps.append r (show Reps _ [z] [d] from ⟨hd.rep _, trivial⟩)) q k x dx nx nd ne
  rw [List.append_nil] at h
  exact h⟩
/-- xs * n -/
def fRepL : PV → PV → (PV → Prop) → Prop := fun x y Q => match x, y with
  | .lst xs, .int k => -(2 ^ 63) ≤ k ∧ k < 2 ^ 63 ∧ xs.length * k.toNat ≤ sizeLine ∧ Q (.lst (List.replicate k.toNat xs).flatten)
  | _, _ => False
theorem Reps.rep {F : Fz} {xs : List PV} {vs : List V} (r : Reps F xs vs) : ∀ n : Nat, Reps F (List.replicate n xs).flatten (List.replicate n vs).flatten
  | 0 => trivial
  | n + 1 => by
    rw [List.replicate_succ, List.replicate_succ, List.flatten_cons, List.flatten_cons]
    exact r.append (Reps.rep r n)
instance {S : Sit} : R2P S rRep fRepL := ⟨fun {O H v w x y Q Qp} oh r1 r2 q k => by
  unfold fRepL at q
  cases x with
  | lst xs => cases y with
    | int n =>
      obtain ⟨a, vs, rfl, b, c⟩ := r1
      exact ⟨a, n, vs, rfl, r2, b.2.lst, q.1, q.2.1, by rw [← c.length]; exact q.2.2.1, fun p hp => let ⟨h1, h2, h3⟩ := rep_new oh hp (.lst (List.replicate n.toNat vs).flatten); k _ (.lst (List.replicate n.toNat xs).flatten) _ h1 ⟨p, _, rfl, h3, Reps.mono h2 _ _ (c.rep n.toNat)⟩ q.2.2.2⟩
    | _ => exact q.elim
  | _ => exact q.elim⟩
end PL

set_option Elab.async false
set_option linter.all false
set_option maxRecDepth 100000
set_option maxHeartbeats 4000000
/-! data of any depth: compared with itself, its text -/
namespace PL
open PySem L2
def okL (p : Prop) : PV → Prop
  | .non => True
  | .bl _ => True
  | .int i => p → i.natAbs < 10 ^ 38
  | .str a => PyData.strOk a = true
  | _ => False
/-- data: with p, no number of forty figures -/
def okD (p : Prop) : Nat → PV → Prop
  | 0, x => okL p x
  | n + 1, .tup xs => ∀ x ∈ xs, okD p n x
  | n + 1, .lst xs => ∀ x ∈ xs, okD p n x
  | _ + 1, x => okL p x
structure GoodD (p : Prop) (n : Nat) (x : PV) : Prop where
  lay : PyData.canLay0 x.dat = true
  dep : x.dat.depth ≤ n
  eqv : PyData.eqv x.dat x.dat = true
  isd : x.isDat = true
  nod : x.dat.hasDict = false
  shw : p → x.dat.showable = true ∧ PyData.intsShort 40 x.dat = true
theorem log_small {i : Int} (h : i.natAbs < 10 ^ 38) : i.natAbs.log2 < 1920 := by
  by_cases z : i.natAbs = 0
  · rw [z]; decide
  · refine (Nat.log2_lt z).mpr (Nat.lt_of_lt_of_le h ?_)
    exact Nat.le_trans (show (10 : Nat) ^ 38 ≤ 2 ^ 127 by decide +kernel) (Nat.pow_le_pow_right (by decide) (by decide))
theorem shown_small {i : Int} (h : i.natAbs < 10 ^ 38) : (PyData.shown (.int i)).length ≤ 40 := by
  have e := int_text_length_le10 (k := 38) (by decide) h
  show (Str.ofString (toString i)).length ≤ 40
  rw [ofString_length]; omega
theorem goods {p : Prop} {n : Nat} : ∀ {xs : List PV}, (∀ x ∈ xs, GoodD p n x) → PyData.canLayAll0 (dats xs) = true ∧ PyData.depthAll (dats xs) ≤ n ∧ PyData.eqvAll (dats xs) (dats xs) = true ∧ allDat xs = true ∧ PyData.hasDictAll (dats xs) = false ∧ (p → PyData.showableAll (dats xs) = true ∧ PyData.intsShortAll 40 (dats xs) = true)
  | [], _ => ⟨rfl, Nat.zero_le _, rfl, rfl, rfl, fun _ => ⟨rfl, rfl⟩⟩
  | x :: xs, h => by
    have a := h x List.mem_cons_self
    obtain ⟨b1, b2, b3, b4, b5, b6⟩ := goods (xs := xs) fun y hy => h y (List.mem_cons_of_mem _ hy)
    have a2 := a.dep
    rw [dats_cons, allDat_cons]
    exact ⟨by simp [PyData.canLayAll0, a.lay, b1], by simp only [PyData.depthAll]; omega, by simp [PyData.eqvAll, a.eqv, b3], by rw [a.isd, b4]; rfl, by simp [PyData.hasDictAll, a.nod, b5],
      fun hp => ⟨by simp [PyData.showableAll, (a.shw hp).1, (b6 hp).1], by simp [PyData.intsShortAll, (a.shw hp).2, (b6 hp).2]⟩⟩
theorem okL.good {p : Prop} {n : Nat} {x : PV} (h : okL p x) : GoodD p n x := by
  cases x with
  | non => exact ⟨rfl, Nat.zero_le _, rfl, rfl, rfl, fun _ => ⟨rfl, rfl⟩⟩
  | bl b => cases b <;> exact ⟨rfl, Nat.zero_le _, rfl, rfl, rfl, fun _ => ⟨rfl, rfl⟩⟩
  | int i => exact ⟨rfl, Nat.zero_le _, by show ((i : Int) == i) = true; exact beq_self_eq_true i, rfl, rfl, fun hp => ⟨decide_eq_true (log_small (h hp)), decide_eq_true (shown_small (h hp))⟩⟩
  | str a =>
    have h' : PyData.strOk a = true := h
    exact ⟨by show PyData.canLay0 (.str a) = true; simp [PyData.canLay0, h'], Nat.zero_le _, by show PyData.eqv (.str a) (.str a) = true; simp [PyData.eqv], rfl, rfl, fun _ => ⟨rfl, rfl⟩⟩
  | tup xs => exact h.elim
  | lst xs => exact h.elim
  | raw u => exact h.elim
  | dK ks xs => exact h.elim
  | dT ks xs => exact h.elim
  | ins C fs xs => exact h.elim
theorem okD.good {p : Prop} : ∀ {n : Nat} {x : PV}, okD p n x → GoodD p n x
  | 0, x, h => okL.good h
  | n + 1, .tup xs, h => by
    have h' : ∀ x ∈ xs, okD p n x := h
    obtain ⟨b1, b2, b3, b4, b5, b6⟩ := goods (fun x hx => (h' x hx).good)
    refine ⟨?_, ?_, ?_, by rw [isDat_tup]; exact b4, ?_, fun hp => ?_⟩
    all_goals rw [dat_tup]
    · simp [PyData.canLay0, b1]
    · simp only [PyData.depth]; omega
    · exact b3
    · simp [PyData.hasDict, b5]
    · exact ⟨by simp [PyData.showable, (b6 hp).1], by simp [PyData.intsShort, (b6 hp).2]⟩
  | n + 1, .lst xs, h => by
    have h' : ∀ x ∈ xs, okD p n x := h
    obtain ⟨b1, b2, b3, b4, b5, b6⟩ := goods (fun x hx => (h' x hx).good)
    refine ⟨?_, ?_, ?_, by rw [isDat_lst]; exact b4, ?_, fun hp => ?_⟩
    all_goals rw [dat_lst]
    · simp [PyData.canLay0, b1]
    · simp only [PyData.depth]; omega
    · exact b3
    · simp [PyData.hasDict, b5]
    · exact ⟨by simp [PyData.showable, (b6 hp).1], by simp [PyData.intsShort, (b6 hp).2]⟩
  | n + 1, .non, h => okL.good (show okL p .non from h)
  | n + 1, .bl b, h => okL.good (show okL p (.bl b) from h)
  | n + 1, .int b, h => okL.good (show okL p (.int b) from h)
  | n + 1, .str b, h => okL.good (show okL p (.str b) from h)
  | n + 1, .raw u, h => okL.good (show okL p (.raw u) from h)
  | n + 1, .dK ks xs, h => okL.good (show okL p (.dK ks xs) from h)
  | n + 1, .dT ks xs, h => okL.good (show okL p (.dT ks xs) from h)
  | n + 1, .ins C fs xs, h => okL.good (show okL p (.ins C fs xs) from h)
theorem GoodD.shp {p : Prop} {n : Nat} {x : PV} (h : GoodD p n x) (hn : n ≤ 20) : SeqAt.shaped x.dat = true := by
  have := h.dep
  simp [SeqAt.shaped, h.lay]
  omega
/-- data is no other than itself -/
theorem ne_selfD {p : Prop} {n : Nat} {x : PV} {P : PV → Prop} (h : okD p n x) (hn : n ≤ 20) (q : P (.bl false)) : fEqD true x x P := by
  have g := h.good
  refine ⟨g.isd, g.isd, g.shp hn, g.shp hn, ?_⟩
  rw [if_pos rfl, g.eqv]
  exact q
theorem eq_selfD {p : Prop} {n : Nat} {x : PV} {P : PV → Prop} (h : okD p n x) (hn : n ≤ 20) (q : P (.bl true)) : fEqD false x x P := by
  have g := h.good
  refine ⟨g.isd, g.isd, g.shp hn, g.shp hn, ?_⟩
  rw [if_neg (by decide), g.eqv]
  exact q
theorem shown_fit {d : PyData} (h1 : d.canLay0 = true) (h2 : d.intsShort 40 = true) (h3 : d.bulk ≤ 300000) : d.shown.length ≤ sizeLine := by
  have h := PyData.shown_le_bulk 40 (by decide) d (PyData.leavesShort_of_canLay0 40 d h1 h2)
  have h2 : (40 + 2) * d.bulk ≤ 42 * 300000 := Nat.mul_le_mul (by omega) h3
  rw [sizeLine_eq]
  omega
theorem repr_tup {n : Nat} {xs : List PV} (h : okD True n (.tup xs)) (hn : n ≤ 60) (hb : (PV.tup xs).dat.bulk ≤ 300000) : ReprP (.tup xs) (PV.tup xs).dat.shown := by
  have g := h.good
  have := g.dep
  exact ⟨g.isd, (g.shw trivial).1, g.nod, by omega, shown_fit g.lay (g.shw trivial).2 hb, rfl⟩
theorem repr_lst {n : Nat} {xs : List PV} (h : okD True n (.lst xs)) (hn : n ≤ 60) (hb : (PV.lst xs).dat.bulk ≤ 300000) : ReprP (.lst xs) (PV.lst xs).dat.shown := by
  have g := h.good
  have := g.dep
  exact ⟨g.isd, (g.shw trivial).1, g.nod, by omega, shown_fit g.lay (g.shw trivial).2 hb, rfl⟩
theorem if_f {a b : Prop} (h : b) : if false = true then a else b := by rw [if_neg (by decide)]; exact h
theorem if_t {a b : Prop} (h : a) : if true = true then a else b := by rw [if_pos rfl]; exact h
theorem neS_self {z : Str} {P : PV → Prop} (q : P (.bl false)) : fEqS true (.str z) (.str z) P := ⟨rfl, by rw [if_pos rfl, decide_eq_true rfl]; exact q⟩
theorem eqI (i j : Int) {P : PV → Prop} (q : P (.bl (decide (i = j)))) : fEqS false (.int i) (.int j) P := ⟨rfl, by rw [if_neg (by decide), show decide (V.int i = V.int j) = decide (i = j) from decide_eq_decide.mpr ⟨fun h => by injection h, fun h => by rw [h]⟩]; exact q⟩
theorem neB (b c : Bool) {P : PV → Prop} (q : P (.bl (b != c))) : fEqS true (.bl b) (.bl c) P := ⟨by cases b <;> cases c <;> rfl, by rw [if_pos rfl]; cases b <;> cases c <;> exact q⟩
theorem lam_go {g : Addr → List (Str × PV) → (PV → Prop) → Prop} {r : PV → (PV → Prop) → Prop} {f : Sit → FE} {env : PEnv} (e1 e2 : PEnv) {Q : PV → PEnv → Prop} (h1 : frzL env = e1) (h2 : bodyE e1 = e2) (h : ∀ S' : Sit, S'.Ep = (fun C fs => g C fs fun y => Q y e1) → f S' e2 fun x _ => r x fun y => Q y e1) : fLam g r f env Q := by
  unfold fLam
  rw [h1, h2]
  exact h
/-- no own list -/
def stl : Option SV → Bool
  | some (.ol _) => false
  | _ => true
theorem frz_same {env : PEnv} (h : env.all stl = true) : frzL env = env := by
  have one : ∀ i, frzAt i env = env := fun i => by
    unfold frzAt
    split
    · rename_i xs e
      have := List.all_eq_true.mp h _ (List.mem_of_getElem? e)
      cases this
    · rfl
  have all : ∀ n, frzN n env = env := fun n => by
    induction n with
    | zero => rfl
    | succ n ih => unfold frzN; rw [ih]; exact one n
  unfold frzL
  exact all _
theorem lam_goS {g : Addr → List (Str × PV) → (PV → Prop) → Prop} {r : PV → (PV → Prop) → Prop} {f : Sit → FE} {env : PEnv} {Q : PV → PEnv → Prop} (h1 : env.all stl = true) (e2 : PEnv) (h2 : bodyE env = e2) (h : ∀ S' : Sit, S'.Ep = (fun C fs => g C fs fun y => Q y env) → f S' e2 fun x _ => r x fun y => Q y env) : fLam g r f env Q := by
  subst h2
  exact lam_go env _ (frz_same h1) rfl h
theorem bulk_tup (xs : List PV) : (PV.tup xs).dat.bulk = PyData.bulkAll (dats xs) := by rw [dat_tup, PyData.bulk]
theorem bulk_lst (xs : List PV) : (PV.lst xs).dat.bulk = PyData.bulkAll (dats xs) := by rw [dat_lst, PyData.bulk]
theorem bulk_all : ∀ xs : List PV, PyData.bulkAll (dats xs) = (xs.map fun x => x.dat.bulk + 1).sum
  | [] => rfl
  | x :: xs => by
    rw [dats_cons, PyData.bulkAll, bulk_all xs, List.map_cons, List.sum_cons]
theorem bulk_bound {b : Nat} : ∀ {xs : List PV}, (∀ x ∈ xs, x.dat.bulk ≤ b) → PyData.bulkAll (dats xs) ≤ xs.length * (b + 1)
  | [], _ => Nat.zero_le _
  | x :: xs, h => by
    have h1 := h x List.mem_cons_self
    have h2 := bulk_bound (xs := xs) fun y hy => h y (List.mem_cons_of_mem _ hy)
    rw [dats_cons, PyData.bulkAll, List.length_cons, Nat.add_mul, Nat.one_mul]
    omega
end PL

set_option Elab.async false
set_option linter.all false
set_option maxRecDepth 100000
set_option maxHeartbeats 4000000
/-! the levels: their text, their comparing -/
namespace Z
open PySem L2 XV KR PL
theorem getI_le {W : List Int} {b : Int} (hb : 0 ≤ b) (h : ∀ c ∈ W, 0 ≤ c ∧ c < b) (s : Nat) : 0 ≤ W.getD s 0 ∧ W.getD s 0 ≤ b := by
  by_cases z : s < W.length
  · rw [List.getD_eq_getElem?_getD, List.getElem?_eq_getElem z]
    have := h _ (List.getElem_mem z)
    show 0 ≤ W[s] ∧ W[s] ≤ b
    omega
  · rw [List.getD_eq_getElem?_getD, List.getElem?_eq_none (by omega)]
    exact ⟨Int.le_refl _, hb⟩
theorem sW_le {W : List Int} {b : Int} (hb : 0 ≤ b) (h : ∀ c ∈ W, 0 ≤ c ∧ c < b) : ∀ S : List Nat, 0 ≤ sW W S ∧ sW W S ≤ (S.length : Int) * b
  | [] => ⟨Int.le_refl _, by show (0 : Int) ≤ (0 : Nat) * b; simp⟩
  | s :: S => by
    have h1 := getI_le hb h s
    have h2 := sW_le hb h S
    have e : sW W (s :: S) = W.getD s 0 + sW W S := rfl
    rw [e, List.length_cons, Int.natCast_succ, Int.add_mul, Int.one_mul]
    omega
theorem nodup_le : ∀ {n : Nat} {S : List Nat}, S.Nodup → (∀ s ∈ S, s < n) → S.length ≤ n := fun {n S} nd h => by
  have := nd.length_le_of_subset (l₂ := List.range n) fun s hs => List.mem_range.mpr (h s hs)
  rwa [List.length_range] at this
theorem signs_mem {r : List Nd} {n : Nd} {s : Nat} (hn : n ∈ r) (hs : s ∈ n.2) : s ∈ signs r := List.mem_flatten.mpr ⟨_, List.mem_map.mpr ⟨_, hn, rfl⟩, hs⟩
theorem signs_len : ∀ r : List Nd, (signs r).length = (r.map fun n => n.2.length).sum
  | [] => rfl
  | n :: r => by rw [signs_cons, List.length_append, signs_len r]; rfl
theorem node_len {r : List Nd} {n : Nd} (h : n ∈ r) : n.2.length ≤ (signs r).length := by
  rw [signs_len]
  induction r with
  | nil => cases h
  | cons a t ih =>
    rw [List.map_cons, List.sum_cons]
    rcases List.mem_cons.mp h with rfl | h
    · omega
    · have := ih h; omega
theorem row_small {L : List Nat} {W : List Int} {j : Nat} {r : List Nd} (h : RowOk L W j r) : (signs r).length ≤ L.length ∧ r.length ≤ L.length := by
  have h1 : (signs r).length ≤ L.length := nodup_le h.nd fun s hs => by
    obtain ⟨S, hS, hm⟩ := List.mem_flatten.mp hs
    obtain ⟨n, hn, rfl⟩ := List.mem_map.mp hS
    exact ((h.ok n hn).at' s hm).1
  refine ⟨h1, Nat.le_trans ?_ h1⟩
  rw [signs_len]
  have hp : ∀ n ∈ r, 1 ≤ n.2.length := fun n hn => by
    have hk := (h.ok n hn).k
    cases e : n.2 with
    | nil =>
      rw [e] at hk
      have : 0 < 2 ^ (25 - j) := Nat.pow_pos (by decide)
      have hz : sK L [] = 0 := rfl
      omega
    | cons _ _ => rw [List.length_cons]; omega
  clear h h1
  induction r with
  | nil => exact Nat.zero_le _
  | cons a t ih =>
    have h1 := hp a List.mem_cons_self
    have h2 := ih fun n hn => hp n (List.mem_cons_of_mem _ hn)
    rw [List.map_cons, List.sum_cons, List.length_cons]
    omega
theorem okD_nd {n : Nd} (h : n.1.natAbs < 10 ^ 38) (hs : ∀ s ∈ n.2, s < 26) : okD True 2 (ndV n) := by
  intro x hx
  simp only [List.mem_cons, List.not_mem_nil, or_false] at hx
  rcases hx with rfl | rfl
  · exact fun _ => h
  · intro y hy
    obtain ⟨s, h1, rfl⟩ := List.mem_map.mp hy
    have := hs s h1
    exact fun _ => show ((s : Nat) : Int).natAbs < 10 ^ 38 by omega
theorem bulk_pn (s : Nat) : (pn s).dat.bulk = 0 := by rw [pn_dat, PyData.bulk]
theorem bulk_nd (n : Nd) : (ndV n).dat.bulk ≤ n.2.length + 2 := by
  unfold ndV
  rw [bulk_tup, dats_cons, dats_cons, dats, PyData.bulkAll, PyData.bulkAll, PyData.bulkAll, bulk_tup]
  have := bulk_bound (b := 0) (xs := n.2.map pn) fun x hx => by
    obtain ⟨s, _, rfl⟩ := List.mem_map.mp hx
    exact Nat.le_of_eq (bulk_pn s)
  rw [List.length_map] at this
  have e : (PV.int n.1).dat.bulk = 0 := by rw [PV.dat, PyData.bulk]
  omega
theorem lv_rows {L : List Nat} (gc : GoodC L) (hL : L.length ≤ 26) (W : List Int) : (lv (sgs L W)).length = mx L + 1 ∧ ∀ r ∈ lv (sgs L W), ∃ j, RowOk L W j r := by
  have hm := mx_lt gc
  have len : (lv (sgs L W)).length = mx L + 1 := by
    rw [lv_len]
    unfold sgs
    rw [List.length_map, List.length_range]
  refine ⟨len, fun r hr => ?_⟩
  obtain ⟨j, hj⟩ := List.getElem?_of_mem hr
  have hj' : j < mx L + 1 := by rw [← len]; exact (List.getElem?_eq_some_iff.mp hj).1
  rw [rowAt_get L W (by omega)] at hj
  cases hj
  exact ⟨j, row_ok gc W (by omega) (mx L + 1 - j) j (by omega)⟩
theorem okD_lv {L : List Nat} (gc : GoodC L) (hL : L.length ≤ 26) {W : List Int} (h0 : ∀ c ∈ W, 0 ≤ c ∧ c < 10 ^ 30) : okD True 4 (.tup ((lv (sgs L W)).map tupV)) := by
  intro x hx
  obtain ⟨r, hr, rfl⟩ := List.mem_map.mp hx
  obtain ⟨j, ok⟩ := (lv_rows gc hL W).2 r hr
  intro y hy
  obtain ⟨n, hn, rfl⟩ := List.mem_map.mp hy
  have hk := ok.ok n hn
  have hlen := Nat.le_trans (node_len hn) (row_small ok).1
  have hw := sW_le (by decide) h0 n.2
  rw [← hk.w] at hw
  have : ((n.2.length : Nat) : Int) * 10 ^ 30 ≤ 26 * 10 ^ 30 := Int.mul_le_mul_of_nonneg_right (by omega) (by decide)
  refine okD_nd (by omega) fun s hs => ?_
  have := (hk.at' s hs).1
  omega
theorem bulk_lv {L : List Nat} (gc : GoodC L) (hL : L.length ≤ 26) (W : List Int) : (PV.tup ((lv (sgs L W)).map tupV)).dat.bulk ≤ 300000 := by
  obtain ⟨len, rows⟩ := lv_rows gc hL W
  have hm := mx_lt gc
  rw [bulk_tup]
  have h1 := bulk_bound (b := 1000) (xs := (lv (sgs L W)).map tupV) fun x hx => by
    obtain ⟨r, hr, rfl⟩ := List.mem_map.mp hx
    obtain ⟨j, ok⟩ := rows r hr
    have rs := row_small ok
    unfold tupV
    rw [bulk_tup]
    have h2 := bulk_bound (b := 28) (xs := r.map ndV) fun x hx => by
      obtain ⟨n, hn, rfl⟩ := List.mem_map.mp hx
      have := bulk_nd n
      have := node_len hn
      omega
    rw [List.length_map] at h2
    have : r.length * (28 + 1) ≤ 26 * 29 := Nat.mul_le_mul (by omega) (Nat.le_refl _)
    omega
  rw [List.length_map, len] at h1
  have : (mx L + 1) * (1000 + 1) ≤ 27 * 1001 := Nat.mul_le_mul (by omega) (Nat.le_refl _)
  omega
theorem repr_lv {L : List Nat} (gc : GoodC L) (hL : L.length ≤ 26) {W : List Int} (h0 : ∀ c ∈ W, 0 ≤ c ∧ c < 10 ^ 30) : ReprP (.tup ((lv (sgs L W)).map tupV)) (PV.tup ((lv (sgs L W)).map tupV)).dat.shown := repr_tup (okD_lv gc hL h0) (by decide) (bulk_lv gc hL W)
/-! what the law asks of levels, of judge -/
theorem cs_ec (cs : List Int) : (cs.map some).map cV = cs.map PV.int := by
  rw [List.map_map]
  rfl
theorem cs_ew (cs : List Int) : wOf (cs.map some) = cs := by
  unfold wOf
  rw [List.map_map]
  exact List.map_id _
theorem ck_call {A : Ad} {L : List Nat} {cs : List Int} {x : PV} {q : List Nat → List (Option Int) → (PV → Prop) → Prop} {Q : PV → Prop} {Ep} (gc : GoodC L) (hW : cs.length = L.length) (h0 : ∀ c ∈ cs, 0 ≤ c) (hx : x = .lst (cs.map PV.int) ∨ x = .tup (cs.map PV.int)) (h : q L (cs.map some) Q) : pCk A q [codeP A.c_Code L, x] Q Ep := by
  have lo := gc.lo
  have hi := gc.hi
  have sz : sizN (cs.map some).length := by rw [List.length_map]; exact ⟨by omega, by omega⟩
  have hl' : (cs.map some).length = L.length := by rw [List.length_map]; exact hW
  have hall : ∀ c ∈ cs.map some, goodC c = true := fun c h => by
    obtain ⟨z, hz, rfl⟩ := List.mem_map.mp h
    exact decide_eq_true (h0 z hz)
  exact ⟨L, cs.map some, x, rfl, by rw [cs_ec]; exact hx, gc, fun _ _ _ => h, fun _ _ h => absurd hl' h, fun h => absurd sz h, fun _ i ⟨c, h1, h2⟩ _ => by rw [hall c (List.mem_of_getElem? h1)] at h2; cases h2⟩
theorem levels_call {A : Ad} {L : List Nat} {cs : List Int} {x : PV} {Q : PV → Prop} {Ep} (gc : GoodC L) (hW : cs.length = L.length) (h0 : ∀ c ∈ cs, 0 ≤ c) (hx : x = .lst (cs.map PV.int) ∨ x = .tup (cs.map PV.int)) (q : Q (.tup ((lv (sgs L cs)).map tupV))) : pLevels A [codeP A.c_Code L, x] Q Ep :=
  ck_call gc hW h0 hx (by show Q (.tup ((lv (sgs L (wOf (cs.map some)))).map tupV)); rw [cs_ew]; exact q)
theorem judge_call {A : Ad} {L : List Nat} {cs : List Int} {x : PV} {Q : PV → Prop} {Ep} (gc : GoodC L) (hn : L.length ≤ 25) (hW : cs.length = L.length) (h0 : ∀ c ∈ cs, 0 ≤ c) (hx : x = .lst (cs.map PV.int) ∨ x = .tup (cs.map PV.int))
    (q1 : (costs cs L).sum = hcost cs → Q (.ins A.c_Least ["code", "counts", "levels"] [codeP A.c_Code L, .tup (cs.map PV.int), .tup ((lv (sgs L cs)).map tupV)]))
    (q2 : ∀ (l h : List Nat) (L' : List Nat), (costs cs L).sum ≠ hcost cs → Q (.ins A.c_Better ["code", "counts", "light", "heavy", "other"] [codeP A.c_Code L, .tup (cs.map PV.int), .tup (l.map pn), .tup (h.map pn), codeP A.c_Code L'])) : pJudge A [codeP A.c_Code L, x] Q Ep := by
  refine ck_call gc hW h0 hx ?_
  show (∀ r ∈ lv (sgs L (wOf (cs.map some))), r ≠ []) ∧ judged A L (cs.map some) Q (abv 0 (lv (sgs L (wOf (cs.map some)))))
  rw [cs_ew]
  refine ⟨lv_ne gc cs, ?_⟩
  cases e : abv 0 (lv (sgs L cs)) with
  | none =>
    show Q _
    rw [cs_ec, cs_ew]
    exact q1 (least_of gc hW e)
  | some i =>
    obtain ⟨L', b1, b2, b3, b4, b5⟩ := better_of gc hn hW h0 e
    unfold judged
    simp only []
    rw [cs_ec, cs_ew]
    exact ⟨L', b1, b2, b3, b4, q2 _ _ L' b5⟩
/-- counts that are refused -/
def BadD (L : List Nat) (ds : List (Option Int)) : Prop := ¬ (sizN ds.length ∧ (∀ c ∈ ds, goodC c = true) ∧ ds.length = L.length)
theorem bad_call {A : Ad} {L : List Nat} {ds : List (Option Int)} {q : List Nat → List (Option Int) → (PV → Prop) → Prop} {Q R : PV → Prop} {Ep} (gc : GoodC L) (h : BadD L ds) (hR : R (wdue ds L.length)) (hE : Ep = fun C fs => gRef A C fs R) : pCk A q [codeP A.c_Code L, .lst (ds.map cV)] Q Ep := by
  subst hE
  refine ⟨L, ds, _, rfl, .inl rfl, gc, fun h1 h2 h3 => absurd ⟨h1, h2, h3⟩ h, fun h1 h2 h3 => .inl ⟨rfl, _, _, rfl, ?_⟩, fun h1 => .inr (.inr ⟨rfl, _, rfl, ?_⟩), fun h1 i h2 h3 => .inr (.inl ⟨rfl, _, rfl, ?_⟩)⟩
  · unfold wdue at hR
    have e : ds.findIdx? (fun c => !goodC c) = none := List.findIdx?_eq_none_iff.mpr fun c hc => by rw [h2 c hc]; rfl
    rw [if_pos h1, e] at hR
    exact hR
  · unfold wdue at hR
    rw [if_neg h1] at hR
    exact hR
  · unfold wdue at hR
    obtain ⟨c, h4, h5⟩ := h2
    have hi := (List.getElem?_eq_some_iff.mp h4).1
    have e : ds.findIdx? (fun c => !goodC c) = some i := by
      rw [List.findIdx?_eq_some_iff_getElem]
      refine ⟨hi, ?_, fun j hj => ?_⟩
      · rw [(List.getElem?_eq_some_iff.mp h4).2, h5]; rfl
      · rw [h3 j _ hj (List.getElem?_eq_getElem (by omega))]; decide
    rw [if_pos h1, e] at hR
    exact hR
theorem okD_wdue (ds : List (Option Int)) (n : Nat) : okD False 1 (wdue ds n) := by
  have s1 : PyData.strOk "count" = true := by decide +kernel
  have s2 : PyData.strOk "size" = true := by decide +kernel
  have s3 : PyData.strOk "signs" = true := by decide +kernel
  unfold wdue
  split
  · split
    · intro x hx
      simp only [List.mem_cons, List.not_mem_nil, or_false] at hx
      rcases hx with rfl | rfl
      · exact s1
      · exact False.elim
    · intro x hx
      simp only [List.mem_cons, List.not_mem_nil, or_false] at hx
      rcases hx with rfl | rfl | rfl
      · exact s2
      · exact False.elim
      · exact False.elim
  · intro x hx
    simp only [List.mem_cons, List.not_mem_nil, or_false] at hx
    rcases hx with rfl | rfl | rfl
    · exact s3
    · exact False.elim
    · exact False.elim
theorem cut_one : ∀ xs : List PV, cutP xs (some 1) none = xs.drop 1
  | [] => rfl
  | x :: t => by
    unfold cutP
    have e1 : HT.sIx (x :: t).length 0 (some 1) = 1 := by
      unfold HT.sIx
      simp
    have e2 : HT.sIx (x :: t).length (x :: t).length none = (x :: t).length := rfl
    rw [e1, e2, List.drop_succ_cons, List.drop_zero, List.length_cons]
    exact List.take_length
/-- the lists that the law has for wrong counts -/
def badL (cs : List Int) : List (List (Option Int)) := [(cs.drop 1).map some ++ [some 2, some 3], [none], (cs.drop 1).map some ++ [some (-1), none], List.replicate 27 (some 0)]
theorem badL_bad {L : List Nat} (gc : GoodC L) {cs : List Int} (hW : cs.length = L.length) (hn : L.length ≤ 24) : ∀ ds ∈ badL cs, BadD L ds ∧ ds.length ≤ 1000 := by
  have lo := gc.lo
  intro ds hd
  simp only [badL, List.mem_cons, List.not_mem_nil, or_false] at hd
  rcases hd with rfl | rfl | rfl | rfl
  · refine ⟨fun h => ?_, ?_⟩
    · have := h.2.2
      simp at this
      omega
    · simp; omega
  · exact ⟨fun h => absurd h.1.1 (by decide), by decide⟩
  · refine ⟨fun h => ?_, ?_⟩
    · have := h.2.1 none (by simp)
      cases this
    · simp; omega
  · exact ⟨fun h => absurd h.1.2 (by decide), by decide⟩
theorem badL_vals (cs : List Int) : (badL cs).map (fun ds => PV.lst (ds.map cV)) = [.lst (cutP (cs.map PV.int) (some 1) none ++ [.int 2, .int 3]), .lst [.non], .lst (cutP (cs.map PV.int) (some 1) none ++ [.int (-1), .non]), .lst (List.replicate (Int.toNat 27) [PV.int 0]).flatten] := by
  have e : ∀ t : List (Option Int), ((cs.drop 1).map some ++ t).map cV = cutP (cs.map PV.int) (some 1) none ++ t.map cV := fun t => by
    rw [List.map_append, List.map_map, cut_one, ← List.map_drop]
    rfl
  unfold badL
  simp only [List.map_cons, List.map_nil, e]
  rfl
end Z

set_option Elab.async false
set_option linter.all false
set_option maxRecDepth 100000
set_option maxHeartbeats 4000000
set_option synthInstance.maxHeartbeats 4000000
set_option synthInstance.maxSize 100000
namespace Z
open PySem L2 XV KR PL LamX
section
variable {P : Program} {w : World} {K : PySem.W.Frag} {mg : Str → Option Value} {base : Heap} {A : Ad}
theorem sc_law : FnScope ["_law_script", "_law_pen", "_law_turn", "_law_many", "_law_lengths", "_law_counts", "_law_code", "_law_due", "_law_told", "_law_found", "_law_bad"] ["_law_script"] (defScope s_law) := ⟨rfl, rfl, rfl, by decide +kernel, rfl, by decide +kernel, by decide +kernel⟩
abbrev qL (q : Str) : Str := (PyProof.Rows.envOfC q (defScope s_law) 0 0 .none).qual ++ "<lambda>"
def TL (A : Ad) : List (Addr × Str) := [(A.p_law, qL "law")]
theorem tl_law {A : Ad} : (A.p_law, qL "law") ∈ TL A := by unfold TL; simp
theorem tlu_law {A : Ad} : ∀ p ∈ TL A, p.1 = A.p_law → p.2 = qL "law" := by
  intro p hp
  unfold TL at hp
  simp only [List.mem_cons, List.not_mem_nil, or_false] at hp
  subst hp
  exact fun _ => rfl
instance {A : Ad} : HasT (TL A) A.p_law := ⟨⟨_, tl_law, rfl⟩⟩
theorem ok_lawP (T : Txt K mg A) (TB : TabB base mg A.k_law A.p_law) : OkQuiet P w K mg base 13 A.a_law A.d_law ["_law_script"] (spLawT K (TL A)) := by
  have G_penof := ok_penN (P := P) (w := w) (base := base) T
  have G_draw := ok_draw (P := P) (w := w) (base := base) T
  have G_pick := ok_pickE (P := P) (w := w) (base := base) T
  have G_countsof := ok_countsofN (P := P) (w := w) (base := base) T
  have G_lof := ok_lof (P := P) (w := w) (base := base) T
  have G_llevels := ok_llevels (P := P) (w := w) (base := base) T
  have G_cost := ok_cost (P := P) (w := w) (base := base) T
  have G_leastcost := ok_leastcost (P := P) (w := w) (base := base) T
  have G_wrongdue := ok_wrongdue (P := P) (w := w) (base := base) T
  have G_levels := ok_levels (P := P) (w := w) (base := base) T
  have G_judge := ok_judge (P := P) (w := w) (base := base) T
  have G_init := ok_initP (P := P) (w := w) (base := base) T
  have G_eq := ok_eqP (P := P) (w := w) (base := base) T
  refine okQuietC_of T.F_law sc_law (fun vs H Q E h => by obtain ⟨a, ns, rfl, _⟩ := h; rfl) (fun Ar outer s H vs Q E hg hr h => ?_)
  refine ⟨_, (pss_cons (ps_set (i := 1) sc_law.nd rfl (Or.inl rfl) (pe_call G_penof (hr.mono (by decide)) (by rfl) T.g_penof T.F_penof.kp T.b_penof .nil pass0 (pa_cons (pv 0) pa_nil)))
      (pss_cons (ps_for PassesOwn.never rfl (pi_range1 (by rfl) T.z_range (pa_cons pe_int pa_nil)) (pg_name (i := 2) sc_law.nd rfl (Or.inl rfl))
         (pss_cons (ps_set (i := 3) sc_law.nd rfl (Or.inl rfl) (pe_op op_add pe_int (pe_call G_draw (hr.mono (by decide)) (by rfl) T.g_draw T.F_draw.kp T.b_draw .nil pass0 (pa_cons (pv 1) (pa_cons pe_int pa_nil)))))
         (pss_cons (ps_par (i := 4) (j := 5) (by rfl) sc_law.nd rfl rfl (by decide) rfl rfl (pa_cons (pe_call G_lof (hr.mono (by decide)) (by rfl) T.g_lof T.F_lof.kp T.b_lof .nil pass0 (pa_cons (pv 1) (pa_cons (pv 3) pa_nil))) (pa_cons (pe_call G_countsof (hr.mono (by decide)) (by rfl) T.g_countsof T.F_countsof.kp T.b_countsof .nil pass0 (pa_cons (pv 1) (pa_cons (pv 3) pa_nil))) pa_nil)) (by rfl))
         (pss_cons (ps_asg (pe_tup (pa_cons (pe_make T.O_Code.M G_init (hr.mono (by decide)) (by rfl) T.g_Code (Classical.choose_spec T.b_init1).2 (Classical.choose_spec T.b_init1).1 passE0 (pa_cons (pv 4) pa_nil)) (pa_cons (pe_call G_llevels (hr.mono (by decide)) (by rfl) T.g_llevels T.F_llevels.kp T.b_llevels .nil pass0 (pa_cons (pv 4) (pa_cons (pv 5) pa_nil))) pa_nil))) (pg_tup (by rfl) (pgs_cons (pg_name (i := 6) sc_law.nd rfl (Or.inr rfl)) (pgs_cons (pg_name (i := 7) sc_law.nd rfl (Or.inl rfl)) pgs_nil))))
         (pss_cons (ps_set (i := 8) sc_law.nd rfl (Or.inl rfl) (pe_call G_levels (hr.mono (by decide)) (by rfl) T.g_levels T.F_levels.kp T.b_levels .nil passE0 (pa_cons (pv 6) (pa_cons (pv 5) pa_nil))))
         (pss_cons (ps_if (PW.pt (pw_or (pt_cmpR op_ne (pe_callB (call_reprA (K := K) rfl hg hr.units) (by rfl) T.z_repr (by decide +kernel) (pa_cons (pv 8) pa_nil)) (pe_callB (call_reprA (K := K) rfl hg hr.units) (by rfl) T.z_repr (by decide +kernel) (pa_cons (pv 7) pa_nil)) (nomark _)) (pw_or1 (pt_cmpR (op_neD hr.units) (pe_call G_levels (hr.mono (by decide)) (by rfl) T.g_levels T.F_levels.kp T.b_levels .nil passE0 (pa_cons (pv 6) (pa_cons (pe_callTy call_tuple_of (by rfl) T.z_tuple (show PySem.bootBuiltins "tuple" = some (.type "tuple") by decide +kernel) (pa_cons (pv 5) pa_nil)) pa_nil))) (pv 7) (nomark _))))) (pss_one (ps_ret pe_bl))
           pss_nil)
         (pss_cons (ps_set (i := 9) sc_law.nd rfl (Or.inl rfl) (pe_call G_judge (hr.mono (by decide)) (by rfl) T.g_judge T.F_judge.kp T.b_judge .nil passE0 (pa_cons (pv 6) (pa_cons (pv 5) pa_nil))))
         (pss_cons (ps_if (pt_cmpR op_ne (pe_callB call_isi (by rfl) T.z_isinstance (by decide +kernel) (pa_cons (pv 9) (pa_cons (pe_glob (v := .ref _) rfl T.g_Least rfl) pa_nil))) (pe_cmpR op_eq (pe_call G_cost (hr.mono (by decide)) (by rfl) T.g_cost T.F_cost.kp T.b_cost .nil pass0 (pa_cons (pv 4) (pa_cons (pv 5) pa_nil))) (pe_call G_leastcost (hr.mono (by decide)) (by rfl) T.g_leastcost T.F_leastcost.kp T.b_leastcost .nil pass0 (pa_cons (pv 5) pa_nil)) (nomark _)) (nomark _)) (pss_one (ps_ret pe_bl))
           pss_nil)
         (pss_cons (ps_if (PW.pt (pw_and (pt_val (pe_callB call_isi (by rfl) T.z_isinstance (by decide +kernel) (pa_cons (pv 9) (pa_cons (pe_glob (v := .ref _) rfl T.g_Least rfl) pa_nil)))) (pw_and1 (PW.pt (pw_or (pt_cmpR (op_neD hr.units) (pe_fld (pv 9) rfl) (pv 7) (nomark _)) (pw_or1 (pt_cmpR (op_neIK (K := K) rfl T.Ceq.ne T.Ceq.eq T.Ceq.fn T.Ico.hm (show FnR P w K mg base CX0 1 _ (spEqR A.c_Code) from G_eq.raw T.b_eq .nil) (hr.mono (by decide)) pass0) (pe_fld (pv 9) rfl) (pv 6) (nomark _)))))))) (pss_one (ps_ret pe_bl))
           pss_nil)
         (pss_cons (ps_if (pt_cmpR (op_neD hr.units) (pe_fld (pv 9) rfl) (pe_callTy call_tuple_of (by rfl) T.z_tuple (show PySem.bootBuiltins "tuple" = some (.type "tuple") by decide +kernel) (pa_cons (pv 5) pa_nil)) (nomark _)) (pss_one (ps_ret pe_bl))
           pss_nil)
         (pss_cons (ps_set (i := 10) sc_law.nd rfl (Or.inr rfl) (pe_call G_pick (hr.mono (by decide)) (by rfl) T.g_pick T.F_pick.kp T.b_pick .nil pass0 (pa_cons (pv 1) (pa_cons (pe_lst (pa_cons (pe_op op_cat (pe_slice sl_list (pv 5) (po_some pe_int) po_none) (pe_lst (pa_cons pe_int (pa_cons pe_int pa_nil)))) (pa_cons (pe_lst (pa_cons pe_non pa_nil)) (pa_cons (pe_op op_cat (pe_slice sl_list (pv 5) (po_some pe_int) po_none) (pe_lst (pa_cons (pe_un un_neg pe_int) (pa_cons pe_non pa_nil)))) (pa_cons (pe_op op_rep (pe_lst (pa_cons pe_int pa_nil)) pe_int) pa_nil))))) pa_nil))))
         (pss_cons (ps_set (i := 7) sc_law.nd rfl (Or.inl rfl) (pe_call G_wrongdue (hr.mono (by decide)) (by rfl) T.g_wrongdue T.F_wrongdue.kp T.b_wrongdue .nil pass0 (pa_cons (pv 10) (pa_cons (pv 3) pa_nil))))
         (pss_cons (ps_if (pt_cmpR (op_neD hr.units) (pe_lamcallP (k := 10) (T := TL A) (Ng := ["_law_call", "_law_told", "e"]) (TT := TRef K A) T.F_wrong (by rfl) T.g_wrong T.b_wrong sc_wrong rfl (Or.inl rfl) (fun cdv => ref_gives T hg hr) TB rfl tl_law tlu_law (hr.mono (by decide)) (lamS_by (show lamSB (defScope s_law) _ = true by decide +kernel)) rfl (fun _ _ _ _ _ => rfl) (fun Ar2 ou2 s2 H2 E2 f2 c2 hr2 => (pe_call G_levels (hr2.mono (by decide)) (by rfl) T.g_levels T.F_levels.kp T.b_levels .nil (passes_call (takes_of rfl rfl rfl rfl) (fun _ _ _ _ h => h)) (pa_cons (pv 6) (pa_cons (pv 10) pa_nil))))) (pv 7) (nomark _)) (pss_one (ps_ret pe_bl))
           pss_nil)
         (pss_one (ps_if (pt_cmpR (op_neD hr.units) (pe_lamcallP (k := 10) (T := TL A) (Ng := ["_law_call", "_law_told", "e"]) (TT := TRef K A) T.F_wrong (by rfl) T.g_wrong T.b_wrong sc_wrong rfl (Or.inl rfl) (fun cdv => ref_gives T hg hr) TB rfl tl_law tlu_law (hr.mono (by decide)) (lamS_by (show lamSB (defScope s_law) _ = true by decide +kernel)) rfl (fun _ _ _ _ _ => rfl) (fun Ar2 ou2 s2 H2 E2 f2 c2 hr2 => (pe_call G_judge (hr2.mono (by decide)) (by rfl) T.g_judge T.F_judge.kp T.b_judge .nil (passes_call (takes_of rfl rfl rfl rfl) (fun _ _ _ _ h => h)) (pa_cons (pv 6) (pa_cons (pv 10) pa_nil))))) (pv 7) (nomark _)) (pss_one (ps_ret pe_bl))
           pss_nil)))))))))))))))
      (pss_one (ps_ret pe_bl)))), ?_⟩
  refine law_end (N := ["_law_script", "_law_pen", "_law_turn", "_law_many", "_law_lengths", "_law_counts", "_law_code", "_law_due", "_law_told", "_law_found", "_law_bad"]) K h fun S a ns hK hT hE hS hn => ⟨_, inferInstance, ?_⟩
  change fSeq _ _ _ [some (.fr (.raw (.ref a))), none, none, none, none, none, none, none, none, none, none]
  refine ⟨a, ns, rfl, hK, hS, hn, fun cells m0 hc hm0 => ?_⟩
  have lg := fun r (hr : r ∈ ([] : List Nat)) => hr
  change -(2 ^ 62) ≤ (5 : Int) ∧ (5 : Int) < 2 ^ 62 ∧ pfor _ _ _ (rangeP 0 (5 : Int).toNat) _
  refine ⟨by decide, by decide, ?_⟩
  refine pfor_inv (fun i env => ∃ (k : Nat) (m : Int) (z2 z3 z4 z5 z6 z7 z8 z9 z10 : Option SV), env = [some (.fr (.raw (.ref a))), some (penS cells k m), z2, z3, z4, z5, z6, z7, z8, z9, z10] ∧ k ≤ 100 * i ∧ 0 ≤ m) ⟨0, m0, _, _, _, _, _, _, _, _, _, rfl, Nat.le_refl _, hm0⟩ (fun i x env hx hI Nx hN => ?_) (fun env hI => ?_)
  · obtain ⟨k, m, z2, z3, z4, z5, z6, z7, z8, z9, z10, rfl, hk, hm⟩ := hI
    have hi : i < 5 := (List.getElem?_eq_some_iff.mp hx).1
    refine ⟨⟨cells, k, m, rfl⟩, cells, k, m, 8, rfl, rfl, hc, hm, by decide, by decide, by omega, fun v m1 k1 v0 v8 hk1 hm1 => ?_⟩
    obtain ⟨n, en⟩ : ∃ n : Nat, 2 + v = (n : Int) := ⟨(2 + v).toNat, by omega⟩
    simp only [fII]
    rw [en]
    refine ⟨⟨cells, k1, m1, rfl⟩, cells, k1, m1, n, rfl, rfl, hc, hm1, by omega, by omega, by omega, fun L m2 k2 hL gc hk2 hm2 => ?_⟩
    refine ⟨⟨cells, k2, m2, rfl⟩, cells, k2, m2, n, rfl, rfl, hc, hm2, by omega, by omega, fun cs m3 k3 hcs h0 hk3 hm3 => ?_⟩
    have hW : cs.length = L.length := by omega
    have hall : ∀ c ∈ cs.map some, goodC c = true := fun c h => by
      obtain ⟨z, hz, rfl⟩ := List.mem_map.mp h
      exact decide_eq_true (h0 z hz).1
    have ew : wOf (cs.map some) = cs := by
      unfold wOf
      rw [List.map_map]
      exact List.map_id _
    have ec : (cs.map some).map cV = cs.map PV.int := by
      rw [List.map_map]
      rfl
    have sz : sizN (cs.map some).length := by rw [List.length_map]; exact ⟨by omega, by omega⟩
    have hl' : (cs.map some).length = L.length := by rw [List.length_map]; exact hW
    refine ⟨_, L, rfl, .inl rfl, gc, ?_⟩
    refine ⟨L, cs, rfl, hW, gc, ?_⟩
    refine ⟨by show 2 ≤ sizeLine; decide, rfl, rfl, ?_⟩
    simp only [fSeq, fSet, fOfE, fOp, fUn, fIU, fVar, fC, fII, fIB, fIIc, fIxT, fIxL, fLst, fLstO, fCons, fTup, fNil, fB, fTrue, fgName, fgTup, fgCons, fgNil, fIt, fRng3, fRng2, fRng1, fLc2O, fLc2L, fLcO, fLc, fLcL, fRet, fCB, fStar, fCall, wipeE, List.getElem?_cons_zero, List.getElem?_cons_succ, List.set_cons_zero, List.set_cons_succ, SV.pv, PV.seq, fIfS, fOr, fAnd, fB, fRepr, fgTup, fgCons, fgNil, fgName]
    have rl := repr_lv gc (by omega) h0
    have dl := okD_lv gc (by omega) h0
    have dcs : okD False 1 (.tup (cs.map PV.int)) := fun y hy => by
      obtain ⟨z, _, rfl⟩ := List.mem_map.mp hy
      exact False.elim
    have p0 := fun c h => (h0 c h).1
    refine levels_call gc hW p0 (.inl rfl) ?_
    refine ⟨_, rl, _, rl, neS_self (if_f ?_)⟩
    refine ⟨_, rfl, levels_call gc hW p0 (.inr rfl) (ne_selfD dl (by decide) (if_f ?_))⟩
    show fSeq _ _ _ [some (.fr (.raw (.ref a))), some (penS cells k3 m3), some (.fr x), some (.fr (.int (n : Int))), some (.fr (.lst (L.map pn))), some (.fr (.lst (cs.map PV.int))), some (.fr (codeP A.c_Code L)), some (.fr (.tup ((lv (sgs L cs)).map tupV))), some (.fr (.tup ((lv (sgs L cs)).map tupV))), z9, z10]
    simp only [fSeq, fSet, fOfE, fOp, fUn, fIU, fVar, fC, fII, fIB, fIIc, fIxT, fIxL, fLst, fLstO, fCons, fTup, fNil, fB, fTrue, fgName, fgTup, fgCons, fgNil, fIt, fRng3, fRng2, fRng1, fLc2O, fLc2L, fLcO, fLc, fLcL, fRet, fCB, fStar, fCall, wipeE, List.getElem?_cons_zero, List.getElem?_cons_succ, List.set_cons_zero, List.set_cons_succ, SV.pv, PV.seq, fIfS, fOr, fAnd, fB, fgTup, fgCons, fgNil, fgName, fSl, fSlL, fpNone, fpSome, fCatL, fRepL, fFldK, fIsiX]
    refine judge_call gc (by omega) hW p0 (.inl rfl) (fun ec => ?_) (fun l h L' ec => ?_)
    · refine ⟨_, true, ⟨rfl, T.O_Least.I⟩, T.k_Least_Least, ?_⟩
      refine ⟨L, cs, rfl, hW, (fun l hl => (gc.all l hl).2), by omega, ⟨cs, rfl, by omega, eqI _ _ (neB _ _ ?_)⟩⟩
      rw [decide_eq_true ec]
      refine if_f ?_
      show fSeq _ _ _ [some (.fr (.raw (.ref a))), some (penS cells k3 m3), some (.fr x), some (.fr (.int (n : Int))), some (.fr (.lst (L.map pn))), some (.fr (.lst (cs.map PV.int))), some (.fr (codeP A.c_Code L)), some (.fr (.tup ((lv (sgs L cs)).map tupV))), some (.fr (.tup ((lv (sgs L cs)).map tupV))), some (.fr (.ins A.c_Least ["code", "counts", "levels"] [codeP A.c_Code L, .tup (cs.map PV.int), .tup ((lv (sgs L cs)).map tupV)])), z10]
      simp only [fSeq, fSet, fOfE, fOp, fUn, fIU, fVar, fC, fII, fIB, fIIc, fIxT, fIxL, fLst, fLstO, fCons, fTup, fNil, fB, fTrue, fgName, fgTup, fgCons, fgNil, fIt, fRng3, fRng2, fRng1, fLc2O, fLc2L, fLcO, fLc, fLcL, fRet, fCB, fStar, fCall, wipeE, List.getElem?_cons_zero, List.getElem?_cons_succ, List.set_cons_zero, List.set_cons_succ, SV.pv, PV.seq, fIfS, fOr, fAnd, fB, fgTup, fgCons, fgNil, fgName, fSl, fSlL, fpNone, fpSome, fCatL, fRepL, fFldK, fIsiX]
      refine ⟨_, true, ⟨rfl, T.O_Least.I⟩, T.k_Least_Least, if_t ?_⟩
      refine ⟨T.O_Least.fl (by simp), _, rfl, ne_selfD dl (by decide) (if_f ?_)⟩
      refine ⟨T.O_Least.fl (by simp), _, rfl, T.Ceq.nfc, L, rfl, rfl, if_f ?_⟩
      show fSeq _ _ _ [some (.fr (.raw (.ref a))), some (penS cells k3 m3), some (.fr x), some (.fr (.int (n : Int))), some (.fr (.lst (L.map pn))), some (.fr (.lst (cs.map PV.int))), some (.fr (codeP A.c_Code L)), some (.fr (.tup ((lv (sgs L cs)).map tupV))), some (.fr (.tup ((lv (sgs L cs)).map tupV))), some (.fr (.ins A.c_Least ["code", "counts", "levels"] [codeP A.c_Code L, .tup (cs.map PV.int), .tup ((lv (sgs L cs)).map tupV)])), z10]
      simp only [fSeq, fSet, fOfE, fOp, fUn, fIU, fVar, fC, fII, fIB, fIIc, fIxT, fIxL, fLst, fLstO, fCons, fTup, fNil, fB, fTrue, fgName, fgTup, fgCons, fgNil, fIt, fRng3, fRng2, fRng1, fLc2O, fLc2L, fLcO, fLc, fLcL, fRet, fCB, fStar, fCall, wipeE, List.getElem?_cons_zero, List.getElem?_cons_succ, List.set_cons_zero, List.set_cons_succ, SV.pv, PV.seq, fIfS, fOr, fAnd, fB, fgTup, fgCons, fgNil, fgName, fSl, fSlL, fpNone, fpSome, fCatL, fRepL, fFldK, fIsiX]
      refine ⟨T.O_Least.fl (by simp), _, rfl, _, rfl, ne_selfD dcs (by decide) (if_f ?_)⟩
      show fSeq _ _ _ [some (.fr (.raw (.ref a))), some (penS cells k3 m3), some (.fr x), some (.fr (.int (n : Int))), some (.fr (.lst (L.map pn))), some (.fr (.lst (cs.map PV.int))), some (.fr (codeP A.c_Code L)), some (.fr (.tup ((lv (sgs L cs)).map tupV))), some (.fr (.tup ((lv (sgs L cs)).map tupV))), some (.fr (.ins A.c_Least ["code", "counts", "levels"] [codeP A.c_Code L, .tup (cs.map PV.int), .tup ((lv (sgs L cs)).map tupV)])), z10]
      generalize (PV.ins A.c_Least ["code", "counts", "levels"] [codeP A.c_Code L, .tup (cs.map PV.int), .tup ((lv (sgs L cs)).map tupV)] : PV) = x9
      simp only [fSeq, fSet, fOfE, fOp, fUn, fIU, fVar, fC, fII, fIB, fIIc, fIxT, fIxL, fLst, fLstO, fCons, fTup, fNil, fB, fTrue, fgName, fgTup, fgCons, fgNil, fIt, fRng3, fRng2, fRng1, fLc2O, fLc2L, fLcO, fLc, fLcL, fRet, fCB, fStar, fCall, wipeE, List.getElem?_cons_zero, List.getElem?_cons_succ, List.set_cons_zero, List.set_cons_succ, SV.pv, PV.seq, fIfS, fOr, fAnd, fB, fgTup, fgCons, fgNil, fgName, fSl, fSlL, fpNone, fpSome, fCatL, fRepL, fFldK, fIsiX]
      refine ⟨⟨cells, k3, m3, rfl⟩, ?_⟩
      simp only [fSeq, fSet, fOfE, fOp, fUn, fIU, fVar, fC, fII, fIB, fIIc, fIxT, fIxL, fLst, fLstO, fCons, fTup, fNil, fB, fTrue, fgName, fgTup, fgCons, fgNil, fIt, fRng3, fRng2, fRng1, fLc2O, fLc2L, fLcO, fLc, fLcL, fRet, fCB, fStar, fCall, wipeE, List.getElem?_cons_zero, List.getElem?_cons_succ, List.set_cons_zero, List.set_cons_succ, SV.pv, PV.seq, fLst, fSl, fSlL, fpNone, fpSome, fCatL, fRepL]
      have hLn : L.length = n := by omega
      have lc : (cutP (cs.map PV.int) (some 1) none).length ≤ 1000 := by
        rw [cut_one, List.length_drop, List.length_map]
        omega
      refine ⟨sl_le (by show 2 ≤ 1000000; decide), sl_le (by show _ + 2 ≤ 1000000; omega), sl_le (by show 1 ≤ 1000000; decide), sl_le (by show 2 ≤ 1000000; decide), sl_le (by show _ + 2 ≤ 1000000; omega), sl_le (by show 1 ≤ 1000000; decide), by decide, by decide, sl_le (by decide), sl_le (by show 4 ≤ 1000000; decide), cells, k3, m3, _, rfl, rfl, hc, hm3, by show 0 < 4; decide, by show 4 < 1000000; decide, by omega, fun y m4 k4 hy hk4 hm4 => ?_⟩
      rw [← badL_vals] at hy
      obtain ⟨ds, hds, rfl⟩ := List.mem_map.mp hy
      obtain ⟨hbd, hdl⟩ := badL_bad gc hW (by omega) ds hds
      show pWdue [.lst (ds.map cV), .int (n : Int)] _ _
      refine ⟨ds, n, rfl, hdl, ?_⟩
      obtain ⟨d7, e7⟩ : ∃ d, d = wdue ds n := ⟨_, rfl⟩
      have g7 : okD False 1 d7 := by rw [e7]; exact okD_wdue ds n
      rw [← e7]
      show fLam _ _ _ [some (.fr (.raw (.ref a))), some (penS cells k4 m4), some (.fr x), some (.fr (.int (n : Int))), some (.fr (.lst (L.map pn))), some (.fr (.lst (cs.map PV.int))), some (.fr (codeP A.c_Code L)), some (.fr (d7)), some (.fr (.tup ((lv (sgs L cs)).map tupV))), some (.fr x9), some (.fr (.lst (ds.map cV)))] _
      refine lam_go ([some (.fr (.raw (.ref a))), some (penS cells k4 m4), some (.fr x), some (.fr (.int (n : Int))), some (.fr (.lst (L.map pn))), some (.fr (.lst (cs.map PV.int))), some (.fr (codeP A.c_Code L)), some (.fr (d7)), some (.fr (.tup ((lv (sgs L cs)).map tupV))), some (.fr x9), some (.fr (.lst (ds.map cV)))]) ([some (.fr (.raw (.ref a))), none, some (.fr x), some (.fr (.int (n : Int))), some (.fr (.lst (L.map pn))), some (.fr (.lst (cs.map PV.int))), some (.fr (codeP A.c_Code L)), some (.fr (d7)), some (.fr (.tup ((lv (sgs L cs)).map tupV))), some (.fr x9), some (.fr (.lst (ds.map cV)))]) (frz_same rfl) rfl fun S' hS => ?_
      simp only [fSeq, fSet, fOfE, fOp, fUn, fIU, fVar, fC, fII, fIB, fIIc, fIxT, fIxL, fLst, fLstO, fCons, fTup, fNil, fB, fTrue, fgName, fgTup, fgCons, fgNil, fIt, fRng3, fRng2, fRng1, fLc2O, fLc2L, fLcO, fLc, fLcL, fRet, fCB, fStar, fCall, wipeE, List.getElem?_cons_zero, List.getElem?_cons_succ, List.set_cons_zero, List.set_cons_succ, SV.pv, PV.seq, fIfS, fOr, fAnd, fB, fgTup, fgCons, fgNil, fgName, fSl, fSlL, fpNone, fpSome, fCatL, fRepL, fFldK, fIsiX]
      refine bad_call gc hbd ?_ hS
      rw [hLn, ← e7]
      refine ne_selfD g7 (by decide) (if_f ?_)
      clear hS S'
      unfold fNext
      simp only [fSeq, fSet, fOfE, fOp, fUn, fIU, fVar, fC, fII, fIB, fIIc, fIxT, fIxL, fLst, fLstO, fCons, fTup, fNil, fB, fTrue, fgName, fgTup, fgCons, fgNil, fIt, fRng3, fRng2, fRng1, fLc2O, fLc2L, fLcO, fLc, fLcL, fRet, fCB, fStar, fCall, wipeE, List.getElem?_cons_zero, List.getElem?_cons_succ, List.set_cons_zero, List.set_cons_succ, SV.pv, PV.seq, fIfS, fOr, fAnd, fB, fgTup, fgCons, fgNil, fgName, fSl, fSlL, fpNone, fpSome, fCatL, fRepL, fFldK, fIsiX]
      show fLam _ _ _ [some (.fr (.raw (.ref a))), some (penS cells k4 m4), some (.fr x), some (.fr (.int (n : Int))), some (.fr (.lst (L.map pn))), some (.fr (.lst (cs.map PV.int))), some (.fr (codeP A.c_Code L)), some (.fr (d7)), some (.fr (.tup ((lv (sgs L cs)).map tupV))), some (.fr x9), some (.fr (.lst (ds.map cV)))] _
      refine lam_go ([some (.fr (.raw (.ref a))), some (penS cells k4 m4), some (.fr x), some (.fr (.int (n : Int))), some (.fr (.lst (L.map pn))), some (.fr (.lst (cs.map PV.int))), some (.fr (codeP A.c_Code L)), some (.fr (d7)), some (.fr (.tup ((lv (sgs L cs)).map tupV))), some (.fr x9), some (.fr (.lst (ds.map cV)))]) ([some (.fr (.raw (.ref a))), none, some (.fr x), some (.fr (.int (n : Int))), some (.fr (.lst (L.map pn))), some (.fr (.lst (cs.map PV.int))), some (.fr (codeP A.c_Code L)), some (.fr (d7)), some (.fr (.tup ((lv (sgs L cs)).map tupV))), some (.fr x9), some (.fr (.lst (ds.map cV)))]) (frz_same rfl) rfl fun S' hS => ?_
      simp only [fSeq, fSet, fOfE, fOp, fUn, fIU, fVar, fC, fII, fIB, fIIc, fIxT, fIxL, fLst, fLstO, fCons, fTup, fNil, fB, fTrue, fgName, fgTup, fgCons, fgNil, fIt, fRng3, fRng2, fRng1, fLc2O, fLc2L, fLcO, fLc, fLcL, fRet, fCB, fStar, fCall, wipeE, List.getElem?_cons_zero, List.getElem?_cons_succ, List.set_cons_zero, List.set_cons_succ, SV.pv, PV.seq, fIfS, fOr, fAnd, fB, fgTup, fgCons, fgNil, fgName, fSl, fSlL, fpNone, fpSome, fCatL, fRepL, fFldK, fIsiX]
      refine bad_call gc hbd ?_ hS
      rw [hLn, ← e7]
      refine ne_selfD g7 (by decide) (if_f ?_)
      clear hS S'
      exact hN _ ⟨k4, m4, _, _, _, _, _, _, _, _, _, rfl, by omega, hm4⟩
    · refine ⟨_, false, ⟨rfl, T.O_Better.I⟩, T.k_Better_Least, ?_⟩
      refine ⟨L, cs, rfl, hW, (fun l hl => (gc.all l hl).2), by omega, ⟨cs, rfl, by omega, eqI _ _ (neB _ _ ?_)⟩⟩
      rw [decide_eq_false ec]
      refine if_f ?_
      show fSeq _ _ _ [some (.fr (.raw (.ref a))), some (penS cells k3 m3), some (.fr x), some (.fr (.int (n : Int))), some (.fr (.lst (L.map pn))), some (.fr (.lst (cs.map PV.int))), some (.fr (codeP A.c_Code L)), some (.fr (.tup ((lv (sgs L cs)).map tupV))), some (.fr (.tup ((lv (sgs L cs)).map tupV))), some (.fr (.ins A.c_Better ["code", "counts", "light", "heavy", "other"] [codeP A.c_Code L, .tup (cs.map PV.int), .tup (l.map pn), .tup (h.map pn), codeP A.c_Code L'])), z10]
      simp only [fSeq, fSet, fOfE, fOp, fUn, fIU, fVar, fC, fII, fIB, fIIc, fIxT, fIxL, fLst, fLstO, fCons, fTup, fNil, fB, fTrue, fgName, fgTup, fgCons, fgNil, fIt, fRng3, fRng2, fRng1, fLc2O, fLc2L, fLcO, fLc, fLcL, fRet, fCB, fStar, fCall, wipeE, List.getElem?_cons_zero, List.getElem?_cons_succ, List.set_cons_zero, List.set_cons_succ, SV.pv, PV.seq, fIfS, fOr, fAnd, fB, fgTup, fgCons, fgNil, fgName, fSl, fSlL, fpNone, fpSome, fCatL, fRepL, fFldK, fIsiX]
      refine ⟨_, false, ⟨rfl, T.O_Better.I⟩, T.k_Better_Least, if_f (if_f ?_)⟩
      show fSeq _ _ _ [some (.fr (.raw (.ref a))), some (penS cells k3 m3), some (.fr x), some (.fr (.int (n : Int))), some (.fr (.lst (L.map pn))), some (.fr (.lst (cs.map PV.int))), some (.fr (codeP A.c_Code L)), some (.fr (.tup ((lv (sgs L cs)).map tupV))), some (.fr (.tup ((lv (sgs L cs)).map tupV))), some (.fr (.ins A.c_Better ["code", "counts", "light", "heavy", "other"] [codeP A.c_Code L, .tup (cs.map PV.int), .tup (l.map pn), .tup (h.map pn), codeP A.c_Code L'])), z10]
      simp only [fSeq, fSet, fOfE, fOp, fUn, fIU, fVar, fC, fII, fIB, fIIc, fIxT, fIxL, fLst, fLstO, fCons, fTup, fNil, fB, fTrue, fgName, fgTup, fgCons, fgNil, fIt, fRng3, fRng2, fRng1, fLc2O, fLc2L, fLcO, fLc, fLcL, fRet, fCB, fStar, fCall, wipeE, List.getElem?_cons_zero, List.getElem?_cons_succ, List.set_cons_zero, List.set_cons_succ, SV.pv, PV.seq, fIfS, fOr, fAnd, fB, fgTup, fgCons, fgNil, fgName, fSl, fSlL, fpNone, fpSome, fCatL, fRepL, fFldK, fIsiX]
      refine ⟨T.O_Better.fl (by simp), _, rfl, _, rfl, ne_selfD dcs (by decide) (if_f ?_)⟩
      show fSeq _ _ _ [some (.fr (.raw (.ref a))), some (penS cells k3 m3), some (.fr x), some (.fr (.int (n : Int))), some (.fr (.lst (L.map pn))), some (.fr (.lst (cs.map PV.int))), some (.fr (codeP A.c_Code L)), some (.fr (.tup ((lv (sgs L cs)).map tupV))), some (.fr (.tup ((lv (sgs L cs)).map tupV))), some (.fr (.ins A.c_Better ["code", "counts", "light", "heavy", "other"] [codeP A.c_Code L, .tup (cs.map PV.int), .tup (l.map pn), .tup (h.map pn), codeP A.c_Code L'])), z10]
      generalize (PV.ins A.c_Better ["code", "counts", "light", "heavy", "other"] [codeP A.c_Code L, .tup (cs.map PV.int), .tup (l.map pn), .tup (h.map pn), codeP A.c_Code L'] : PV) = x9
      simp only [fSeq, fSet, fOfE, fOp, fUn, fIU, fVar, fC, fII, fIB, fIIc, fIxT, fIxL, fLst, fLstO, fCons, fTup, fNil, fB, fTrue, fgName, fgTup, fgCons, fgNil, fIt, fRng3, fRng2, fRng1, fLc2O, fLc2L, fLcO, fLc, fLcL, fRet, fCB, fStar, fCall, wipeE, List.getElem?_cons_zero, List.getElem?_cons_succ, List.set_cons_zero, List.set_cons_succ, SV.pv, PV.seq, fIfS, fOr, fAnd, fB, fgTup, fgCons, fgNil, fgName, fSl, fSlL, fpNone, fpSome, fCatL, fRepL, fFldK, fIsiX]
      refine ⟨⟨cells, k3, m3, rfl⟩, ?_⟩
      simp only [fSeq, fSet, fOfE, fOp, fUn, fIU, fVar, fC, fII, fIB, fIIc, fIxT, fIxL, fLst, fLstO, fCons, fTup, fNil, fB, fTrue, fgName, fgTup, fgCons, fgNil, fIt, fRng3, fRng2, fRng1, fLc2O, fLc2L, fLcO, fLc, fLcL, fRet, fCB, fStar, fCall, wipeE, List.getElem?_cons_zero, List.getElem?_cons_succ, List.set_cons_zero, List.set_cons_succ, SV.pv, PV.seq, fLst, fSl, fSlL, fpNone, fpSome, fCatL, fRepL]
      have hLn : L.length = n := by omega
      have lc : (cutP (cs.map PV.int) (some 1) none).length ≤ 1000 := by
        rw [cut_one, List.length_drop, List.length_map]
        omega
      refine ⟨sl_le (by show 2 ≤ 1000000; decide), sl_le (by show _ + 2 ≤ 1000000; omega), sl_le (by show 1 ≤ 1000000; decide), sl_le (by show 2 ≤ 1000000; decide), sl_le (by show _ + 2 ≤ 1000000; omega), sl_le (by show 1 ≤ 1000000; decide), by decide, by decide, sl_le (by decide), sl_le (by show 4 ≤ 1000000; decide), cells, k3, m3, _, rfl, rfl, hc, hm3, by show 0 < 4; decide, by show 4 < 1000000; decide, by omega, fun y m4 k4 hy hk4 hm4 => ?_⟩
      rw [← badL_vals] at hy
      obtain ⟨ds, hds, rfl⟩ := List.mem_map.mp hy
      obtain ⟨hbd, hdl⟩ := badL_bad gc hW (by omega) ds hds
      show pWdue [.lst (ds.map cV), .int (n : Int)] _ _
      refine ⟨ds, n, rfl, hdl, ?_⟩
      obtain ⟨d7, e7⟩ : ∃ d, d = wdue ds n := ⟨_, rfl⟩
      have g7 : okD False 1 d7 := by rw [e7]; exact okD_wdue ds n
      rw [← e7]
      show fLam _ _ _ [some (.fr (.raw (.ref a))), some (penS cells k4 m4), some (.fr x), some (.fr (.int (n : Int))), some (.fr (.lst (L.map pn))), some (.fr (.lst (cs.map PV.int))), some (.fr (codeP A.c_Code L)), some (.fr (d7)), some (.fr (.tup ((lv (sgs L cs)).map tupV))), some (.fr x9), some (.fr (.lst (ds.map cV)))] _
      refine lam_go ([some (.fr (.raw (.ref a))), some (penS cells k4 m4), some (.fr x), some (.fr (.int (n : Int))), some (.fr (.lst (L.map pn))), some (.fr (.lst (cs.map PV.int))), some (.fr (codeP A.c_Code L)), some (.fr (d7)), some (.fr (.tup ((lv (sgs L cs)).map tupV))), some (.fr x9), some (.fr (.lst (ds.map cV)))]) ([some (.fr (.raw (.ref a))), none, some (.fr x), some (.fr (.int (n : Int))), some (.fr (.lst (L.map pn))), some (.fr (.lst (cs.map PV.int))), some (.fr (codeP A.c_Code L)), some (.fr (d7)), some (.fr (.tup ((lv (sgs L cs)).map tupV))), some (.fr x9), some (.fr (.lst (ds.map cV)))]) (frz_same rfl) rfl fun S' hS => ?_
      simp only [fSeq, fSet, fOfE, fOp, fUn, fIU, fVar, fC, fII, fIB, fIIc, fIxT, fIxL, fLst, fLstO, fCons, fTup, fNil, fB, fTrue, fgName, fgTup, fgCons, fgNil, fIt, fRng3, fRng2, fRng1, fLc2O, fLc2L, fLcO, fLc, fLcL, fRet, fCB, fStar, fCall, wipeE, List.getElem?_cons_zero, List.getElem?_cons_succ, List.set_cons_zero, List.set_cons_succ, SV.pv, PV.seq, fIfS, fOr, fAnd, fB, fgTup, fgCons, fgNil, fgName, fSl, fSlL, fpNone, fpSome, fCatL, fRepL, fFldK, fIsiX]
      refine bad_call gc hbd ?_ hS
      rw [hLn, ← e7]
      refine ne_selfD g7 (by decide) (if_f ?_)
      clear hS S'
      unfold fNext
      simp only [fSeq, fSet, fOfE, fOp, fUn, fIU, fVar, fC, fII, fIB, fIIc, fIxT, fIxL, fLst, fLstO, fCons, fTup, fNil, fB, fTrue, fgName, fgTup, fgCons, fgNil, fIt, fRng3, fRng2, fRng1, fLc2O, fLc2L, fLcO, fLc, fLcL, fRet, fCB, fStar, fCall, wipeE, List.getElem?_cons_zero, List.getElem?_cons_succ, List.set_cons_zero, List.set_cons_succ, SV.pv, PV.seq, fIfS, fOr, fAnd, fB, fgTup, fgCons, fgNil, fgName, fSl, fSlL, fpNone, fpSome, fCatL, fRepL, fFldK, fIsiX]
      show fLam _ _ _ [some (.fr (.raw (.ref a))), some (penS cells k4 m4), some (.fr x), some (.fr (.int (n : Int))), some (.fr (.lst (L.map pn))), some (.fr (.lst (cs.map PV.int))), some (.fr (codeP A.c_Code L)), some (.fr (d7)), some (.fr (.tup ((lv (sgs L cs)).map tupV))), some (.fr x9), some (.fr (.lst (ds.map cV)))] _
      refine lam_go ([some (.fr (.raw (.ref a))), some (penS cells k4 m4), some (.fr x), some (.fr (.int (n : Int))), some (.fr (.lst (L.map pn))), some (.fr (.lst (cs.map PV.int))), some (.fr (codeP A.c_Code L)), some (.fr (d7)), some (.fr (.tup ((lv (sgs L cs)).map tupV))), some (.fr x9), some (.fr (.lst (ds.map cV)))]) ([some (.fr (.raw (.ref a))), none, some (.fr x), some (.fr (.int (n : Int))), some (.fr (.lst (L.map pn))), some (.fr (.lst (cs.map PV.int))), some (.fr (codeP A.c_Code L)), some (.fr (d7)), some (.fr (.tup ((lv (sgs L cs)).map tupV))), some (.fr x9), some (.fr (.lst (ds.map cV)))]) (frz_same rfl) rfl fun S' hS => ?_
      simp only [fSeq, fSet, fOfE, fOp, fUn, fIU, fVar, fC, fII, fIB, fIIc, fIxT, fIxL, fLst, fLstO, fCons, fTup, fNil, fB, fTrue, fgName, fgTup, fgCons, fgNil, fIt, fRng3, fRng2, fRng1, fLc2O, fLc2L, fLcO, fLc, fLcL, fRet, fCB, fStar, fCall, wipeE, List.getElem?_cons_zero, List.getElem?_cons_succ, List.set_cons_zero, List.set_cons_succ, SV.pv, PV.seq, fIfS, fOr, fAnd, fB, fgTup, fgCons, fgNil, fgName, fSl, fSlL, fpNone, fpSome, fCatL, fRepL, fFldK, fIsiX]
      refine bad_call gc hbd ?_ hS
      rw [hLn, ← e7]
      refine ne_selfD g7 (by decide) (if_f ?_)
      clear hS S'
      exact hN _ ⟨k4, m4, _, _, _, _, _, _, _, _, _, rfl, by omega, hm4⟩
  · obtain ⟨k, m, z2, z3, z4, z5, z6, z7, z8, z9, z10, rfl, hk, hm⟩ := hI
    rfl
end
end Z

set_option Elab.async false
set_option linter.all false
set_option maxRecDepth 100000
set_option maxHeartbeats 8000000
/-! what the top has written, gathered -/
namespace Z
open PySem L2 XV KR PL LamX PyProof.Rows
/-- of a class of the errors: all that is asked of it but its object and its __init__'s -/
def errB (K : PySem.W.Frag) (C fI : Addr) (fs : List Str) : Bool :=
  PySem.W.findIn K (.ref C) "__setattr__" == some (some (.builtin "object.__setattr__")) && PySem.W.subIn K (.ref C) (.type "BaseException") == some true && PySem.W.typeIn K (.ref C) == some (.type "type") && PySem.W.keepIn K (.ref C) &&
  PySem.W.findIn K (.ref C) "__init__" == some (some (.ref fI)) && PySem.W.typeIn K (.ref fI) == some (.type "function") && PySem.W.findIn K (.ref C) "__getattribute__" == some (some (.builtin "BaseException.__getattribute__")) &&
  PySem.W.findIn K (.ref C) "__getattr__" == some none && PySem.W.hasDictIn K C && PySem.W.findIn K (.ref C) "__class__" == some (some (.builtin "object.__class__")) &&
  PySem.W.specialIn K (.builtin "object.__class__") "__get__" == some (some (.builtin "getset_descriptor.__get__")) && PySem.W.takesIn K (.builtin "object.__class__") == some true && PySem.W.mroIn K C (.type "object") == some true &&
  fs.all fun f => PySem.W.findIn K (.ref C) f == some none
theorem ec_mk {K : PySem.W.Frag} {mg : Str → Option Value} {h : Heap} (X : K.In h) (G : h.Ns mainGlobals mg) {cj C fI N : Addr} {x qual nm q : Str} {st : Stmt} {fs : List Str} {bs : List Value} {sn : List Str} {sub : List Value} {ab : Bool} {col : Option Bool} {dd : Option Addr} {m0 m1 m2 m3 m5 : Option Value}
    {oc kV doc pm cd ct : Value} {od an : Option Addr} {sl : Array (Option Value)}
    (aC : PySem.W.nsIn K mainGlobals x = some (some (.ref C)))
    (xL : K.lookup C = some (excClassObj nm q C N bs [.ref cj, .type "ValueError", .type "Exception", .type "BaseException", .type "object"] true sn sub ab col dd m0 m1 m2 m3 m5 "ValueError.__new__"))
    (eB : errB K C fI fs = true)
    (lI : K.lookup fI = some ⟨oc, od, .func (PySem.W.fnOf "__init__" qual (defArgs st) (defBody st) (defScope st) .none kV doc pm an cd ct), sl⟩) (cI : PySem.W.codeIn K cd qual = true) (kI : PySem.W.keepIn K (.ref fI) = true)
    (hb : KBn K (PySem.W.fnOf "__init__" qual (defArgs st) (defBody st) (defScope st) .none kV doc pm an cd ct) ("self" :: fs) (fs.length + 1) [] (fun us _ => us) (fun vs _ => vs))
    (hk : Binds K (PySem.W.fnOf "__init__" qual (defArgs st) (defBody st) (defScope st) .none kV doc pm an cd ct) ("self" :: fs) []) :
    Ec K mg cj C fI x qual st (PySem.W.fnOf "__init__" qual (defArgs st) (defBody st) (defScope st) .none kV doc pm an cd ct) fs := by
  unfold errB at eB
  simp only [Bool.and_eq_true, beq_iff_eq, List.all_eq_true] at eB
  obtain ⟨⟨⟨⟨⟨⟨⟨⟨⟨⟨⟨⟨⟨e1, e2⟩, e3⟩, e4⟩, e5⟩, e6⟩, e7⟩, e8⟩, e9⟩, e10⟩, e11⟩, e12⟩, e13⟩, e14⟩ := eB
  exact { E := ⟨⟨⟨nm, q, N, bs, _, sn, sub, ab, col, dd, m0, m1, m2, m3, m5, xL, by rfl⟩, e1, e2, e3, e4⟩, e5, e6⟩, R := ⟨e7, e8, e2, e9, e10, e11, e12, e13⟩, F := fun_mk lI cI kI, g := PySem.W.mg_of X G aC,
          m := ⟨_, by unfold PySem.W.clsIn; rw [xL] <;> rfl, rfl⟩, ty := e3, b := hb, bb := hk, no := e14 }
/-- of an own class -/
def ocB (K : PySem.W.Frag) (C fI : Addr) (fs : List Str) : Bool :=
  PySem.W.makesIn K C && PySem.W.findIn K (.ref C) "__init__" == some (some (.ref fI)) && PySem.W.isFn K (.ref fI) && PySem.W.keepIn K (.ref C) &&
  PySem.W.plainGet K C Str.empty && PySem.W.hasDictIn K C && PySem.W.plainOver K C && PySem.W.findIn K (.ref C) "__setattr__" == some (some (.builtin "object.__setattr__")) &&
  PySem.W.findIn K (.ref C) "__class__" == some (some (.builtin "object.__class__")) && PySem.W.specialIn K (.builtin "object.__class__") "__get__" == some (some (.builtin "getset_descriptor.__get__")) &&
  PySem.W.takesIn K (.builtin "object.__class__") == some true && PySem.W.mroIn K C (.type "object") == some true &&
  PySem.W.kitOne K (.ref C) (.type "list") == some false && PySem.W.kitOne K (.ref C) (.type "tuple") == some false && PySem.W.kitOne K (.ref C) (.type "dict") == some false && PySem.W.kitOne K (.ref C) (.type "int") == some false && PySem.W.kitOne K (.ref C) (.type "str") == some false &&
  fs.all fun f => PySem.W.findIn K (.ref C) f == some none
theorem oc_mk {K : PySem.W.Frag} {C fI : Addr} {fs : List Str} (e : ocB K C fI fs = true) : Oc K C fI fs := by
  unfold ocB at e
  simp only [Bool.and_eq_true, beq_iff_eq, List.all_eq_true] at e
  obtain ⟨⟨⟨⟨⟨⟨⟨⟨⟨⟨⟨⟨⟨⟨⟨⟨⟨e1, e2⟩, e3⟩, e4⟩, e5⟩, e6⟩, e7⟩, e8⟩, e9⟩, e10⟩, e11⟩, e12⟩, e13⟩, e14⟩, e15⟩, e16⟩, e17⟩, e18⟩ := e
  exact { M := ⟨e1, e2, e3, e4⟩, I := ⟨⟨e5, e6, e7, e8⟩, e9, e10, e11, e12⟩, no := e18, kl := e13, kt := e14, kd := e15, ki := e16, ks := e17 }
def ceqB (K : PySem.W.Frag) (C fE : Addr) : Bool :=
  PySem.W.findIn K (.ref C) "__eq__" == some (some (.ref fE)) && PySem.W.findIn K (.ref C) "__ne__" == some (some (.builtin "object.__ne__")) && PySem.W.isFn K (.ref fE) && PySem.W.notFirst K C (.ref C)
theorem ceq_mk {K : PySem.W.Frag} {C fE : Addr} (e : ceqB K C fE = true) (h : PySem.W.kitOne K (.ref C) (.ref C) = some true) : Ceq K C fE := by
  unfold ceqB at e
  simp only [Bool.and_eq_true, beq_iff_eq] at e
  obtain ⟨⟨⟨e1, e4⟩, e2⟩, e3⟩ := e
  exact { eq := e1, ne := e4, fn := e2, nfc := e3, kc := h }

section
variable {l : PySem.W.OpenLaw} {q : Program} {w : World} {K : PySem.W.Frag} {mg : Str → Option Value} {h : Heap} {fa : Addr}
theorem all_mk (TF : TabFact q K h) (X : K.In h) (G : h.Ns mainGlobals mg) (hfa : mg "law" = some (.ref fa))
    {cj : Addr}
    {T_signsbylength : Addr} {o1_signsbylength : Value} {o2_signsbylength : Option Addr} {n_signsbylength : Nat} {sl2_signsbylength : Array (Option Value)}
    {f_signsbylength : Addr} {oc_signsbylength kV_signsbylength doc_signsbylength pm_signsbylength cd_signsbylength ct_signsbylength : Value} {od_signsbylength an_signsbylength : Option Addr} {sl_signsbylength : Array (Option Value)}
    {T_signgroups : Addr} {o1_signgroups : Value} {o2_signgroups : Option Addr} {n_signgroups : Nat} {sl2_signgroups : Array (Option Value)}
    {f_signgroups : Addr} {oc_signgroups kV_signgroups doc_signgroups pm_signgroups cd_signgroups ct_signgroups : Value} {od_signgroups an_signgroups : Option Addr} {sl_signgroups : Array (Option Value)}
    {f_isint : Addr} {oc_isint kV_isint doc_isint pm_isint cd_isint ct_isint : Value} {od_isint an_isint : Option Addr} {sl_isint : Array (Option Value)}
    {f_kept : Addr} {oc_kept kV_kept doc_kept pm_kept cd_kept ct_kept : Value} {od_kept an_kept : Option Addr} {sl_kept : Array (Option Value)}
    {f_frozen : Addr} {oc_frozen kV_frozen doc_frozen pm_frozen cd_frozen ct_frozen : Value} {od_frozen an_frozen : Option Addr} {sl_frozen : Array (Option Value)}
    {f_checkmany : Addr} {oc_checkmany kV_checkmany doc_checkmany pm_checkmany cd_checkmany ct_checkmany : Value} {od_checkmany an_checkmany : Option Addr} {sl_checkmany : Array (Option Value)}
    {f_checkcounts : Addr} {oc_checkcounts kV_checkcounts doc_checkcounts pm_checkcounts cd_checkcounts ct_checkcounts : Value} {od_checkcounts an_checkcounts : Option Addr} {sl_checkcounts : Array (Option Value)}
    {f_checkcountsof : Addr} {oc_checkcountsof kV_checkcountsof doc_checkcountsof pm_checkcountsof cd_checkcountsof ct_checkcountsof : Value} {od_checkcountsof an_checkcountsof : Option Addr} {sl_checkcountsof : Array (Option Value)}
    {f_lens : Addr} {oc_lens kV_lens doc_lens pm_lens cd_lens ct_lens : Value} {od_lens an_lens : Option Addr} {sl_lens : Array (Option Value)}
    {f_isword : Addr} {oc_isword kV_isword doc_isword pm_isword cd_isword ct_isword : Value} {od_isword an_isword : Option Addr} {sl_isword : Array (Option Value)}
    {f_cwords : Addr} {oc_cwords kV_cwords doc_cwords pm_cwords cd_cwords ct_cwords : Value} {od_cwords an_cwords : Option Addr} {sl_cwords : Array (Option Value)}
    {f_canon : Addr} {oc_canon kV_canon doc_canon pm_canon cd_canon ct_canon : Value} {od_canon an_canon : Option Addr} {sl_canon : Array (Option Value)}
    {f_paired : Addr} {oc_paired kV_paired doc_paired pm_paired cd_paired ct_paired : Value} {od_paired an_paired : Option Addr} {sl_paired : Array (Option Value)}
    {f_packed : Addr} {oc_packed kV_packed doc_packed pm_packed cd_packed ct_packed : Value} {od_packed an_packed : Option Addr} {sl_packed : Array (Option Value)}
    {f_levels : Addr} {oc_levels kV_levels doc_levels pm_levels cd_levels ct_levels : Value} {od_levels an_levels : Option Addr} {sl_levels : Array (Option Value)}
    {f_lighterabove : Addr} {oc_lighterabove kV_lighterabove doc_lighterabove pm_lighterabove cd_lighterabove ct_lighterabove : Value} {od_lighterabove an_lighterabove : Option Addr} {sl_lighterabove : Array (Option Value)}
    {f_beyond : Addr} {oc_beyond kV_beyond doc_beyond pm_beyond cd_beyond ct_beyond : Value} {od_beyond an_beyond : Option Addr} {sl_beyond : Array (Option Value)}
    {f_judge : Addr} {oc_judge kV_judge doc_judge pm_judge cd_judge ct_judge : Value} {od_judge an_judge : Option Addr} {sl_judge : Array (Option Value)}
    {f_penof : Addr} {oc_penof kV_penof doc_penof pm_penof cd_penof ct_penof : Value} {od_penof an_penof : Option Addr} {sl_penof : Array (Option Value)}
    {f_draw : Addr} {oc_draw kV_draw doc_draw pm_draw cd_draw ct_draw : Value} {od_draw an_draw : Option Addr} {sl_draw : Array (Option Value)}
    {f_pick : Addr} {oc_pick kV_pick doc_pick pm_pick cd_pick ct_pick : Value} {od_pick an_pick : Option Addr} {sl_pick : Array (Option Value)}
    {f_countsof : Addr} {oc_countsof kV_countsof doc_countsof pm_countsof cd_countsof ct_countsof : Value} {od_countsof an_countsof : Option Addr} {sl_countsof : Array (Option Value)}
    {f_lof : Addr} {oc_lof kV_lof doc_lof pm_lof cd_lof ct_lof : Value} {od_lof an_lof : Option Addr} {sl_lof : Array (Option Value)}
    {f_cost : Addr} {oc_cost kV_cost doc_cost pm_cost cd_cost ct_cost : Value} {od_cost an_cost : Option Addr} {sl_cost : Array (Option Value)}
    {f_leastcost : Addr} {oc_leastcost kV_leastcost doc_leastcost pm_leastcost cd_leastcost ct_leastcost : Value} {od_leastcost an_leastcost : Option Addr} {sl_leastcost : Array (Option Value)}
    {f_llevels : Addr} {oc_llevels kV_llevels doc_llevels pm_llevels cd_llevels ct_llevels : Value} {od_llevels an_llevels : Option Addr} {sl_llevels : Array (Option Value)}
    {f_wrong : Addr} {oc_wrong kV_wrong doc_wrong pm_wrong cd_wrong ct_wrong : Value} {od_wrong an_wrong : Option Addr} {sl_wrong : Array (Option Value)}
    {f_wrongdue : Addr} {oc_wrongdue kV_wrongdue doc_wrongdue pm_wrongdue cd_wrongdue ct_wrongdue : Value} {od_wrongdue an_wrongdue : Option Addr} {sl_wrongdue : Array (Option Value)}
    {f_law : Addr} {oc_law kV_law doc_law pm_law ct_law : Value} {od_law an_law : Option Addr} {sl_law : Array (Option Value)} {C_law P_law : Addr}
    {e1_law : Value} {e2_law : Option Addr} {e3_law : Array Value} {e4_law : Array (Option Value)}
    {C_TooMany I_TooMany N_TooMany : Addr} {nm_TooMany q_TooMany : Str} {bs_TooMany : List Value} {sn_TooMany : List Str} {sub_TooMany : List Value} {ab_TooMany : Bool} {col_TooMany : Option Bool} {dd_TooMany : Option Addr} {m0_TooMany m1_TooMany m2_TooMany m3_TooMany m5_TooMany : Option Value} {oc_TooMany kV_TooMany doc_TooMany pm_TooMany cd_TooMany ct_TooMany : Value} {od_TooMany an_TooMany : Option Addr} {sl_TooMany : Array (Option Value)}
    {C_BadCount I_BadCount N_BadCount : Addr} {nm_BadCount q_BadCount : Str} {bs_BadCount : List Value} {sn_BadCount : List Str} {sub_BadCount : List Value} {ab_BadCount : Bool} {col_BadCount : Option Bool} {dd_BadCount : Option Addr} {m0_BadCount m1_BadCount m2_BadCount m3_BadCount m5_BadCount : Option Value} {oc_BadCount kV_BadCount doc_BadCount pm_BadCount cd_BadCount ct_BadCount : Value} {od_BadCount an_BadCount : Option Addr} {sl_BadCount : Array (Option Value)}
    {C_BadLength I_BadLength N_BadLength : Addr} {nm_BadLength q_BadLength : Str} {bs_BadLength : List Value} {sn_BadLength : List Str} {sub_BadLength : List Value} {ab_BadLength : Bool} {col_BadLength : Option Bool} {dd_BadLength : Option Addr} {m0_BadLength m1_BadLength m2_BadLength m3_BadLength m5_BadLength : Option Value} {oc_BadLength kV_BadLength doc_BadLength pm_BadLength cd_BadLength ct_BadLength : Value} {od_BadLength an_BadLength : Option Addr} {sl_BadLength : Array (Option Value)}
    {C_NotFull I_NotFull N_NotFull : Addr} {nm_NotFull q_NotFull : Str} {bs_NotFull : List Value} {sn_NotFull : List Str} {sub_NotFull : List Value} {ab_NotFull : Bool} {col_NotFull : Option Bool} {dd_NotFull : Option Addr} {m0_NotFull m1_NotFull m2_NotFull m3_NotFull m5_NotFull : Option Value} {oc_NotFull kV_NotFull doc_NotFull pm_NotFull cd_NotFull ct_NotFull : Value} {od_NotFull an_NotFull : Option Addr} {sl_NotFull : Array (Option Value)}
    {C_BadWord I_BadWord N_BadWord : Addr} {nm_BadWord q_BadWord : Str} {bs_BadWord : List Value} {sn_BadWord : List Str} {sub_BadWord : List Value} {ab_BadWord : Bool} {col_BadWord : Option Bool} {dd_BadWord : Option Addr} {m0_BadWord m1_BadWord m2_BadWord m3_BadWord m5_BadWord : Option Value} {oc_BadWord kV_BadWord doc_BadWord pm_BadWord cd_BadWord ct_BadWord : Value} {od_BadWord an_BadWord : Option Addr} {sl_BadWord : Array (Option Value)}
    {C_Begins I_Begins N_Begins : Addr} {nm_Begins q_Begins : Str} {bs_Begins : List Value} {sn_Begins : List Str} {sub_Begins : List Value} {ab_Begins : Bool} {col_Begins : Option Bool} {dd_Begins : Option Addr} {m0_Begins m1_Begins m2_Begins m3_Begins m5_Begins : Option Value} {oc_Begins kV_Begins doc_Begins pm_Begins cd_Begins ct_Begins : Value} {od_Begins an_Begins : Option Addr} {sl_Begins : Array (Option Value)}
    {C_OtherSize I_OtherSize N_OtherSize : Addr} {nm_OtherSize q_OtherSize : Str} {bs_OtherSize : List Value} {sn_OtherSize : List Str} {sub_OtherSize : List Value} {ab_OtherSize : Bool} {col_OtherSize : Option Bool} {dd_OtherSize : Option Addr} {m0_OtherSize m1_OtherSize m2_OtherSize m3_OtherSize m5_OtherSize : Option Value} {oc_OtherSize kV_OtherSize doc_OtherSize pm_OtherSize cd_OtherSize ct_OtherSize : Value} {od_OtherSize an_OtherSize : Option Addr} {sl_OtherSize : Array (Option Value)}
    {C_Code : Addr} {f_init : Addr} {f_eq : Addr}
    {T_init : Addr} {o1_init : Value} {o2_init : Option Addr} {n_init : Nat} {sl2_init : Array (Option Value)}
    {oc_init kV_init doc_init pm_init cd_init ct_init : Value} {od_init an_init : Option Addr} {sl_init : Array (Option Value)}
    {oc_eq kV_eq doc_eq pm_eq cd_eq ct_eq : Value} {od_eq an_eq : Option Addr} {sl_eq : Array (Option Value)}
    {C_Least : Addr} {f_Least : Addr}
    {oc_Least kV_Least doc_Least pm_Least cd_Least ct_Least : Value} {od_Least an_Least : Option Addr} {sl_Least : Array (Option Value)}
    {C_Better : Addr} {f_Better : Addr}
    {oc_Better kV_Better doc_Better pm_Better cd_Better ct_Better : Value} {od_Better an_Better : Option Addr} {sl_Better : Array (Option Value)}
    {tk_FEWEST_SIGNS : Tok}
    {tk_MOST_SIGNS : Tok}
    {tk_LONGEST_WORD : Tok}
    (a_signsbylength : PySem.W.nsIn K mainGlobals "signs_by_length" = some (some (.ref f_signsbylength)))
    (l_signsbylength : K.lookup f_signsbylength = some ⟨oc_signsbylength, od_signsbylength, .func (PySem.W.fnOf "signs_by_length" "signs_by_length" (defArgs s_signsbylength) (defBody s_signsbylength) (defScope s_signsbylength) (.ref T_signsbylength) kV_signsbylength doc_signsbylength pm_signsbylength an_signsbylength cd_signsbylength ct_signsbylength), sl_signsbylength⟩)
    (c_signsbylength : PySem.W.codeIn K cd_signsbylength "signs_by_length" = true)
    (k_signsbylength : PySem.W.keepIn K (.ref f_signsbylength) = true)
    (lT_signsbylength : K.lookup T_signsbylength = some ⟨o1_signsbylength, o2_signsbylength, .seq #[.none] n_signsbylength, sl2_signsbylength⟩)
    (a_signgroups : PySem.W.nsIn K mainGlobals "sign_groups" = some (some (.ref f_signgroups)))
    (l_signgroups : K.lookup f_signgroups = some ⟨oc_signgroups, od_signgroups, .func (PySem.W.fnOf "sign_groups" "sign_groups" (defArgs s_signgroups) (defBody s_signgroups) (defScope s_signgroups) (.ref T_signgroups) kV_signgroups doc_signgroups pm_signgroups an_signgroups cd_signgroups ct_signgroups), sl_signgroups⟩)
    (c_signgroups : PySem.W.codeIn K cd_signgroups "sign_groups" = true)
    (k_signgroups : PySem.W.keepIn K (.ref f_signgroups) = true)
    (lT_signgroups : K.lookup T_signgroups = some ⟨o1_signgroups, o2_signgroups, .seq #[.none] n_signgroups, sl2_signgroups⟩)
    (a_isint : PySem.W.nsIn K mainGlobals "is_int" = some (some (.ref f_isint)))
    (l_isint : K.lookup f_isint = some ⟨oc_isint, od_isint, .func (PySem.W.fnOf "is_int" "is_int" (defArgs s_isint) (defBody s_isint) (defScope s_isint) .none kV_isint doc_isint pm_isint an_isint cd_isint ct_isint), sl_isint⟩)
    (c_isint : PySem.W.codeIn K cd_isint "is_int" = true)
    (k_isint : PySem.W.keepIn K (.ref f_isint) = true)
    (a_kept : PySem.W.nsIn K mainGlobals "kept" = some (some (.ref f_kept)))
    (l_kept : K.lookup f_kept = some ⟨oc_kept, od_kept, .func (PySem.W.fnOf "kept" "kept" (defArgs s_kept) (defBody s_kept) (defScope s_kept) .none kV_kept doc_kept pm_kept an_kept cd_kept ct_kept), sl_kept⟩)
    (c_kept : PySem.W.codeIn K cd_kept "kept" = true)
    (k_kept : PySem.W.keepIn K (.ref f_kept) = true)
    (a_frozen : PySem.W.nsIn K mainGlobals "frozen" = some (some (.ref f_frozen)))
    (l_frozen : K.lookup f_frozen = some ⟨oc_frozen, od_frozen, .func (PySem.W.fnOf "frozen" "frozen" (defArgs s_frozen) (defBody s_frozen) (defScope s_frozen) .none kV_frozen doc_frozen pm_frozen an_frozen cd_frozen ct_frozen), sl_frozen⟩)
    (c_frozen : PySem.W.codeIn K cd_frozen "frozen" = true)
    (k_frozen : PySem.W.keepIn K (.ref f_frozen) = true)
    (a_checkmany : PySem.W.nsIn K mainGlobals "check_many" = some (some (.ref f_checkmany)))
    (l_checkmany : K.lookup f_checkmany = some ⟨oc_checkmany, od_checkmany, .func (PySem.W.fnOf "check_many" "check_many" (defArgs s_checkmany) (defBody s_checkmany) (defScope s_checkmany) .none kV_checkmany doc_checkmany pm_checkmany an_checkmany cd_checkmany ct_checkmany), sl_checkmany⟩)
    (c_checkmany : PySem.W.codeIn K cd_checkmany "check_many" = true)
    (k_checkmany : PySem.W.keepIn K (.ref f_checkmany) = true)
    (a_checkcounts : PySem.W.nsIn K mainGlobals "check_counts" = some (some (.ref f_checkcounts)))
    (l_checkcounts : K.lookup f_checkcounts = some ⟨oc_checkcounts, od_checkcounts, .func (PySem.W.fnOf "check_counts" "check_counts" (defArgs s_checkcounts) (defBody s_checkcounts) (defScope s_checkcounts) .none kV_checkcounts doc_checkcounts pm_checkcounts an_checkcounts cd_checkcounts ct_checkcounts), sl_checkcounts⟩)
    (c_checkcounts : PySem.W.codeIn K cd_checkcounts "check_counts" = true)
    (k_checkcounts : PySem.W.keepIn K (.ref f_checkcounts) = true)
    (a_checkcountsof : PySem.W.nsIn K mainGlobals "check_counts_of" = some (some (.ref f_checkcountsof)))
    (l_checkcountsof : K.lookup f_checkcountsof = some ⟨oc_checkcountsof, od_checkcountsof, .func (PySem.W.fnOf "check_counts_of" "check_counts_of" (defArgs s_checkcountsof) (defBody s_checkcountsof) (defScope s_checkcountsof) .none kV_checkcountsof doc_checkcountsof pm_checkcountsof an_checkcountsof cd_checkcountsof ct_checkcountsof), sl_checkcountsof⟩)
    (c_checkcountsof : PySem.W.codeIn K cd_checkcountsof "check_counts_of" = true)
    (k_checkcountsof : PySem.W.keepIn K (.ref f_checkcountsof) = true)
    (a_lens : PySem.W.nsIn K mainGlobals "check_lengths" = some (some (.ref f_lens)))
    (l_lens : K.lookup f_lens = some ⟨oc_lens, od_lens, .func (PySem.W.fnOf "check_lengths" "check_lengths" (defArgs s_lens) (defBody s_lens) (defScope s_lens) .none kV_lens doc_lens pm_lens an_lens cd_lens ct_lens), sl_lens⟩)
    (c_lens : PySem.W.codeIn K cd_lens "check_lengths" = true)
    (k_lens : PySem.W.keepIn K (.ref f_lens) = true)
    (a_isword : PySem.W.nsIn K mainGlobals "is_word" = some (some (.ref f_isword)))
    (l_isword : K.lookup f_isword = some ⟨oc_isword, od_isword, .func (PySem.W.fnOf "is_word" "is_word" (defArgs s_isword) (defBody s_isword) (defScope s_isword) .none kV_isword doc_isword pm_isword an_isword cd_isword ct_isword), sl_isword⟩)
    (c_isword : PySem.W.codeIn K cd_isword "is_word" = true)
    (k_isword : PySem.W.keepIn K (.ref f_isword) = true)
    (a_cwords : PySem.W.nsIn K mainGlobals "check_words" = some (some (.ref f_cwords)))
    (l_cwords : K.lookup f_cwords = some ⟨oc_cwords, od_cwords, .func (PySem.W.fnOf "check_words" "check_words" (defArgs s_cwords) (defBody s_cwords) (defScope s_cwords) .none kV_cwords doc_cwords pm_cwords an_cwords cd_cwords ct_cwords), sl_cwords⟩)
    (c_cwords : PySem.W.codeIn K cd_cwords "check_words" = true)
    (k_cwords : PySem.W.keepIn K (.ref f_cwords) = true)
    (a_canon : PySem.W.nsIn K mainGlobals "canonical_words" = some (some (.ref f_canon)))
    (l_canon : K.lookup f_canon = some ⟨oc_canon, od_canon, .func (PySem.W.fnOf "canonical_words" "canonical_words" (defArgs s_canon) (defBody s_canon) (defScope s_canon) .none kV_canon doc_canon pm_canon an_canon cd_canon ct_canon), sl_canon⟩)
    (c_canon : PySem.W.codeIn K cd_canon "canonical_words" = true)
    (k_canon : PySem.W.keepIn K (.ref f_canon) = true)
    (a_paired : PySem.W.nsIn K mainGlobals "paired" = some (some (.ref f_paired)))
    (l_paired : K.lookup f_paired = some ⟨oc_paired, od_paired, .func (PySem.W.fnOf "paired" "paired" (defArgs s_paired) (defBody s_paired) (defScope s_paired) .none kV_paired doc_paired pm_paired an_paired cd_paired ct_paired), sl_paired⟩)
    (c_paired : PySem.W.codeIn K cd_paired "paired" = true)
    (k_paired : PySem.W.keepIn K (.ref f_paired) = true)
    (a_packed : PySem.W.nsIn K mainGlobals "packed" = some (some (.ref f_packed)))
    (l_packed : K.lookup f_packed = some ⟨oc_packed, od_packed, .func (PySem.W.fnOf "packed" "packed" (defArgs s_packed) (defBody s_packed) (defScope s_packed) .none kV_packed doc_packed pm_packed an_packed cd_packed ct_packed), sl_packed⟩)
    (c_packed : PySem.W.codeIn K cd_packed "packed" = true)
    (k_packed : PySem.W.keepIn K (.ref f_packed) = true)
    (a_levels : PySem.W.nsIn K mainGlobals "levels" = some (some (.ref f_levels)))
    (l_levels : K.lookup f_levels = some ⟨oc_levels, od_levels, .func (PySem.W.fnOf "levels" "levels" (defArgs s_levels) (defBody s_levels) (defScope s_levels) .none kV_levels doc_levels pm_levels an_levels cd_levels ct_levels), sl_levels⟩)
    (c_levels : PySem.W.codeIn K cd_levels "levels" = true)
    (k_levels : PySem.W.keepIn K (.ref f_levels) = true)
    (a_lighterabove : PySem.W.nsIn K mainGlobals "lighter_above" = some (some (.ref f_lighterabove)))
    (l_lighterabove : K.lookup f_lighterabove = some ⟨oc_lighterabove, od_lighterabove, .func (PySem.W.fnOf "lighter_above" "lighter_above" (defArgs s_lighterabove) (defBody s_lighterabove) (defScope s_lighterabove) .none kV_lighterabove doc_lighterabove pm_lighterabove an_lighterabove cd_lighterabove ct_lighterabove), sl_lighterabove⟩)
    (c_lighterabove : PySem.W.codeIn K cd_lighterabove "lighter_above" = true)
    (k_lighterabove : PySem.W.keepIn K (.ref f_lighterabove) = true)
    (a_beyond : PySem.W.nsIn K mainGlobals "beyond" = some (some (.ref f_beyond)))
    (l_beyond : K.lookup f_beyond = some ⟨oc_beyond, od_beyond, .func (PySem.W.fnOf "beyond" "beyond" (defArgs s_beyond) (defBody s_beyond) (defScope s_beyond) .none kV_beyond doc_beyond pm_beyond an_beyond cd_beyond ct_beyond), sl_beyond⟩)
    (c_beyond : PySem.W.codeIn K cd_beyond "beyond" = true)
    (k_beyond : PySem.W.keepIn K (.ref f_beyond) = true)
    (a_judge : PySem.W.nsIn K mainGlobals "judge" = some (some (.ref f_judge)))
    (l_judge : K.lookup f_judge = some ⟨oc_judge, od_judge, .func (PySem.W.fnOf "judge" "judge" (defArgs s_judge) (defBody s_judge) (defScope s_judge) .none kV_judge doc_judge pm_judge an_judge cd_judge ct_judge), sl_judge⟩)
    (c_judge : PySem.W.codeIn K cd_judge "judge" = true)
    (k_judge : PySem.W.keepIn K (.ref f_judge) = true)
    (a_penof : PySem.W.nsIn K mainGlobals "_law_pen_of" = some (some (.ref f_penof)))
    (l_penof : K.lookup f_penof = some ⟨oc_penof, od_penof, .func (PySem.W.fnOf "_law_pen_of" "_law_pen_of" (defArgs s_penof) (defBody s_penof) (defScope s_penof) .none kV_penof doc_penof pm_penof an_penof cd_penof ct_penof), sl_penof⟩)
    (c_penof : PySem.W.codeIn K cd_penof "_law_pen_of" = true)
    (k_penof : PySem.W.keepIn K (.ref f_penof) = true)
    (a_draw : PySem.W.nsIn K mainGlobals "_law_draw" = some (some (.ref f_draw)))
    (l_draw : K.lookup f_draw = some ⟨oc_draw, od_draw, .func (PySem.W.fnOf "_law_draw" "_law_draw" (defArgs s_draw) (defBody s_draw) (defScope s_draw) .none kV_draw doc_draw pm_draw an_draw cd_draw ct_draw), sl_draw⟩)
    (c_draw : PySem.W.codeIn K cd_draw "_law_draw" = true)
    (k_draw : PySem.W.keepIn K (.ref f_draw) = true)
    (a_pick : PySem.W.nsIn K mainGlobals "_law_pick" = some (some (.ref f_pick)))
    (l_pick : K.lookup f_pick = some ⟨oc_pick, od_pick, .func (PySem.W.fnOf "_law_pick" "_law_pick" (defArgs s_pick) (defBody s_pick) (defScope s_pick) .none kV_pick doc_pick pm_pick an_pick cd_pick ct_pick), sl_pick⟩)
    (c_pick : PySem.W.codeIn K cd_pick "_law_pick" = true)
    (k_pick : PySem.W.keepIn K (.ref f_pick) = true)
    (a_countsof : PySem.W.nsIn K mainGlobals "_law_counts_of" = some (some (.ref f_countsof)))
    (l_countsof : K.lookup f_countsof = some ⟨oc_countsof, od_countsof, .func (PySem.W.fnOf "_law_counts_of" "_law_counts_of" (defArgs s_countsof) (defBody s_countsof) (defScope s_countsof) .none kV_countsof doc_countsof pm_countsof an_countsof cd_countsof ct_countsof), sl_countsof⟩)
    (c_countsof : PySem.W.codeIn K cd_countsof "_law_counts_of" = true)
    (k_countsof : PySem.W.keepIn K (.ref f_countsof) = true)
    (a_lof : PySem.W.nsIn K mainGlobals "_law_lengths_of" = some (some (.ref f_lof)))
    (l_lof : K.lookup f_lof = some ⟨oc_lof, od_lof, .func (PySem.W.fnOf "_law_lengths_of" "_law_lengths_of" (defArgs s_lof) (defBody s_lof) (defScope s_lof) .none kV_lof doc_lof pm_lof an_lof cd_lof ct_lof), sl_lof⟩)
    (c_lof : PySem.W.codeIn K cd_lof "_law_lengths_of" = true)
    (k_lof : PySem.W.keepIn K (.ref f_lof) = true)
    (a_cost : PySem.W.nsIn K mainGlobals "_law_cost" = some (some (.ref f_cost)))
    (l_cost : K.lookup f_cost = some ⟨oc_cost, od_cost, .func (PySem.W.fnOf "_law_cost" "_law_cost" (defArgs s_cost) (defBody s_cost) (defScope s_cost) .none kV_cost doc_cost pm_cost an_cost cd_cost ct_cost), sl_cost⟩)
    (c_cost : PySem.W.codeIn K cd_cost "_law_cost" = true)
    (k_cost : PySem.W.keepIn K (.ref f_cost) = true)
    (a_leastcost : PySem.W.nsIn K mainGlobals "_law_least_cost" = some (some (.ref f_leastcost)))
    (l_leastcost : K.lookup f_leastcost = some ⟨oc_leastcost, od_leastcost, .func (PySem.W.fnOf "_law_least_cost" "_law_least_cost" (defArgs s_leastcost) (defBody s_leastcost) (defScope s_leastcost) .none kV_leastcost doc_leastcost pm_leastcost an_leastcost cd_leastcost ct_leastcost), sl_leastcost⟩)
    (c_leastcost : PySem.W.codeIn K cd_leastcost "_law_least_cost" = true)
    (k_leastcost : PySem.W.keepIn K (.ref f_leastcost) = true)
    (a_llevels : PySem.W.nsIn K mainGlobals "_law_levels" = some (some (.ref f_llevels)))
    (l_llevels : K.lookup f_llevels = some ⟨oc_llevels, od_llevels, .func (PySem.W.fnOf "_law_levels" "_law_levels" (defArgs s_llevels) (defBody s_llevels) (defScope s_llevels) .none kV_llevels doc_llevels pm_llevels an_llevels cd_llevels ct_llevels), sl_llevels⟩)
    (c_llevels : PySem.W.codeIn K cd_llevels "_law_levels" = true)
    (k_llevels : PySem.W.keepIn K (.ref f_llevels) = true)
    (a_wrong : PySem.W.nsIn K mainGlobals "_law_wrong" = some (some (.ref f_wrong)))
    (l_wrong : K.lookup f_wrong = some ⟨oc_wrong, od_wrong, .func (PySem.W.fnOf "_law_wrong" "_law_wrong" (defArgs s_wrong) (defBody s_wrong) (defScope s_wrong) .none kV_wrong doc_wrong pm_wrong an_wrong cd_wrong ct_wrong), sl_wrong⟩)
    (c_wrong : PySem.W.codeIn K cd_wrong "_law_wrong" = true)
    (k_wrong : PySem.W.keepIn K (.ref f_wrong) = true)
    (a_wrongdue : PySem.W.nsIn K mainGlobals "_law_wrong_due" = some (some (.ref f_wrongdue)))
    (l_wrongdue : K.lookup f_wrongdue = some ⟨oc_wrongdue, od_wrongdue, .func (PySem.W.fnOf "_law_wrong_due" "_law_wrong_due" (defArgs s_wrongdue) (defBody s_wrongdue) (defScope s_wrongdue) .none kV_wrongdue doc_wrongdue pm_wrongdue an_wrongdue cd_wrongdue ct_wrongdue), sl_wrongdue⟩)
    (c_wrongdue : PySem.W.codeIn K cd_wrongdue "_law_wrong_due" = true)
    (k_wrongdue : PySem.W.keepIn K (.ref f_wrongdue) = true)
    (a_law : PySem.W.nsIn K mainGlobals "law" = some (some (.ref f_law)))
    (l_law : K.lookup f_law = some ⟨oc_law, od_law, .func (PySem.W.fnOf "law" "law" (defArgs s_law) (defBody s_law) (defScope s_law) .none kV_law doc_law pm_law an_law (.ref C_law) ct_law), sl_law⟩)
    (c_law : PySem.W.codeIn K (.ref C_law) "law" = true)
    (k_law : PySem.W.keepIn K (.ref f_law) = true)
    (e_law : K.lookup C_law = some ⟨e1_law, e2_law, .fields e3_law, e4_law⟩)
    (v_law : e3_law[11]? = some (.ref P_law))
    (r_law : ((recsOf q).find? fun r => r.name == ("law" : Str)).isSome = true)
    (n_law : K.lookup P_law = none)
    (aJ : PySem.W.nsIn K mainGlobals "JoinsError" = some (some (.ref cj)))
    (rJ : PySem.W.readsIn K cj (.type "type") = true)
    (sJ : PySem.W.specialIn K (.ref cj) "__getattribute__" = some (some (.builtin "type.__getattribute__")))
    (vJ : PySem.W.findCls K (.ref cj) (.type "type") "__init__" = some (.val (.builtin "ValueError.__init__")))
    (iJ : PySem.W.isClsIn K cj = true)
    (tJ : PySem.W.typeIn K (.ref cj) = some (.type "type"))
    (aC_TooMany : PySem.W.nsIn K mainGlobals "TooMany" = some (some (.ref C_TooMany)))
    (xL_TooMany : K.lookup C_TooMany = some (excClassObj nm_TooMany q_TooMany C_TooMany N_TooMany bs_TooMany [.ref cj, .type "ValueError", .type "Exception", .type "BaseException", .type "object"] true sn_TooMany sub_TooMany ab_TooMany col_TooMany dd_TooMany m0_TooMany m1_TooMany m2_TooMany m3_TooMany m5_TooMany "ValueError.__new__"))
    (iI_TooMany : PySem.W.findIn K (.ref C_TooMany) "__init__" = some (some (.ref I_TooMany)))
    (eB_TooMany : errB K C_TooMany I_TooMany ["what", "many", "most"] = true)
    (lI_TooMany : K.lookup I_TooMany = some ⟨oc_TooMany, od_TooMany, .func (PySem.W.fnOf "__init__" "TooMany.__init__" (defArgs s_TooMany) (defBody s_TooMany) (defScope s_TooMany) .none kV_TooMany doc_TooMany pm_TooMany an_TooMany cd_TooMany ct_TooMany), sl_TooMany⟩)
    (cI_TooMany : PySem.W.codeIn K cd_TooMany "TooMany.__init__" = true)
    (kI_TooMany : PySem.W.keepIn K (.ref I_TooMany) = true)
    (aC_BadCount : PySem.W.nsIn K mainGlobals "BadCount" = some (some (.ref C_BadCount)))
    (xL_BadCount : K.lookup C_BadCount = some (excClassObj nm_BadCount q_BadCount C_BadCount N_BadCount bs_BadCount [.ref cj, .type "ValueError", .type "Exception", .type "BaseException", .type "object"] true sn_BadCount sub_BadCount ab_BadCount col_BadCount dd_BadCount m0_BadCount m1_BadCount m2_BadCount m3_BadCount m5_BadCount "ValueError.__new__"))
    (iI_BadCount : PySem.W.findIn K (.ref C_BadCount) "__init__" = some (some (.ref I_BadCount)))
    (eB_BadCount : errB K C_BadCount I_BadCount ["index"] = true)
    (lI_BadCount : K.lookup I_BadCount = some ⟨oc_BadCount, od_BadCount, .func (PySem.W.fnOf "__init__" "BadCount.__init__" (defArgs s_BadCount) (defBody s_BadCount) (defScope s_BadCount) .none kV_BadCount doc_BadCount pm_BadCount an_BadCount cd_BadCount ct_BadCount), sl_BadCount⟩)
    (cI_BadCount : PySem.W.codeIn K cd_BadCount "BadCount.__init__" = true)
    (kI_BadCount : PySem.W.keepIn K (.ref I_BadCount) = true)
    (aC_BadLength : PySem.W.nsIn K mainGlobals "BadLength" = some (some (.ref C_BadLength)))
    (xL_BadLength : K.lookup C_BadLength = some (excClassObj nm_BadLength q_BadLength C_BadLength N_BadLength bs_BadLength [.ref cj, .type "ValueError", .type "Exception", .type "BaseException", .type "object"] true sn_BadLength sub_BadLength ab_BadLength col_BadLength dd_BadLength m0_BadLength m1_BadLength m2_BadLength m3_BadLength m5_BadLength "ValueError.__new__"))
    (iI_BadLength : PySem.W.findIn K (.ref C_BadLength) "__init__" = some (some (.ref I_BadLength)))
    (eB_BadLength : errB K C_BadLength I_BadLength ["index"] = true)
    (lI_BadLength : K.lookup I_BadLength = some ⟨oc_BadLength, od_BadLength, .func (PySem.W.fnOf "__init__" "BadLength.__init__" (defArgs s_BadLength) (defBody s_BadLength) (defScope s_BadLength) .none kV_BadLength doc_BadLength pm_BadLength an_BadLength cd_BadLength ct_BadLength), sl_BadLength⟩)
    (cI_BadLength : PySem.W.codeIn K cd_BadLength "BadLength.__init__" = true)
    (kI_BadLength : PySem.W.keepIn K (.ref I_BadLength) = true)
    (aC_NotFull : PySem.W.nsIn K mainGlobals "NotFull" = some (some (.ref C_NotFull)))
    (xL_NotFull : K.lookup C_NotFull = some (excClassObj nm_NotFull q_NotFull C_NotFull N_NotFull bs_NotFull [.ref cj, .type "ValueError", .type "Exception", .type "BaseException", .type "object"] true sn_NotFull sub_NotFull ab_NotFull col_NotFull dd_NotFull m0_NotFull m1_NotFull m2_NotFull m3_NotFull m5_NotFull "ValueError.__new__"))
    (iI_NotFull : PySem.W.findIn K (.ref C_NotFull) "__init__" = some (some (.ref I_NotFull)))
    (eB_NotFull : errB K C_NotFull I_NotFull [] = true)
    (lI_NotFull : K.lookup I_NotFull = some ⟨oc_NotFull, od_NotFull, .func (PySem.W.fnOf "__init__" "NotFull.__init__" (defArgs s_NotFull) (defBody s_NotFull) (defScope s_NotFull) .none kV_NotFull doc_NotFull pm_NotFull an_NotFull cd_NotFull ct_NotFull), sl_NotFull⟩)
    (cI_NotFull : PySem.W.codeIn K cd_NotFull "NotFull.__init__" = true)
    (kI_NotFull : PySem.W.keepIn K (.ref I_NotFull) = true)
    (aC_BadWord : PySem.W.nsIn K mainGlobals "BadWord" = some (some (.ref C_BadWord)))
    (xL_BadWord : K.lookup C_BadWord = some (excClassObj nm_BadWord q_BadWord C_BadWord N_BadWord bs_BadWord [.ref cj, .type "ValueError", .type "Exception", .type "BaseException", .type "object"] true sn_BadWord sub_BadWord ab_BadWord col_BadWord dd_BadWord m0_BadWord m1_BadWord m2_BadWord m3_BadWord m5_BadWord "ValueError.__new__"))
    (iI_BadWord : PySem.W.findIn K (.ref C_BadWord) "__init__" = some (some (.ref I_BadWord)))
    (eB_BadWord : errB K C_BadWord I_BadWord ["index"] = true)
    (lI_BadWord : K.lookup I_BadWord = some ⟨oc_BadWord, od_BadWord, .func (PySem.W.fnOf "__init__" "BadWord.__init__" (defArgs s_BadWord) (defBody s_BadWord) (defScope s_BadWord) .none kV_BadWord doc_BadWord pm_BadWord an_BadWord cd_BadWord ct_BadWord), sl_BadWord⟩)
    (cI_BadWord : PySem.W.codeIn K cd_BadWord "BadWord.__init__" = true)
    (kI_BadWord : PySem.W.keepIn K (.ref I_BadWord) = true)
    (aC_Begins : PySem.W.nsIn K mainGlobals "Begins" = some (some (.ref C_Begins)))
    (xL_Begins : K.lookup C_Begins = some (excClassObj nm_Begins q_Begins C_Begins N_Begins bs_Begins [.ref cj, .type "ValueError", .type "Exception", .type "BaseException", .type "object"] true sn_Begins sub_Begins ab_Begins col_Begins dd_Begins m0_Begins m1_Begins m2_Begins m3_Begins m5_Begins "ValueError.__new__"))
    (iI_Begins : PySem.W.findIn K (.ref C_Begins) "__init__" = some (some (.ref I_Begins)))
    (eB_Begins : errB K C_Begins I_Begins ["index", "other"] = true)
    (lI_Begins : K.lookup I_Begins = some ⟨oc_Begins, od_Begins, .func (PySem.W.fnOf "__init__" "Begins.__init__" (defArgs s_Begins) (defBody s_Begins) (defScope s_Begins) .none kV_Begins doc_Begins pm_Begins an_Begins cd_Begins ct_Begins), sl_Begins⟩)
    (cI_Begins : PySem.W.codeIn K cd_Begins "Begins.__init__" = true)
    (kI_Begins : PySem.W.keepIn K (.ref I_Begins) = true)
    (aC_OtherSize : PySem.W.nsIn K mainGlobals "OtherSize" = some (some (.ref C_OtherSize)))
    (xL_OtherSize : K.lookup C_OtherSize = some (excClassObj nm_OtherSize q_OtherSize C_OtherSize N_OtherSize bs_OtherSize [.ref cj, .type "ValueError", .type "Exception", .type "BaseException", .type "object"] true sn_OtherSize sub_OtherSize ab_OtherSize col_OtherSize dd_OtherSize m0_OtherSize m1_OtherSize m2_OtherSize m3_OtherSize m5_OtherSize "ValueError.__new__"))
    (iI_OtherSize : PySem.W.findIn K (.ref C_OtherSize) "__init__" = some (some (.ref I_OtherSize)))
    (eB_OtherSize : errB K C_OtherSize I_OtherSize ["many", "wanted"] = true)
    (lI_OtherSize : K.lookup I_OtherSize = some ⟨oc_OtherSize, od_OtherSize, .func (PySem.W.fnOf "__init__" "OtherSize.__init__" (defArgs s_OtherSize) (defBody s_OtherSize) (defScope s_OtherSize) .none kV_OtherSize doc_OtherSize pm_OtherSize an_OtherSize cd_OtherSize ct_OtherSize), sl_OtherSize⟩)
    (cI_OtherSize : PySem.W.codeIn K cd_OtherSize "OtherSize.__init__" = true)
    (kI_OtherSize : PySem.W.keepIn K (.ref I_OtherSize) = true)
    (aC_Code : PySem.W.nsIn K mainGlobals "Code" = some (some (.ref C_Code)))
    (iC_init : PySem.W.findIn K (.ref C_Code) "__init__" = some (some (.ref f_init)))
    (l_init : K.lookup f_init = some ⟨oc_init, od_init, .func (PySem.W.fnOf "__init__" "Code.__init__" (defArgs s_init) (defBody s_init) (defScope s_init) (.ref T_init) kV_init doc_init pm_init an_init cd_init ct_init), sl_init⟩)
    (c_init : PySem.W.codeIn K cd_init "Code.__init__" = true)
    (k_init : PySem.W.keepIn K (.ref f_init) = true)
    (lT_init : K.lookup T_init = some ⟨o1_init, o2_init, .seq #[.none] n_init, sl2_init⟩)
    (iC_eq : PySem.W.findIn K (.ref C_Code) "__eq__" = some (some (.ref f_eq)))
    (l_eq : K.lookup f_eq = some ⟨oc_eq, od_eq, .func (PySem.W.fnOf "__eq__" "Code.__eq__" (defArgs s_eq) (defBody s_eq) (defScope s_eq) .none kV_eq doc_eq pm_eq an_eq cd_eq ct_eq), sl_eq⟩)
    (c_eq : PySem.W.codeIn K cd_eq "Code.__eq__" = true)
    (k_eq : PySem.W.keepIn K (.ref f_eq) = true)
    (oB_Code : ocB K C_Code f_init ["lengths", "size", "longest", "words"] = true)
    (cB_Code : ceqB K C_Code f_eq = true)
    (aC_Least : PySem.W.nsIn K mainGlobals "Least" = some (some (.ref C_Least)))
    (iC_Least : PySem.W.findIn K (.ref C_Least) "__init__" = some (some (.ref f_Least)))
    (l_Least : K.lookup f_Least = some ⟨oc_Least, od_Least, .func (PySem.W.fnOf "__init__" "Least.__init__" (defArgs s_Least) (defBody s_Least) (defScope s_Least) .none kV_Least doc_Least pm_Least an_Least cd_Least ct_Least), sl_Least⟩)
    (c_Least : PySem.W.codeIn K cd_Least "Least.__init__" = true)
    (k_Least : PySem.W.keepIn K (.ref f_Least) = true)
    (oB_Least : ocB K C_Least f_Least ["code", "counts", "levels"] = true)
    (aC_Better : PySem.W.nsIn K mainGlobals "Better" = some (some (.ref C_Better)))
    (iC_Better : PySem.W.findIn K (.ref C_Better) "__init__" = some (some (.ref f_Better)))
    (l_Better : K.lookup f_Better = some ⟨oc_Better, od_Better, .func (PySem.W.fnOf "__init__" "Better.__init__" (defArgs s_Better) (defBody s_Better) (defScope s_Better) .none kV_Better doc_Better pm_Better an_Better cd_Better ct_Better), sl_Better⟩)
    (c_Better : PySem.W.codeIn K cd_Better "Better.__init__" = true)
    (k_Better : PySem.W.keepIn K (.ref f_Better) = true)
    (oB_Better : ocB K C_Better f_Better ["code", "counts", "light", "heavy", "other"] = true)
    (k_Code_Code : PySem.W.kitOne K (.ref C_Code) (.ref C_Code) = some true)
    (k_Code_Least : PySem.W.kitOne K (.ref C_Code) (.ref C_Least) = some false)
    (k_Code_Better : PySem.W.kitOne K (.ref C_Code) (.ref C_Better) = some false)
    (k_Least_Code : PySem.W.kitOne K (.ref C_Least) (.ref C_Code) = some false)
    (k_Least_Least : PySem.W.kitOne K (.ref C_Least) (.ref C_Least) = some true)
    (k_Least_Better : PySem.W.kitOne K (.ref C_Least) (.ref C_Better) = some false)
    (k_Better_Code : PySem.W.kitOne K (.ref C_Better) (.ref C_Code) = some false)
    (k_Better_Least : PySem.W.kitOne K (.ref C_Better) (.ref C_Least) = some false)
    (k_Better_Better : PySem.W.kitOne K (.ref C_Better) (.ref C_Better) = some true)
    (hj_TooMany : C_TooMany ≠ cj)
    (hn_TooMany_BadCount : C_TooMany ≠ C_BadCount)
    (hn_TooMany_BadLength : C_TooMany ≠ C_BadLength)
    (hn_TooMany_NotFull : C_TooMany ≠ C_NotFull)
    (hn_TooMany_BadWord : C_TooMany ≠ C_BadWord)
    (hn_TooMany_Begins : C_TooMany ≠ C_Begins)
    (hn_TooMany_OtherSize : C_TooMany ≠ C_OtherSize)
    (hj_BadCount : C_BadCount ≠ cj)
    (hn_BadCount_BadLength : C_BadCount ≠ C_BadLength)
    (hn_BadCount_NotFull : C_BadCount ≠ C_NotFull)
    (hn_BadCount_BadWord : C_BadCount ≠ C_BadWord)
    (hn_BadCount_Begins : C_BadCount ≠ C_Begins)
    (hn_BadCount_OtherSize : C_BadCount ≠ C_OtherSize)
    (hj_BadLength : C_BadLength ≠ cj)
    (hn_BadLength_NotFull : C_BadLength ≠ C_NotFull)
    (hn_BadLength_BadWord : C_BadLength ≠ C_BadWord)
    (hn_BadLength_Begins : C_BadLength ≠ C_Begins)
    (hn_BadLength_OtherSize : C_BadLength ≠ C_OtherSize)
    (hj_NotFull : C_NotFull ≠ cj)
    (hn_NotFull_BadWord : C_NotFull ≠ C_BadWord)
    (hn_NotFull_Begins : C_NotFull ≠ C_Begins)
    (hn_NotFull_OtherSize : C_NotFull ≠ C_OtherSize)
    (hj_BadWord : C_BadWord ≠ cj)
    (hn_BadWord_Begins : C_BadWord ≠ C_Begins)
    (hn_BadWord_OtherSize : C_BadWord ≠ C_OtherSize)
    (hj_Begins : C_Begins ≠ cj)
    (hn_Begins_OtherSize : C_Begins ≠ C_OtherSize)
    (hj_OtherSize : C_OtherSize ≠ cj)
    (q_FEWEST_SIGNS : PySem.W.nsIn K mainGlobals "FEWEST_SIGNS" = some (some (.int (2) tk_FEWEST_SIGNS)))
    (q_MOST_SIGNS : PySem.W.nsIn K mainGlobals "MOST_SIGNS" = some (some (.int (26) tk_MOST_SIGNS)))
    (q_LONGEST_WORD : PySem.W.nsIn K mainGlobals "LONGEST_WORD" = some (some (.int (25) tk_LONGEST_WORD)))
    (z_ValueError : PySem.W.nsIn K mainGlobals "ValueError" = some none)
    (z_abs : PySem.W.nsIn K mainGlobals "abs" = some none)
    (z_bool : PySem.W.nsIn K mainGlobals "bool" = some none)
    (z_dict : PySem.W.nsIn K mainGlobals "dict" = some none)
    (z_enumerate : PySem.W.nsIn K mainGlobals "enumerate" = some none)
    (z_int : PySem.W.nsIn K mainGlobals "int" = some none)
    (z_isinstance : PySem.W.nsIn K mainGlobals "isinstance" = some none)
    (z_len : PySem.W.nsIn K mainGlobals "len" = some none)
    (z_list : PySem.W.nsIn K mainGlobals "list" = some none)
    (z_max : PySem.W.nsIn K mainGlobals "max" = some none)
    (z_range : PySem.W.nsIn K mainGlobals "range" = some none)
    (z_repr : PySem.W.nsIn K mainGlobals "repr" = some none)
    (z_reversed : PySem.W.nsIn K mainGlobals "reversed" = some none)
    (z_sorted : PySem.W.nsIn K mainGlobals "sorted" = some none)
    (z_str : PySem.W.nsIn K mainGlobals "str" = some none)
    (z_sum : PySem.W.nsIn K mainGlobals "sum" = some none)
    (z_tuple : PySem.W.nsIn K mainGlobals "tuple" = some none)
    (z_zip : PySem.W.nsIn K mainGlobals "zip" = some none) :
    LawQ l w K 13 63 "_law_script" mg fa h := by
  have e := hfa.symm.trans (PySem.W.mg_of X G a_law)
  cases e
  have FD_signsbylength : FunD K "signs_by_length" "signs_by_length" (defArgs s_signsbylength) (defBody s_signsbylength) (defScope s_signsbylength) [.non] [] f_signsbylength (PySem.W.fnOf "signs_by_length" "signs_by_length" (defArgs s_signsbylength) (defBody s_signsbylength) (defScope s_signsbylength) (.ref T_signsbylength) kV_signsbylength doc_signsbylength pm_signsbylength an_signsbylength cd_signsbylength ct_signsbylength) :=
    ⟨⟨_, _, _, _, _, _, _, _, _, _, rfl, l_signsbylength, c_signsbylength, .inr ⟨by simp, T_signsbylength, _, [.none], n_signsbylength, rfl, lT_signsbylength, rfl, .cons rfl .nil⟩, .inl rfl⟩, k_signsbylength⟩
  have B1_signsbylength : ∃ ds, Vals [V.non] ds ∧ Binds K (PySem.W.fnOf "signs_by_length" "signs_by_length" (defArgs s_signsbylength) (defBody s_signsbylength) (defScope s_signsbylength) (.ref T_signsbylength) kV_signsbylength doc_signsbylength pm_signsbylength an_signsbylength cd_signsbylength ct_signsbylength) ["code", "left_out"] ds :=
    FD_signsbylength.binds1 1 0 (by simp) rfl fun T kV doc pm an cdv ct us its h1 h2 => match us, its, h1, h2 with | [_], [_], _, _ => ⟨_, rfl, rfl⟩
  have B2_signsbylength : Binds K (PySem.W.fnOf "signs_by_length" "signs_by_length" (defArgs s_signsbylength) (defBody s_signsbylength) (defScope s_signsbylength) (.ref T_signsbylength) kV_signsbylength doc_signsbylength pm_signsbylength an_signsbylength cd_signsbylength ct_signsbylength) ["code", "left_out"] [] := by
    obtain ⟨ds, r, b⟩ := FD_signsbylength.binds1 (ps := ["code", "left_out"]) 2 1 (by simp) rfl fun T kV doc pm an cdv ct us its h1 h2 => match us, its, h1, h2 with | [_, _], [_], _, _ => ⟨_, rfl, rfl⟩
    cases r
    exact b
  have FD_signgroups : FunD K "sign_groups" "sign_groups" (defArgs s_signgroups) (defBody s_signgroups) (defScope s_signgroups) [.non] [] f_signgroups (PySem.W.fnOf "sign_groups" "sign_groups" (defArgs s_signgroups) (defBody s_signgroups) (defScope s_signgroups) (.ref T_signgroups) kV_signgroups doc_signgroups pm_signgroups an_signgroups cd_signgroups ct_signgroups) :=
    ⟨⟨_, _, _, _, _, _, _, _, _, _, rfl, l_signgroups, c_signgroups, .inr ⟨by simp, T_signgroups, _, [.none], n_signgroups, rfl, lT_signgroups, rfl, .cons rfl .nil⟩, .inl rfl⟩, k_signgroups⟩
  have B1_signgroups : ∃ ds, Vals [V.non] ds ∧ Binds K (PySem.W.fnOf "sign_groups" "sign_groups" (defArgs s_signgroups) (defBody s_signgroups) (defScope s_signgroups) (.ref T_signgroups) kV_signgroups doc_signgroups pm_signgroups an_signgroups cd_signgroups ct_signgroups) ["code", "weights", "left_out"] ds :=
    FD_signgroups.binds1 2 0 (by simp) rfl fun T kV doc pm an cdv ct us its h1 h2 => match us, its, h1, h2 with | [_, _], [_], _, _ => ⟨_, rfl, rfl⟩
  have B2_signgroups : Binds K (PySem.W.fnOf "sign_groups" "sign_groups" (defArgs s_signgroups) (defBody s_signgroups) (defScope s_signgroups) (.ref T_signgroups) kV_signgroups doc_signgroups pm_signgroups an_signgroups cd_signgroups ct_signgroups) ["code", "weights", "left_out"] [] := by
    obtain ⟨ds, r, b⟩ := FD_signgroups.binds1 (ps := ["code", "weights", "left_out"]) 3 1 (by simp) rfl fun T kV doc pm an cdv ct us its h1 h2 => match us, its, h1, h2 with | [_, _, _], [_], _, _ => ⟨_, rfl, rfl⟩
    cases r
    exact b
  have t_law : PySem.W.tabIn K "law" = some (C_law, P_law) := tab_mk a_law l_law rfl e_law v_law
  have FD_init : FunD K "__init__" "Code.__init__" (defArgs s_init) (defBody s_init) (defScope s_init) [.non] [] f_init (PySem.W.fnOf "__init__" "Code.__init__" (defArgs s_init) (defBody s_init) (defScope s_init) (.ref T_init) kV_init doc_init pm_init an_init cd_init ct_init) :=
    ⟨⟨_, _, _, _, _, _, _, _, _, _, rfl, l_init, c_init, .inr ⟨by simp, T_init, _, [.none], n_init, rfl, lT_init, rfl, .cons rfl .nil⟩, .inl rfl⟩, k_init⟩
  have B1_init : ∃ ds, Vals [V.non] ds ∧ Binds K (PySem.W.fnOf "__init__" "Code.__init__" (defArgs s_init) (defBody s_init) (defScope s_init) (.ref T_init) kV_init doc_init pm_init an_init cd_init ct_init) ["self", "lengths", "words"] ds :=
    FD_init.binds1 2 0 (by simp) rfl fun T kV doc pm an cdv ct us its h1 h2 => match us, its, h1, h2 with | [_, _], [_], _, _ => ⟨_, rfl, rfl⟩
  have B2_init : Binds K (PySem.W.fnOf "__init__" "Code.__init__" (defArgs s_init) (defBody s_init) (defScope s_init) (.ref T_init) kV_init doc_init pm_init an_init cd_init ct_init) ["self", "lengths", "words"] [] := by
    obtain ⟨ds, r, b⟩ := FD_init.binds1 (ps := ["self", "lengths", "words"]) 3 1 (by simp) rfl fun T kV doc pm an cdv ct us its h1 h2 => match us, its, h1, h2 with | [_, _, _], [_], _, _ => ⟨_, rfl, rfl⟩
    cases r
    exact b
  have OC := oc_mk oB_Code
  have CQ := ceq_mk cB_Code k_Code_Code
  have T : Txt K mg { cj := cj, a_signsbylength := f_signsbylength, d_signsbylength := PySem.W.fnOf "signs_by_length" "signs_by_length" (defArgs s_signsbylength) (defBody s_signsbylength) (defScope s_signsbylength) (.ref T_signsbylength) kV_signsbylength doc_signsbylength pm_signsbylength an_signsbylength cd_signsbylength ct_signsbylength, a_signgroups := f_signgroups, d_signgroups := PySem.W.fnOf "sign_groups" "sign_groups" (defArgs s_signgroups) (defBody s_signgroups) (defScope s_signgroups) (.ref T_signgroups) kV_signgroups doc_signgroups pm_signgroups an_signgroups cd_signgroups ct_signgroups, a_isint := f_isint, d_isint := PySem.W.fnOf "is_int" "is_int" (defArgs s_isint) (defBody s_isint) (defScope s_isint) .none kV_isint doc_isint pm_isint an_isint cd_isint ct_isint, a_kept := f_kept, d_kept := PySem.W.fnOf "kept" "kept" (defArgs s_kept) (defBody s_kept) (defScope s_kept) .none kV_kept doc_kept pm_kept an_kept cd_kept ct_kept, a_frozen := f_frozen, d_frozen := PySem.W.fnOf "frozen" "frozen" (defArgs s_frozen) (defBody s_frozen) (defScope s_frozen) .none kV_frozen doc_frozen pm_frozen an_frozen cd_frozen ct_frozen, a_checkmany := f_checkmany, d_checkmany := PySem.W.fnOf "check_many" "check_many" (defArgs s_checkmany) (defBody s_checkmany) (defScope s_checkmany) .none kV_checkmany doc_checkmany pm_checkmany an_checkmany cd_checkmany ct_checkmany, a_checkcounts := f_checkcounts, d_checkcounts := PySem.W.fnOf "check_counts" "check_counts" (defArgs s_checkcounts) (defBody s_checkcounts) (defScope s_checkcounts) .none kV_checkcounts doc_checkcounts pm_checkcounts an_checkcounts cd_checkcounts ct_checkcounts, a_checkcountsof := f_checkcountsof, d_checkcountsof := PySem.W.fnOf "check_counts_of" "check_counts_of" (defArgs s_checkcountsof) (defBody s_checkcountsof) (defScope s_checkcountsof) .none kV_checkcountsof doc_checkcountsof pm_checkcountsof an_checkcountsof cd_checkcountsof ct_checkcountsof, a_lens := f_lens, d_lens := PySem.W.fnOf "check_lengths" "check_lengths" (defArgs s_lens) (defBody s_lens) (defScope s_lens) .none kV_lens doc_lens pm_lens an_lens cd_lens ct_lens, a_isword := f_isword, d_isword := PySem.W.fnOf "is_word" "is_word" (defArgs s_isword) (defBody s_isword) (defScope s_isword) .none kV_isword doc_isword pm_isword an_isword cd_isword ct_isword, a_cwords := f_cwords, d_cwords := PySem.W.fnOf "check_words" "check_words" (defArgs s_cwords) (defBody s_cwords) (defScope s_cwords) .none kV_cwords doc_cwords pm_cwords an_cwords cd_cwords ct_cwords, a_canon := f_canon, d_canon := PySem.W.fnOf "canonical_words" "canonical_words" (defArgs s_canon) (defBody s_canon) (defScope s_canon) .none kV_canon doc_canon pm_canon an_canon cd_canon ct_canon, a_paired := f_paired, d_paired := PySem.W.fnOf "paired" "paired" (defArgs s_paired) (defBody s_paired) (defScope s_paired) .none kV_paired doc_paired pm_paired an_paired cd_paired ct_paired, a_packed := f_packed, d_packed := PySem.W.fnOf "packed" "packed" (defArgs s_packed) (defBody s_packed) (defScope s_packed) .none kV_packed doc_packed pm_packed an_packed cd_packed ct_packed, a_levels := f_levels, d_levels := PySem.W.fnOf "levels" "levels" (defArgs s_levels) (defBody s_levels) (defScope s_levels) .none kV_levels doc_levels pm_levels an_levels cd_levels ct_levels, a_lighterabove := f_lighterabove, d_lighterabove := PySem.W.fnOf "lighter_above" "lighter_above" (defArgs s_lighterabove) (defBody s_lighterabove) (defScope s_lighterabove) .none kV_lighterabove doc_lighterabove pm_lighterabove an_lighterabove cd_lighterabove ct_lighterabove, a_beyond := f_beyond, d_beyond := PySem.W.fnOf "beyond" "beyond" (defArgs s_beyond) (defBody s_beyond) (defScope s_beyond) .none kV_beyond doc_beyond pm_beyond an_beyond cd_beyond ct_beyond, a_judge := f_judge, d_judge := PySem.W.fnOf "judge" "judge" (defArgs s_judge) (defBody s_judge) (defScope s_judge) .none kV_judge doc_judge pm_judge an_judge cd_judge ct_judge, a_penof := f_penof, d_penof := PySem.W.fnOf "_law_pen_of" "_law_pen_of" (defArgs s_penof) (defBody s_penof) (defScope s_penof) .none kV_penof doc_penof pm_penof an_penof cd_penof ct_penof, a_draw := f_draw, d_draw := PySem.W.fnOf "_law_draw" "_law_draw" (defArgs s_draw) (defBody s_draw) (defScope s_draw) .none kV_draw doc_draw pm_draw an_draw cd_draw ct_draw, a_pick := f_pick, d_pick := PySem.W.fnOf "_law_pick" "_law_pick" (defArgs s_pick) (defBody s_pick) (defScope s_pick) .none kV_pick doc_pick pm_pick an_pick cd_pick ct_pick, a_countsof := f_countsof, d_countsof := PySem.W.fnOf "_law_counts_of" "_law_counts_of" (defArgs s_countsof) (defBody s_countsof) (defScope s_countsof) .none kV_countsof doc_countsof pm_countsof an_countsof cd_countsof ct_countsof, a_lof := f_lof, d_lof := PySem.W.fnOf "_law_lengths_of" "_law_lengths_of" (defArgs s_lof) (defBody s_lof) (defScope s_lof) .none kV_lof doc_lof pm_lof an_lof cd_lof ct_lof, a_cost := f_cost, d_cost := PySem.W.fnOf "_law_cost" "_law_cost" (defArgs s_cost) (defBody s_cost) (defScope s_cost) .none kV_cost doc_cost pm_cost an_cost cd_cost ct_cost, a_leastcost := f_leastcost, d_leastcost := PySem.W.fnOf "_law_least_cost" "_law_least_cost" (defArgs s_leastcost) (defBody s_leastcost) (defScope s_leastcost) .none kV_leastcost doc_leastcost pm_leastcost an_leastcost cd_leastcost ct_leastcost, a_llevels := f_llevels, d_llevels := PySem.W.fnOf "_law_levels" "_law_levels" (defArgs s_llevels) (defBody s_llevels) (defScope s_llevels) .none kV_llevels doc_llevels pm_llevels an_llevels cd_llevels ct_llevels, a_wrong := f_wrong, d_wrong := PySem.W.fnOf "_law_wrong" "_law_wrong" (defArgs s_wrong) (defBody s_wrong) (defScope s_wrong) .none kV_wrong doc_wrong pm_wrong an_wrong cd_wrong ct_wrong, a_wrongdue := f_wrongdue, d_wrongdue := PySem.W.fnOf "_law_wrong_due" "_law_wrong_due" (defArgs s_wrongdue) (defBody s_wrongdue) (defScope s_wrongdue) .none kV_wrongdue doc_wrongdue pm_wrongdue an_wrongdue cd_wrongdue ct_wrongdue, a_law := fa, d_law := PySem.W.fnOf "law" "law" (defArgs s_law) (defBody s_law) (defScope s_law) .none kV_law doc_law pm_law an_law (.ref C_law) ct_law, k_law := C_law, p_law := P_law, c_TooMany := C_TooMany, i_TooMany := I_TooMany, d_TooMany := PySem.W.fnOf "__init__" "TooMany.__init__" (defArgs s_TooMany) (defBody s_TooMany) (defScope s_TooMany) .none kV_TooMany doc_TooMany pm_TooMany an_TooMany cd_TooMany ct_TooMany, c_BadCount := C_BadCount, i_BadCount := I_BadCount, d_BadCount := PySem.W.fnOf "__init__" "BadCount.__init__" (defArgs s_BadCount) (defBody s_BadCount) (defScope s_BadCount) .none kV_BadCount doc_BadCount pm_BadCount an_BadCount cd_BadCount ct_BadCount, c_BadLength := C_BadLength, i_BadLength := I_BadLength, d_BadLength := PySem.W.fnOf "__init__" "BadLength.__init__" (defArgs s_BadLength) (defBody s_BadLength) (defScope s_BadLength) .none kV_BadLength doc_BadLength pm_BadLength an_BadLength cd_BadLength ct_BadLength, c_NotFull := C_NotFull, i_NotFull := I_NotFull, d_NotFull := PySem.W.fnOf "__init__" "NotFull.__init__" (defArgs s_NotFull) (defBody s_NotFull) (defScope s_NotFull) .none kV_NotFull doc_NotFull pm_NotFull an_NotFull cd_NotFull ct_NotFull, c_BadWord := C_BadWord, i_BadWord := I_BadWord, d_BadWord := PySem.W.fnOf "__init__" "BadWord.__init__" (defArgs s_BadWord) (defBody s_BadWord) (defScope s_BadWord) .none kV_BadWord doc_BadWord pm_BadWord an_BadWord cd_BadWord ct_BadWord, c_Begins := C_Begins, i_Begins := I_Begins, d_Begins := PySem.W.fnOf "__init__" "Begins.__init__" (defArgs s_Begins) (defBody s_Begins) (defScope s_Begins) .none kV_Begins doc_Begins pm_Begins an_Begins cd_Begins ct_Begins, c_OtherSize := C_OtherSize, i_OtherSize := I_OtherSize, d_OtherSize := PySem.W.fnOf "__init__" "OtherSize.__init__" (defArgs s_OtherSize) (defBody s_OtherSize) (defScope s_OtherSize) .none kV_OtherSize doc_OtherSize pm_OtherSize an_OtherSize cd_OtherSize ct_OtherSize, c_Code := C_Code, a_init := f_init, d_init := PySem.W.fnOf "__init__" "Code.__init__" (defArgs s_init) (defBody s_init) (defScope s_init) (.ref T_init) kV_init doc_init pm_init an_init cd_init ct_init, a_eq := f_eq, d_eq := PySem.W.fnOf "__eq__" "Code.__eq__" (defArgs s_eq) (defBody s_eq) (defScope s_eq) .none kV_eq doc_eq pm_eq an_eq cd_eq ct_eq, c_Least := C_Least, a_Least := f_Least, d_Least := PySem.W.fnOf "__init__" "Least.__init__" (defArgs s_Least) (defBody s_Least) (defScope s_Least) .none kV_Least doc_Least pm_Least an_Least cd_Least ct_Least, c_Better := C_Better, a_Better := f_Better, d_Better := PySem.W.fnOf "__init__" "Better.__init__" (defArgs s_Better) (defBody s_Better) (defScope s_Better) .none kV_Better doc_Better pm_Better an_Better cd_Better ct_Better } := { g_signsbylength := (PySem.W.mg_of X G a_signsbylength), F_signsbylength := (FD_signsbylength), b1_signsbylength := (B1_signsbylength), b_signsbylength := (B2_signsbylength), g_signgroups := (PySem.W.mg_of X G a_signgroups), F_signgroups := (FD_signgroups), b1_signgroups := (B1_signgroups), b_signgroups := (B2_signgroups), F_isint := (fun_mk l_isint c_isint k_isint), g_isint := (PySem.W.mg_of X G a_isint), b_isint := ((fun_mk (st := s_isint) l_isint c_isint k_isint).binds fun _ _ _ _ _ _ us hl => match us, hl with | [_], _ => rfl), F_kept := (fun_mk l_kept c_kept k_kept), g_kept := (PySem.W.mg_of X G a_kept), b_kept := ((fun_mk (st := s_kept) l_kept c_kept k_kept).binds fun _ _ _ _ _ _ us hl => match us, hl with | [_], _ => rfl), F_frozen := (fun_mk l_frozen c_frozen k_frozen), g_frozen := (PySem.W.mg_of X G a_frozen), b_frozen := ((fun_mk (st := s_frozen) l_frozen c_frozen k_frozen).binds fun _ _ _ _ _ _ us hl => match us, hl with | [_], _ => rfl), F_checkmany := (fun_mk l_checkmany c_checkmany k_checkmany), g_checkmany := (PySem.W.mg_of X G a_checkmany), b_checkmany := ((fun_mk (st := s_checkmany) l_checkmany c_checkmany k_checkmany).binds fun _ _ _ _ _ _ us hl => match us, hl with | [_], _ => rfl), F_checkcounts := (fun_mk l_checkcounts c_checkcounts k_checkcounts), g_checkcounts := (PySem.W.mg_of X G a_checkcounts), b_checkcounts := ((fun_mk (st := s_checkcounts) l_checkcounts c_checkcounts k_checkcounts).binds fun _ _ _ _ _ _ us hl => match us, hl with | [_], _ => rfl), F_checkcountsof := (fun_mk l_checkcountsof c_checkcountsof k_checkcountsof), g_checkcountsof := (PySem.W.mg_of X G a_checkcountsof), b_checkcountsof := ((fun_mk (st := s_checkcountsof) l_checkcountsof c_checkcountsof k_checkcountsof).binds fun _ _ _ _ _ _ us hl => match us, hl with | [_, _], _ => rfl), F_lens := (fun_mk l_lens c_lens k_lens), g_lens := (PySem.W.mg_of X G a_lens), b_lens := ((fun_mk (st := s_lens) l_lens c_lens k_lens).binds fun _ _ _ _ _ _ us hl => match us, hl with | [_], _ => rfl), F_isword := (fun_mk l_isword c_isword k_isword), g_isword := (PySem.W.mg_of X G a_isword), b_isword := ((fun_mk (st := s_isword) l_isword c_isword k_isword).binds fun _ _ _ _ _ _ us hl => match us, hl with | [_, _], _ => rfl), F_cwords := (fun_mk l_cwords c_cwords k_cwords), g_cwords := (PySem.W.mg_of X G a_cwords), b_cwords := ((fun_mk (st := s_cwords) l_cwords c_cwords k_cwords).binds fun _ _ _ _ _ _ us hl => match us, hl with | [_, _], _ => rfl), F_canon := (fun_mk l_canon c_canon k_canon), g_canon := (PySem.W.mg_of X G a_canon), b_canon := ((fun_mk (st := s_canon) l_canon c_canon k_canon).binds fun _ _ _ _ _ _ us hl => match us, hl with | [_], _ => rfl), F_paired := (fun_mk l_paired c_paired k_paired), g_paired := (PySem.W.mg_of X G a_paired), b_paired := ((fun_mk (st := s_paired) l_paired c_paired k_paired).binds fun _ _ _ _ _ _ us hl => match us, hl with | [_], _ => rfl), F_packed := (fun_mk l_packed c_packed k_packed), g_packed := (PySem.W.mg_of X G a_packed), b_packed := ((fun_mk (st := s_packed) l_packed c_packed k_packed).binds fun _ _ _ _ _ _ us hl => match us, hl with | [_], _ => rfl), F_levels := (fun_mk l_levels c_levels k_levels), g_levels := (PySem.W.mg_of X G a_levels), b_levels := ((fun_mk (st := s_levels) l_levels c_levels k_levels).binds fun _ _ _ _ _ _ us hl => match us, hl with | [_, _], _ => rfl), F_lighterabove := (fun_mk l_lighterabove c_lighterabove k_lighterabove), g_lighterabove := (PySem.W.mg_of X G a_lighterabove), b_lighterabove := ((fun_mk (st := s_lighterabove) l_lighterabove c_lighterabove k_lighterabove).binds fun _ _ _ _ _ _ us hl => match us, hl with | [_], _ => rfl), F_beyond := (fun_mk l_beyond c_beyond k_beyond), g_beyond := (PySem.W.mg_of X G a_beyond), b_beyond := ((fun_mk (st := s_beyond) l_beyond c_beyond k_beyond).binds fun _ _ _ _ _ _ us hl => match us, hl with | [_, _, _], _ => rfl), F_judge := (fun_mk l_judge c_judge k_judge), g_judge := (PySem.W.mg_of X G a_judge), b_judge := ((fun_mk (st := s_judge) l_judge c_judge k_judge).binds fun _ _ _ _ _ _ us hl => match us, hl with | [_, _], _ => rfl), F_penof := (fun_mk l_penof c_penof k_penof), g_penof := (PySem.W.mg_of X G a_penof), b_penof := ((fun_mk (st := s_penof) l_penof c_penof k_penof).binds fun _ _ _ _ _ _ us hl => match us, hl with | [_], _ => rfl), F_draw := (fun_mk l_draw c_draw k_draw), g_draw := (PySem.W.mg_of X G a_draw), b_draw := ((fun_mk (st := s_draw) l_draw c_draw k_draw).binds fun _ _ _ _ _ _ us hl => match us, hl with | [_, _], _ => rfl), F_pick := (fun_mk l_pick c_pick k_pick), g_pick := (PySem.W.mg_of X G a_pick), b_pick := ((fun_mk (st := s_pick) l_pick c_pick k_pick).binds fun _ _ _ _ _ _ us hl => match us, hl with | [_, _], _ => rfl), F_countsof := (fun_mk l_countsof c_countsof k_countsof), g_countsof := (PySem.W.mg_of X G a_countsof), b_countsof := ((fun_mk (st := s_countsof) l_countsof c_countsof k_countsof).binds fun _ _ _ _ _ _ us hl => match us, hl with | [_, _], _ => rfl), F_lof := (fun_mk l_lof c_lof k_lof), g_lof := (PySem.W.mg_of X G a_lof), b_lof := ((fun_mk (st := s_lof) l_lof c_lof k_lof).binds fun _ _ _ _ _ _ us hl => match us, hl with | [_, _], _ => rfl), F_cost := (fun_mk l_cost c_cost k_cost), g_cost := (PySem.W.mg_of X G a_cost), b_cost := ((fun_mk (st := s_cost) l_cost c_cost k_cost).binds fun _ _ _ _ _ _ us hl => match us, hl with | [_, _], _ => rfl), F_leastcost := (fun_mk l_leastcost c_leastcost k_leastcost), g_leastcost := (PySem.W.mg_of X G a_leastcost), b_leastcost := ((fun_mk (st := s_leastcost) l_leastcost c_leastcost k_leastcost).binds fun _ _ _ _ _ _ us hl => match us, hl with | [_], _ => rfl), F_llevels := (fun_mk l_llevels c_llevels k_llevels), g_llevels := (PySem.W.mg_of X G a_llevels), b_llevels := ((fun_mk (st := s_llevels) l_llevels c_llevels k_llevels).binds fun _ _ _ _ _ _ us hl => match us, hl with | [_, _], _ => rfl), F_wrong := (fun_mk l_wrong c_wrong k_wrong), g_wrong := (PySem.W.mg_of X G a_wrong), b_wrong := ((fun_mk (st := s_wrong) l_wrong c_wrong k_wrong).binds fun _ _ _ _ _ _ us hl => match us, hl with | [_], _ => rfl), F_wrongdue := (fun_mk l_wrongdue c_wrongdue k_wrongdue), g_wrongdue := (PySem.W.mg_of X G a_wrongdue), b_wrongdue := ((fun_mk (st := s_wrongdue) l_wrongdue c_wrongdue k_wrongdue).binds fun _ _ _ _ _ _ us hl => match us, hl with | [_, _], _ => rfl), F_law := (func_mk l_law c_law k_law), g_law := (PySem.W.mg_of X G a_law), b_law := ((func_mk (st := s_law) l_law c_law k_law).fn.binds fun _ _ _ _ _ _ us hl => match us, hl with | [_], _ => rfl), E_TooMany := (ec_mk X G aC_TooMany xL_TooMany eB_TooMany lI_TooMany cI_TooMany kI_TooMany ⟨fun s us ws _ h1 h2 => match us, ws, h1, h2 with | [_, _, _, _], [], _, _ => .of_eq rfl, fun r _ => r⟩ ((fun_mk (st := s_TooMany) lI_TooMany cI_TooMany kI_TooMany).binds fun _ _ _ _ _ _ us hl => match us, hl with | [_, _, _, _], _ => rfl)), E_BadCount := (ec_mk X G aC_BadCount xL_BadCount eB_BadCount lI_BadCount cI_BadCount kI_BadCount ⟨fun s us ws _ h1 h2 => match us, ws, h1, h2 with | [_, _], [], _, _ => .of_eq rfl, fun r _ => r⟩ ((fun_mk (st := s_BadCount) lI_BadCount cI_BadCount kI_BadCount).binds fun _ _ _ _ _ _ us hl => match us, hl with | [_, _], _ => rfl)), E_BadLength := (ec_mk X G aC_BadLength xL_BadLength eB_BadLength lI_BadLength cI_BadLength kI_BadLength ⟨fun s us ws _ h1 h2 => match us, ws, h1, h2 with | [_, _], [], _, _ => .of_eq rfl, fun r _ => r⟩ ((fun_mk (st := s_BadLength) lI_BadLength cI_BadLength kI_BadLength).binds fun _ _ _ _ _ _ us hl => match us, hl with | [_, _], _ => rfl)), E_NotFull := (ec_mk X G aC_NotFull xL_NotFull eB_NotFull lI_NotFull cI_NotFull kI_NotFull ⟨fun s us ws _ h1 h2 => match us, ws, h1, h2 with | [_], [], _, _ => .of_eq rfl, fun r _ => r⟩ ((fun_mk (st := s_NotFull) lI_NotFull cI_NotFull kI_NotFull).binds fun _ _ _ _ _ _ us hl => match us, hl with | [_], _ => rfl)), E_BadWord := (ec_mk X G aC_BadWord xL_BadWord eB_BadWord lI_BadWord cI_BadWord kI_BadWord ⟨fun s us ws _ h1 h2 => match us, ws, h1, h2 with | [_, _], [], _, _ => .of_eq rfl, fun r _ => r⟩ ((fun_mk (st := s_BadWord) lI_BadWord cI_BadWord kI_BadWord).binds fun _ _ _ _ _ _ us hl => match us, hl with | [_, _], _ => rfl)), E_Begins := (ec_mk X G aC_Begins xL_Begins eB_Begins lI_Begins cI_Begins kI_Begins ⟨fun s us ws _ h1 h2 => match us, ws, h1, h2 with | [_, _, _], [], _, _ => .of_eq rfl, fun r _ => r⟩ ((fun_mk (st := s_Begins) lI_Begins cI_Begins kI_Begins).binds fun _ _ _ _ _ _ us hl => match us, hl with | [_, _, _], _ => rfl)), E_OtherSize := (ec_mk X G aC_OtherSize xL_OtherSize eB_OtherSize lI_OtherSize cI_OtherSize kI_OtherSize ⟨fun s us ws _ h1 h2 => match us, ws, h1, h2 with | [_, _, _], [], _, _ => .of_eq rfl, fun r _ => r⟩ ((fun_mk (st := s_OtherSize) lI_OtherSize cI_OtherSize kI_OtherSize).binds fun _ _ _ _ _ _ us hl => match us, hl with | [_, _, _], _ => rfl)), B := (⟨rJ, sJ, vJ⟩), gj := (PySem.W.mg_of X G aJ), cj := (iJ), tj := (tJ), g_Code := (PySem.W.mg_of X G aC_Code), F_init := (FD_init), b_init1 := (B1_init), b_init2 := (B2_init), F_eq := (fun_mk l_eq c_eq k_eq), b_eq := ((fun_mk (st := s_eq) l_eq c_eq k_eq).binds fun _ _ _ _ _ _ us hl => match us, hl with | [_, _], _ => rfl), O_Code := (oc_mk oB_Code), Co := ({ M := OC.M, cl := OC.I.cl, n_lengths := OC.no _ (by simp), n_words := OC.no _ (by simp), n_size := OC.no _ (by simp), n_longest := OC.no _ (by simp) }), Ico := ({ cl := OC.I.cl, ha := OC.I.ha, hn := OC.I.hn, ht := OC.I.ht, hm := OC.I.hm, ki := OC.ki, ks := OC.ks }), Ceq := (CQ), g_Least := (PySem.W.mg_of X G aC_Least), F_Least := (fun_mk l_Least c_Least k_Least), b_Least := ((fun_mk (st := s_Least) l_Least c_Least k_Least).binds fun _ _ _ _ _ _ us hl => match us, hl with | [_, _, _, _], _ => rfl), O_Least := (oc_mk oB_Least), g_Better := (PySem.W.mg_of X G aC_Better), F_Better := (fun_mk l_Better c_Better k_Better), b_Better := ((fun_mk (st := s_Better) l_Better c_Better k_Better).binds fun _ _ _ _ _ _ us hl => match us, hl with | [_, _, _, _, _, _], _ => rfl), O_Better := (oc_mk oB_Better), k_Code_Code := (k_Code_Code), k_Code_Least := (k_Code_Least), k_Code_Better := (k_Code_Better), k_Least_Code := (k_Least_Code), k_Least_Least := (k_Least_Least), k_Least_Better := (k_Least_Better), k_Better_Code := (k_Better_Code), k_Better_Least := (k_Better_Least), k_Better_Better := (k_Better_Better), nj_TooMany := (hj_TooMany), n_TooMany_BadCount := (hn_TooMany_BadCount), n_TooMany_BadLength := (hn_TooMany_BadLength), n_TooMany_NotFull := (hn_TooMany_NotFull), n_TooMany_BadWord := (hn_TooMany_BadWord), n_TooMany_Begins := (hn_TooMany_Begins), n_TooMany_OtherSize := (hn_TooMany_OtherSize), nj_BadCount := (hj_BadCount), n_BadCount_BadLength := (hn_BadCount_BadLength), n_BadCount_NotFull := (hn_BadCount_NotFull), n_BadCount_BadWord := (hn_BadCount_BadWord), n_BadCount_Begins := (hn_BadCount_Begins), n_BadCount_OtherSize := (hn_BadCount_OtherSize), nj_BadLength := (hj_BadLength), n_BadLength_NotFull := (hn_BadLength_NotFull), n_BadLength_BadWord := (hn_BadLength_BadWord), n_BadLength_Begins := (hn_BadLength_Begins), n_BadLength_OtherSize := (hn_BadLength_OtherSize), nj_NotFull := (hj_NotFull), n_NotFull_BadWord := (hn_NotFull_BadWord), n_NotFull_Begins := (hn_NotFull_Begins), n_NotFull_OtherSize := (hn_NotFull_OtherSize), nj_BadWord := (hj_BadWord), n_BadWord_Begins := (hn_BadWord_Begins), n_BadWord_OtherSize := (hn_BadWord_OtherSize), nj_Begins := (hj_Begins), n_Begins_OtherSize := (hn_Begins_OtherSize), nj_OtherSize := (hj_OtherSize), k_FEWEST_SIGNS := (⟨_, PySem.W.mg_of X G q_FEWEST_SIGNS⟩), k_MOST_SIGNS := (⟨_, PySem.W.mg_of X G q_MOST_SIGNS⟩), k_LONGEST_WORD := (⟨_, PySem.W.mg_of X G q_LONGEST_WORD⟩), z_ValueError := (PySem.W.mg_none_of X G z_ValueError), z_abs := (PySem.W.mg_none_of X G z_abs), z_bool := (PySem.W.mg_none_of X G z_bool), z_dict := (PySem.W.mg_none_of X G z_dict), z_enumerate := (PySem.W.mg_none_of X G z_enumerate), z_int := (PySem.W.mg_none_of X G z_int), z_isinstance := (PySem.W.mg_none_of X G z_isinstance), z_len := (PySem.W.mg_none_of X G z_len), z_list := (PySem.W.mg_none_of X G z_list), z_max := (PySem.W.mg_none_of X G z_max), z_range := (PySem.W.mg_none_of X G z_range), z_repr := (PySem.W.mg_none_of X G z_repr), z_reversed := (PySem.W.mg_none_of X G z_reversed), z_sorted := (PySem.W.mg_none_of X G z_sorted), z_str := (PySem.W.mg_none_of X G z_str), z_sum := (PySem.W.mg_none_of X G z_sum), z_tuple := (PySem.W.mg_none_of X G z_tuple), z_zip := (PySem.W.mg_none_of X G z_zip) }
  refine ⟨_, [(C_law, P_law)], spLawT K (TL _), fun p hp => ?_, fun p hp => ?_, fun p hp => ?_, fun s u => .of_eq rfl, fun H a ns hl hH hS => ⟨a, ns, rfl, hS, hl, fun p hp => ?_, fun _ => rfl⟩, fun base _ _ tb => ok_lawP T (tb (C_law, P_law) (by simp))⟩
  · simp only [List.mem_cons, List.not_mem_nil, or_false] at hp
    subst hp
    exact (TF _ _ _ r_law t_law).2
  · simp only [List.mem_cons, List.not_mem_nil, or_false] at hp
    subst hp
    exact n_law
  · simp only [List.mem_cons, List.not_mem_nil, or_false] at hp
    subst hp
    exact (TF _ _ _ r_law t_law).1
  · unfold TL at hp
    simp only [List.mem_cons, List.not_mem_nil, or_false] at hp
    subst hp
    exact TabS.nil (hH (C_law, P_law) (by simp))
end
end Z

set_option Elab.async false
open PySem PySem.W PyProof.Rows
set_option maxRecDepth 100000
set_option maxHeartbeats 0
open_top k39head for PySem.Challenge.rw_leastjoined_k39_levels

open PySem PySem.W PyProof.Rows
set_option Elab.async false
set_option maxRecDepth 100000
set_option maxHeartbeats 0
theorem PySem.Challenge.cw_leastjoined_k39_levels_holds : PySem.Challenge.rw_leastjoined_k39_levels.Holds := by
  refine k39head ?_
  k_fill
  refine XV.walk_quiet (l := PySem.Challenge.rw_leastjoined_k39_levels) (n := 63) (k := 13) (x := "_law_script") rfl (by decide) rfl ⟨rfl, by decide, by decide⟩ (fun w h Y => PySem.W.km_in_of Y) ?F
  case F =>
    intro w mg fa h TF Y KX G hmg
    refine' Z.all_mk TF KX G hmg ?a_signsbylength ?l_signsbylength ?c_signsbylength ?k_signsbylength ?lT_signsbylength ?a_signgroups ?l_signgroups ?c_signgroups ?k_signgroups ?lT_signgroups ?a_isint ?l_isint ?c_isint ?k_isint ?a_kept ?l_kept ?c_kept ?k_kept ?a_frozen ?l_frozen ?c_frozen ?k_frozen ?a_checkmany ?l_checkmany ?c_checkmany ?k_checkmany ?a_checkcounts ?l_checkcounts ?c_checkcounts ?k_checkcounts ?a_checkcountsof ?l_checkcountsof ?c_checkcountsof ?k_checkcountsof ?a_lens ?l_lens ?c_lens ?k_lens ?a_isword ?l_isword ?c_isword ?k_isword ?a_cwords ?l_cwords ?c_cwords ?k_cwords ?a_canon ?l_canon ?c_canon ?k_canon ?a_paired ?l_paired ?c_paired ?k_paired ?a_packed ?l_packed ?c_packed ?k_packed ?a_levels ?l_levels ?c_levels ?k_levels ?a_lighterabove ?l_lighterabove ?c_lighterabove ?k_lighterabove ?a_beyond ?l_beyond ?c_beyond ?k_beyond ?a_judge ?l_judge ?c_judge ?k_judge ?a_penof ?l_penof ?c_penof ?k_penof ?a_draw ?l_draw ?c_draw ?k_draw ?a_pick ?l_pick ?c_pick ?k_pick ?a_countsof ?l_countsof ?c_countsof ?k_countsof ?a_lof ?l_lof ?c_lof ?k_lof ?a_cost ?l_cost ?c_cost ?k_cost ?a_leastcost ?l_leastcost ?c_leastcost ?k_leastcost ?a_llevels ?l_llevels ?c_llevels ?k_llevels ?a_wrong ?l_wrong ?c_wrong ?k_wrong ?a_wrongdue ?l_wrongdue ?c_wrongdue ?k_wrongdue ?a_law ?l_law ?c_law ?k_law ?e_law ?v_law ?r_law ?n_law ?aJ ?rJ ?sJ ?vJ ?iJ ?tJ ?aC_TooMany ?xL_TooMany ?iI_TooMany ?eB_TooMany ?lI_TooMany ?cI_TooMany ?kI_TooMany ?aC_BadCount ?xL_BadCount ?iI_BadCount ?eB_BadCount ?lI_BadCount ?cI_BadCount ?kI_BadCount ?aC_BadLength ?xL_BadLength ?iI_BadLength ?eB_BadLength ?lI_BadLength ?cI_BadLength ?kI_BadLength ?aC_NotFull ?xL_NotFull ?iI_NotFull ?eB_NotFull ?lI_NotFull ?cI_NotFull ?kI_NotFull ?aC_BadWord ?xL_BadWord ?iI_BadWord ?eB_BadWord ?lI_BadWord ?cI_BadWord ?kI_BadWord ?aC_Begins ?xL_Begins ?iI_Begins ?eB_Begins ?lI_Begins ?cI_Begins ?kI_Begins ?aC_OtherSize ?xL_OtherSize ?iI_OtherSize ?eB_OtherSize ?lI_OtherSize ?cI_OtherSize ?kI_OtherSize ?aC_Code ?iC_init ?l_init ?c_init ?k_init ?lT_init ?iC_eq ?l_eq ?c_eq ?k_eq ?oB_Code ?cB_Code ?aC_Least ?iC_Least ?l_Least ?c_Least ?k_Least ?oB_Least ?aC_Better ?iC_Better ?l_Better ?c_Better ?k_Better ?oB_Better ?k_Code_Code ?k_Code_Least ?k_Code_Better ?k_Least_Code ?k_Least_Least ?k_Least_Better ?k_Better_Code ?k_Better_Least ?k_Better_Better ?hj_TooMany ?hn_TooMany_BadCount ?hn_TooMany_BadLength ?hn_TooMany_NotFull ?hn_TooMany_BadWord ?hn_TooMany_Begins ?hn_TooMany_OtherSize ?hj_BadCount ?hn_BadCount_BadLength ?hn_BadCount_NotFull ?hn_BadCount_BadWord ?hn_BadCount_Begins ?hn_BadCount_OtherSize ?hj_BadLength ?hn_BadLength_NotFull ?hn_BadLength_BadWord ?hn_BadLength_Begins ?hn_BadLength_OtherSize ?hj_NotFull ?hn_NotFull_BadWord ?hn_NotFull_Begins ?hn_NotFull_OtherSize ?hj_BadWord ?hn_BadWord_Begins ?hn_BadWord_OtherSize ?hj_Begins ?hn_Begins_OtherSize ?hj_OtherSize ?q_FEWEST_SIGNS ?q_MOST_SIGNS ?q_LONGEST_WORD ?z_ValueError ?z_abs ?z_bool ?z_dict ?z_enumerate ?z_int ?z_isinstance ?z_len ?z_list ?z_max ?z_range ?z_repr ?z_reversed ?z_sorted ?z_str ?z_sum ?z_tuple ?z_zip
    (case a_signsbylength => k_is)
    (case l_signsbylength => k_is)
    (case c_signsbylength => k_is)
    (case k_signsbylength => k_is)
    (case lT_signsbylength => k_is)
    (case a_signgroups => k_is)
    (case l_signgroups => k_is)
    (case c_signgroups => k_is)
    (case k_signgroups => k_is)
    (case lT_signgroups => k_is)
    (case a_isint => k_is)
    (case l_isint => k_is)
    (case c_isint => k_is)
    (case k_isint => k_is)
    (case a_kept => k_is)
    (case l_kept => k_is)
    (case c_kept => k_is)
    (case k_kept => k_is)
    (case a_frozen => k_is)
    (case l_frozen => k_is)
    (case c_frozen => k_is)
    (case k_frozen => k_is)
    (case a_checkmany => k_is)
    (case l_checkmany => k_is)
    (case c_checkmany => k_is)
    (case k_checkmany => k_is)
    (case a_checkcounts => k_is)
    (case l_checkcounts => k_is)
    (case c_checkcounts => k_is)
    (case k_checkcounts => k_is)
    (case a_checkcountsof => k_is)
    (case l_checkcountsof => k_is)
    (case c_checkcountsof => k_is)
    (case k_checkcountsof => k_is)
    (case a_lens => k_is)
    (case l_lens => k_is)
    (case c_lens => k_is)
    (case k_lens => k_is)
    (case a_isword => k_is)
    (case l_isword => k_is)
    (case c_isword => k_is)
    (case k_isword => k_is)
    (case a_cwords => k_is)
    (case l_cwords => k_is)
    (case c_cwords => k_is)
    (case k_cwords => k_is)
    (case a_canon => k_is)
    (case l_canon => k_is)
    (case c_canon => k_is)
    (case k_canon => k_is)
    (case a_paired => k_is)
    (case l_paired => k_is)
    (case c_paired => k_is)
    (case k_paired => k_is)
    (case a_packed => k_is)
    (case l_packed => k_is)
    (case c_packed => k_is)
    (case k_packed => k_is)
    (case a_levels => k_is)
    (case l_levels => k_is)
    (case c_levels => k_is)
    (case k_levels => k_is)
    (case a_lighterabove => k_is)
    (case l_lighterabove => k_is)
    (case c_lighterabove => k_is)
    (case k_lighterabove => k_is)
    (case a_beyond => k_is)
    (case l_beyond => k_is)
    (case c_beyond => k_is)
    (case k_beyond => k_is)
    (case a_judge => k_is)
    (case l_judge => k_is)
    (case c_judge => k_is)
    (case k_judge => k_is)
    (case a_penof => k_is)
    (case l_penof => k_is)
    (case c_penof => k_is)
    (case k_penof => k_is)
    (case a_draw => k_is)
    (case l_draw => k_is)
    (case c_draw => k_is)
    (case k_draw => k_is)
    (case a_pick => k_is)
    (case l_pick => k_is)
    (case c_pick => k_is)
    (case k_pick => k_is)
    (case a_countsof => k_is)
    (case l_countsof => k_is)
    (case c_countsof => k_is)
    (case k_countsof => k_is)
    (case a_lof => k_is)
    (case l_lof => k_is)
    (case c_lof => k_is)
    (case k_lof => k_is)
    (case a_cost => k_is)
    (case l_cost => k_is)
    (case c_cost => k_is)
    (case k_cost => k_is)
    (case a_leastcost => k_is)
    (case l_leastcost => k_is)
    (case c_leastcost => k_is)
    (case k_leastcost => k_is)
    (case a_llevels => k_is)
    (case l_llevels => k_is)
    (case c_llevels => k_is)
    (case k_llevels => k_is)
    (case a_wrong => k_is)
    (case l_wrong => k_is)
    (case c_wrong => k_is)
    (case k_wrong => k_is)
    (case a_wrongdue => k_is)
    (case l_wrongdue => k_is)
    (case c_wrongdue => k_is)
    (case k_wrongdue => k_is)
    (case a_law => k_is)
    (case l_law => k_is)
    (case c_law => k_is)
    (case k_law => k_is)
    (case e_law => k_is)
    (case v_law => exact rfl)
    (case r_law => kernel_rfl)
    (case n_law => kernel_rfl)
    (case aJ => k_is)
    (case rJ => first | k_is | kernel_rfl)
    (case sJ => first | k_is | kernel_rfl)
    (case vJ => first | k_is | kernel_rfl)
    (case iJ => first | k_is | kernel_rfl)
    (case tJ => first | k_is | kernel_rfl)
    (case aC_TooMany => k_is)
    (case xL_TooMany => k_is)
    (case iI_TooMany => k_is)
    (case eB_TooMany => kernel_rfl)
    (case lI_TooMany => k_is)
    (case cI_TooMany => k_is)
    (case kI_TooMany => k_is)
    (case aC_BadCount => k_is)
    (case xL_BadCount => k_is)
    (case iI_BadCount => k_is)
    (case eB_BadCount => kernel_rfl)
    (case lI_BadCount => k_is)
    (case cI_BadCount => k_is)
    (case kI_BadCount => k_is)
    (case aC_BadLength => k_is)
    (case xL_BadLength => k_is)
    (case iI_BadLength => k_is)
    (case eB_BadLength => kernel_rfl)
    (case lI_BadLength => k_is)
    (case cI_BadLength => k_is)
    (case kI_BadLength => k_is)
    (case aC_NotFull => k_is)
    (case xL_NotFull => k_is)
    (case iI_NotFull => k_is)
    (case eB_NotFull => kernel_rfl)
    (case lI_NotFull => k_is)
    (case cI_NotFull => k_is)
    (case kI_NotFull => k_is)
    (case aC_BadWord => k_is)
    (case xL_BadWord => k_is)
    (case iI_BadWord => k_is)
    (case eB_BadWord => kernel_rfl)
    (case lI_BadWord => k_is)
    (case cI_BadWord => k_is)
    (case kI_BadWord => k_is)
    (case aC_Begins => k_is)
    (case xL_Begins => k_is)
    (case iI_Begins => k_is)
    (case eB_Begins => kernel_rfl)
    (case lI_Begins => k_is)
    (case cI_Begins => k_is)
    (case kI_Begins => k_is)
    (case aC_OtherSize => k_is)
    (case xL_OtherSize => k_is)
    (case iI_OtherSize => k_is)
    (case eB_OtherSize => kernel_rfl)
    (case lI_OtherSize => k_is)
    (case cI_OtherSize => k_is)
    (case kI_OtherSize => k_is)
    (case aC_Code => k_is)
    (case iC_init => k_is)
    (case l_init => k_is)
    (case c_init => k_is)
    (case k_init => k_is)
    (case lT_init => k_is)
    (case iC_eq => k_is)
    (case l_eq => k_is)
    (case c_eq => k_is)
    (case k_eq => k_is)
    (case oB_Code => kernel_rfl)
    (case cB_Code => kernel_rfl)
    (case aC_Least => k_is)
    (case iC_Least => k_is)
    (case l_Least => k_is)
    (case c_Least => k_is)
    (case k_Least => k_is)
    (case oB_Least => kernel_rfl)
    (case aC_Better => k_is)
    (case iC_Better => k_is)
    (case l_Better => k_is)
    (case c_Better => k_is)
    (case k_Better => k_is)
    (case oB_Better => kernel_rfl)
    (case k_Code_Code => kernel_rfl)
    (case k_Code_Least => kernel_rfl)
    (case k_Code_Better => kernel_rfl)
    (case k_Least_Code => kernel_rfl)
    (case k_Least_Least => kernel_rfl)
    (case k_Least_Better => kernel_rfl)
    (case k_Better_Code => kernel_rfl)
    (case k_Better_Least => kernel_rfl)
    (case k_Better_Better => kernel_rfl)
    (case hj_TooMany => decide)
    (case hn_TooMany_BadCount => decide)
    (case hn_TooMany_BadLength => decide)
    (case hn_TooMany_NotFull => decide)
    (case hn_TooMany_BadWord => decide)
    (case hn_TooMany_Begins => decide)
    (case hn_TooMany_OtherSize => decide)
    (case hj_BadCount => decide)
    (case hn_BadCount_BadLength => decide)
    (case hn_BadCount_NotFull => decide)
    (case hn_BadCount_BadWord => decide)
    (case hn_BadCount_Begins => decide)
    (case hn_BadCount_OtherSize => decide)
    (case hj_BadLength => decide)
    (case hn_BadLength_NotFull => decide)
    (case hn_BadLength_BadWord => decide)
    (case hn_BadLength_Begins => decide)
    (case hn_BadLength_OtherSize => decide)
    (case hj_NotFull => decide)
    (case hn_NotFull_BadWord => decide)
    (case hn_NotFull_Begins => decide)
    (case hn_NotFull_OtherSize => decide)
    (case hj_BadWord => decide)
    (case hn_BadWord_Begins => decide)
    (case hn_BadWord_OtherSize => decide)
    (case hj_Begins => decide)
    (case hn_Begins_OtherSize => decide)
    (case hj_OtherSize => decide)
    (case q_FEWEST_SIGNS => k_is)
    (case q_MOST_SIGNS => k_is)
    (case q_LONGEST_WORD => k_is)
    (case z_ValueError => k_is)
    (case z_abs => k_is)
    (case z_bool => k_is)
    (case z_dict => k_is)
    (case z_enumerate => k_is)
    (case z_int => k_is)
    (case z_isinstance => k_is)
    (case z_len => k_is)
    (case z_list => k_is)
    (case z_max => k_is)
    (case z_range => k_is)
    (case z_repr => k_is)
    (case z_reversed => k_is)
    (case z_sorted => k_is)
    (case z_str => k_is)
    (case z_sum => k_is)
    (case z_tuple => k_is)
    (case z_zip => k_is)

