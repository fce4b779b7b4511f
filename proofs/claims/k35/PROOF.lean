import PyProof.Rows.All
import Wide.All
import OpenK.AllK
import Wide.FinOn
import HandS.ForMost
import HandS.Walk
import KE.GoesEnum
import KE.GoesNew
import KE.GoesMore
import KE.DataMinMax
import HandS.Iter
import HandS.List
import HandS.OwnEq
import HandS.SlotsOwn
import PyProof.InstNe
import OpenK.KMake
import HandS.Replace
import HandS.ReplaceLit
import HandS.Comp
import PyProof.ToksMono
import HandS.Exc
import HandS.ExcInit
import HandS.ExcIs
import HandS.IsInst
import HandS.DictComp
import HandS.MakeKw
import KE.KExcIs
import PyProof.ReprReads
import PyProof.ReprRoads
import HandS.ExcValue
import KE.KOpsOwn
import PyProof.TwoTypes
import KE.KCallOwn
import PyProof.Rows.RuleN_abs
import HandS.Lambda
import HandS.TryMany
import HandS.ExcField
import HandS.ExcOwn
import HandS.WordsExc
import HandS.Style
import HandS.EndTab
import KE.KNest
import HandS.RevTup
import HandS.Rev
import HandS.Text
import HandS.Defaults
import HandS.Gcd
import HandS.Wide
import HandS.StrMore
import HandS.FStr
import PySem.Challenge.RW_leastjoined_k35_ratios
set_option Elab.async false
set_option linter.all false
set_option maxRecDepth 100000
set_option maxHeartbeats 4000000
/-! enumerate of a list or a tuple; max of a tuple -/
namespace PySem
open Sem (wp)
theorem enum_new1 {v : Value} {o : Obj} {J : Heap → Prop} (B : Begins v o J) :
    Meets (Builtin.«enumerate.__new__» ⟨[.type "enumerate", v], []⟩) (fun _ R s => J s.heap ∧
      R (.ok (.ret (.ref (s.heap.push o).objs.size))) { s with heap := (s.heap.push o).push { cls := .type "enumerate", data := .fields #[.none, .bool false, .ref s.heap.objs.size, rawInt 0, .none, .none] } }) :=
  .of_wp fun prog w A R st hst => by
    obtain ⟨hp, gs, dr, tk, os⟩ := st
    obtain ⟨j0, hst⟩ := hst
    have sub0 := sub_enumerate
    have begin0 : ∀ {A' : Around} {E : Value → Shared → Prop} {Q : Value → Shared → Prop}, Q (.ref hp.objs.size) ⟨hp.push o, gs, dr, tk, os⟩ → wpAny (model prog w) A' (pyIter v) Q E ⟨hp, gs, dr, tk, os⟩ :=
      fun q => B.iter prog w _ _ ⟨hp, gs, dr, tk, os⟩ _ j0 q
    wp_walk
    refine wpAny_stack_any fun below => wpAny_pure ?_
    split
    · rename_i cls _ _ _ _ _
      cases (cls == Value.type "enumerate")
      · wp_walk using begin0
        exact ⟨_, rfl, hst⟩
      · wp_walk using begin0
        exact ⟨_, rfl, hst⟩
    · wp_walk using begin0
      exact ⟨_, rfl, hst⟩
section
variable {prog : Program} {w : World} {A : Around} {E : Value → Shared → Prop} {s : Shared}
theorem enum_call1 {v : Value} {o : Obj} {J : Heap → Prop} {Q : Value → Shared → Prop} (B : Begins v o J) (j0 : J s.heap)
    (h : ∀ h', IsEnum h' (s.heap.objs.size + 1) s.heap.objs.size 0 .none → h'.get? s.heap.objs.size = some o → h'.objs.size = s.heap.objs.size + 2 →
      (∀ b u, s.heap.get? b = some u → h'.get? b = some u) → Q (.ref (s.heap.objs.size + 1)) { s with heap := h' }) :
    wpAny (model prog w) A (call (.type "enumerate") [v]) Q E s := by
  refine callType_new F.called_enumerate (by decide) (F.typeCall_enumerate_1 _) (F.newCall_enumerate_1 _) (fun obj => F.args_object_init_2 obj _) F.entry_enumerate_new (enum_new1 B) ⟨j0, ?_⟩
  have z1 : (s.heap.push o).objs.size = s.heap.objs.size + 1 := Heap.size_push ..
  show _ ∧ _
  rw [z1]
  have he : IsEnum ((s.heap.push o).push { cls := .type "enumerate", data := .fields #[.none, .bool false, .ref s.heap.objs.size, rawInt 0, .none, .none] }) (s.heap.objs.size + 1) s.heap.objs.size 0 .none := by
    have q := Heap.get?_push_size (s.heap.push o) (o := { cls := .type "enumerate", data := .fields #[.none, .bool false, .ref s.heap.objs.size, rawInt 0, .none, .none] }) rfl
    rw [z1] at q
    exact q
  exact ⟨⟨_, he, rfl⟩, h _ he (Heap.get?_push_of_some _ (Heap.get?_push_size _ B.free)) (by rw [Heap.size_push, z1]) fun b u x => Heap.get?_push_of_some _ (Heap.get?_push_of_some _ x)⟩
end
end PySem

set_option Elab.async false
set_option linter.all false
set_option maxRecDepth 100000
set_option maxHeartbeats 4000000
/-! enumerate of a tuple; a rule that reads either way -/
namespace L2
open PySem PySem.Spec PyProof.Rows
/-- a list or a tuple -/
def SqE (K : PySem.W.Frag) (H : Hp) (a : Addr) (xs : List V) : Prop := SqL K H a xs ∨ SqT K H a xs
/-- the tuple at a, its items in new pairs behind their places -/
def Itf (K : PySem.W.Frag) (a : Addr) : It :=
  ⟨fun i H => ∃ (zs : List V) (z : V), SqT K H a zs ∧ zs[i]? = some z, fun i H v H' => ∃ P z, v = .ref P ∧ H P = none ∧ H' = upd H P (.tup [.int (i : Nat), z]) ∧ ∀ zs, SqT K H a zs → zs[i]? = some z,
    fun i H => ∃ zs : List V, SqT K H a zs ∧ zs.length = i⟩
theorem turn_enumF {P : Program} {w : World} {K : PySem.W.Frag} {es : List Expr} {m : Nat} {tp : Pos} (a g it : Addr) :
    Turn P w K (.Tuple es m tp) (Itf K a) [g, it] g (fun i h => (∃ old, IsEnum h g it ((i : Nat) : Int) old) ∧ h.IsTupleIter it a i ∧ g ≠ it) where
  mem := by simp
  obj := fun i h st b hb => by
    obtain ⟨⟨old, he⟩, ⟨o, ho, hc, hd⟩, _⟩ := st
    rcases (show b = g ∨ b = it by simpa using hb) with z | z
    · subst z; exact ⟨_, he, fun v q => nomatch q⟩
    · subst z; exact ⟨o, ho, fun v q => by rw [hd] at q; cases q⟩
  keep := fun i h h' st k => by
    obtain ⟨⟨old, he⟩, hi, hne⟩ := st
    exact ⟨⟨old, k g (by simp) _ he⟩, hi.at fun o q => k it (by simp) o q, hne⟩
  item := by
    intro X eP ew eK hc i pins s σ H E Iv fpo st go
    subst eP ew eK
    obtain ⟨⟨old, he⟩, hit, hne⟩ := st
    obtain ⟨zs, z, hq, hx⟩ := go
    obtain ⟨its, rv, p, hz⟩ := Iv.tuple hq
    obtain ⟨u, hu, ru⟩ := rv.get hx
    have gl : g < s.heap.objs.size := Heap.lt_size he
    have il : it < s.heap.objs.size := by obtain ⟨_, q, _⟩ := hit; exact Heap.lt_size q
    have tu : s.heap.IsTuple a its.toArray := p
    have ai : a ≠ it := by
      rintro rfl
      obtain ⟨o, e1, c1, d1⟩ := hit
      obtain ⟨o2, e2, c2, _⟩ := tu
      rw [e1] at e2
      obtain rfl := Option.some.inj e2
      rw [c1] at c2; exact absurd c2 (by decide)
    have ga : g ≠ a := by
      rintro rfl
      obtain ⟨o2, e2, c2, _⟩ := tu
      rw [show s.heap.get? g = some _ from he] at e2
      obtain rfl := Option.some.inj e2
      exact absurd (show Value.type "enumerate" = Value.type "tuple" from c2) (by decide)
    have D := Draws.tuple (prog := X.prog) (w := X.w) (A := X.A.in1) (Iv.ok.hd hc) it a ai its.toArray
    refine wpAny_pyNext_enum_itemC D he (i := i) ⟨hit, tu⟩ (by have := (List.getElem?_eq_some_iff.mp hu).1; simpa using this) hne (by simp [hne, ga]) fun x h1 tk hx1 ho hst1 hT hsz hk => ?_
    obtain rfl : x = u := by
      have : its.toArray[i]? = some u := by simpa using hu
      rw [this] at hx1
      exact (Option.some.inj hx1).symm
    refine ⟨_, rfl, wpAny_letOwnedTupleGo_enum (s := { s with heap := h1, toks := tk + 1 }) ho fun h2 he2 sb => ?_⟩
    have hT2 := (sb.2 _ (Nat.ne_of_gt gl)).trans hT
    have nw : ObjOk X.prog X.w (upd H s.heap.objs.size (.tup [.int (i : Nat), z])) h2 s.heap.objs.size (.tup [.int (i : Nat), z]) :=
      ⟨by show 2 ≤ sizeLine; decide, [.int i tk, x], .cons ⟨_, rfl⟩ (.cons ru .nil), ⟨_, hT2, rfl, _, rfl⟩⟩
    have I1 : Inv X pins σ (upd H s.heap.objs.size (.tup [.int (i : Nat), z])) { s with heap := h2, toks := tk + 1 } :=
      Iv.turnedNew (ch := [g, it]) (fun b ob hb q => (sb.2 b (fun y => hb (by simp [y]))).trans (hk b ob (fun y => hb (by simp [y])) (fun y => hb (by simp [y])) q)) fpo (Nat.le_refl _) nw
    refine ⟨.ref s.heap.objs.size, _, I1, rfl, ⟨_, z, rfl, Iv.hok.fresh (Nat.le_refl _), rfl, fun ys hy => by rw [Iv.tuple_inj hy hq]; exact hx⟩, ⟨⟨x, ?_⟩, hst1.1.at fun o q => (sb.2 it (Ne.symm hne)).trans q, hne⟩, fun b hb => ?_⟩
    · rw [show ((i + 1 : Nat) : Int) = (i : Int) + 1 by omega]; exact he2
    · have hb' : b < s.heap.objs.size := by
        rcases (show b = g ∨ b = it by simpa using hb) with y | y
        · subst y; exact gl
        · subst y; exact il
      rw [upd_ne (Nat.ne_of_lt hb')]
      exact (fpo b hb).1
  done := by
    intro X eP ew eK hc i pins s σ H E Iv fpo st go
    subst eP ew eK
    obtain ⟨⟨old, he⟩, hit, hne⟩ := st
    obtain ⟨zs, hq, hx⟩ := go
    obtain ⟨its, rv, p, hz⟩ := Iv.tuple hq
    obtain ⟨f0, f1, f2, f3, f4, f5⟩ := fpo it (by simp)
    have tu : s.heap.IsTuple a its.toArray := p
    have ai : a ≠ it := by
      rintro rfl
      obtain ⟨o, e1, c1, d1⟩ := hit
      obtain ⟨o2, e2, c2, _⟩ := tu
      rw [e1] at e2
      obtain rfl := Option.some.inj e2
      rw [c1] at c2; exact absurd c2 (by decide)
    have D := Draws.tuple (prog := X.prog) (w := X.w) (A := X.A.in1) (Iv.ok.hd hc) it a ai its.toArray
    have hl : its.toArray.size = i := by rw [List.size_toArray, ← rv.length]; exact hx
    exact wpAny_pyNext_enum_endD D he (by rw [hl]; exact ⟨hit, tu⟩) fun h1 eb => ⟨rfl, Iv.turned (t' := s.toks) (fun b o hb q => eb b o hb q) f0 f1 f3 f4 f5⟩
  self := fun A i s Q E st h => let ⟨⟨_, he⟩, _⟩ := st; wpAny_pyIter_enum he h
def iEnumF (K : PySem.W.Frag) (ta : TA) : TI := fun σ H R => ta σ H fun vs H1 => ∃ a zs, vs = [.ref a] ∧ SqT K H1 a zs ∧ R (Itf K a) H1
theorem pi_enumF {X : Cx} {e : Expr} {ta : TA} {p pos tp : Pos} {es : List Expr} {m : Nat} (hg : Gl X "enumerate") (hm : X.mg "enumerate" = none) (ha : PA X [e] ta) (hs : starEach [e] X.env = [(false, eval e X.env)] := by rfl) :
    PI X (.Tuple es m tp) (.Call (.Name "enumerate" p) [e] [] pos) (iEnumF X.K ta) := by
  refine ⟨fun pins s σ H R Iv h => Call_ (ld_blt Iv hg hm boot_enumerate (PyProof.Rows.callWith_type1 (thn (ha.run pos pins s σ H _ Iv h) fun us s1 ⟨vs, H1, I1, r1, q1⟩ => ?_) hs rfl))⟩
  obtain ⟨a, zs, rfl, hq, q⟩ := q1
  rw [Vals.ref1 r1]
  obtain ⟨its, rv, tu, hz⟩ := I1.tuple hq
  refine enum_call1 (begins_tuple a its.toArray) (show s1.heap.IsTuple a its.toArray from tu) fun h1 he hit hsz hk => wpAny_pyIter_enum he ?_
  have I2 : Inv X pins σ H1 { s1 with heap := h1 } := I1.kept (t' := s1.toks) hk
  refine ⟨s1.heap.objs.size + 1, [s1.heap.objs.size + 1, s1.heap.objs.size], _, _, H1, rfl, I2, turn_enumF a (s1.heap.objs.size + 1) s1.heap.objs.size, ⟨⟨.none, he⟩, ⟨_, hit, rfl, rfl⟩, Nat.succ_ne_self _⟩, fun b hb => ?_, q⟩
  have hle : s1.heap.objs.size ≤ b := by
    rcases (show b = s1.heap.objs.size + 1 ∨ b = s1.heap.objs.size by simpa using hb) with z | z <;> subst z
    · exact Nat.le_add_right _ _
    · exact Nat.le_refl _
  exact I1.fpOk hle (I1.hok.fresh hle)
/-- either reading -/
theorem pi_or {X : Cx} {tg it : Expr} {u v : TI} (a : PI X tg it u) (b : PI X tg it v) : PI X tg it (fun σ H R => u σ H R ∨ v σ H R) :=
  ⟨fun pins s σ H R I h => h.elim (a.run pins s σ H R I) (b.run pins s σ H R I)⟩
theorem cr_or {X : Cx} {f : Value} {r q : List V → Hp → VK → Prop} (a : CallR X f r) (b : CallR X f q) : CallR X f (fun xs H Q => r xs H Q ∨ q xs H Q) :=
  fun pins s σ H xs us Q I rs h => h.elim (a pins s σ H xs us Q I rs) (b pins s σ H xs us Q I rs)
/-! ### max of a tuple -/
section
variable {prog : Program} {w : World} {A : Around} {E : Value → Shared → Prop} {s : Shared} {a : Addr} {its : List Value} {ns : List Int} {Q : Value → Shared → Prop}
theorem max_tup (hh : A.handled = none) (hl : s.heap.IsTuple a its.toArray) (hi : IntsAre its ns) (hne : 0 < ns.length)
    (h : ∀ h1 tk M t, (∀ b o, s.heap.get? b = some o → h1.get? b = some o) → M ∈ ns → (∀ y, y ∈ ns → y ≤ M) → Q (.int M t) { s with heap := h1, toks := tk }) : wpAny (model prog w) A (call (.builtin "max") [.ref a]) Q E s := by
  obtain ⟨xs, e⟩ := hi.allInts.items
  have hn : numsOf (intItems xs).toList = ns := by rw [← e]; exact hi.numsOf
  rw [nums_intItems] at hn
  subst hn
  rw [e] at hl
  have hsz : 0 < xs.size := by simpa using hne
  have lt : a < s.heap.objs.size := by obtain ⟨_, q, _⟩ := hl; exact Heap.lt_size q
  refine call_max_walk (wpAny_pyIter_tuple hl ⟨_, _, _, _, _, _, _, rfl, Walks.tuple (A := A.in1) hh _ a (Nat.ne_of_lt lt) (intItems xs), ⟨⟨_, Heap.get?_push_size _ rfl, rfl, rfl⟩, hl.push _⟩, fun b hb => ?_, by simpa [intItems] using hsz, CmpOf.ints_gt (numAt xs) (fun _ _ => intItems_at), fun v h1 tk hv hk => ?_⟩)
  · show b < (s.heap.push _).objs.size
    rw [Heap.size_push]
    rcases (show b = s.heap.objs.size ∨ b = a by simpa using hb) with z | z <;> subst z
    · exact Nat.lt_succ_self _
    · exact Nat.lt_succ_of_lt lt
  · have hv : (intItems xs)[argBest (fun i j => decide (numAt xs i > numAt xs j)) (xs.size - 1)]? = some v := by simpa [intItems] using hv
    obtain ⟨t, rfl⟩ := intItems_at hv
    obtain ⟨k1, k2⟩ := argBest_gt (numAt xs) (xs.size - 1)
    refine h h1 tk _ t (fun b o q => hk b o (fun hm => ?_) (Heap.get?_push_of_some _ q)) ?_ fun y hy => ?_
    · have : b = s.heap.objs.size := by simpa using hm
      exact absurd (this ▸ Heap.lt_size q) (Nat.lt_irrefl _)
    · rw [numAt_eq]; exact PySem.getD_mem (by rw [List.length_map, Array.length_toList]; omega)
    · obtain ⟨j, hj, rfl⟩ := mem_getD hy
      rw [List.length_map, Array.length_toList] at hj
      rw [← numAt_eq]; exact k2 j (by omega)
end
def rMaxT (K : PySem.W.Frag) : List V → Hp → VK → Prop := fun vs H Q => ∃ (a : Addr) (ns : List Int), vs = [V.ref a] ∧ SqT K H a (ns.map V.int) ∧ 0 < ns.length ∧ ∀ m, m ∈ ns → (∀ y, y ∈ ns → y ≤ m) → Q (.int m) H
theorem cr_maxT {X : Cx} (hc : X.calm = true) : CallR X (.builtin "max") (rMaxT X.K) := by
  intro pins s σ H vs us Q Iv r h
  obtain ⟨a, ns, rfl, hs, hne, q⟩ := h
  obtain ⟨its, rv, tu, _⟩ := Iv.tuple hs
  rw [Vals.ref1 r]
  exact max_tup (Iv.ok.hd hc) (show s.heap.IsTuple a its.toArray from tu) rv.ints hne fun h1 tk m t hk h1' h2 => ⟨.int _, H, Iv.kept hk, ⟨_, rfl⟩, q m h1' h2⟩
end L2

set_option Elab.async false
set_option linter.all false
set_option maxRecDepth 100000
set_option maxHeartbeats 4000000
/-! x == y, x != y: x an instance whose class has an own == (answers any flag) and no own != -/
namespace PySem.W
open PySem PySem.Spec PyProof.Rows Builtin
section
variable {prog : Program} {w : World} {A : Around} {E : Value → Shared → Prop} {s : Shared} {K : Frag} {x C f : Addr} {ox : Obj} {od : Option Obj} {b tb : Value}
theorem objNe_run {Q : Fin → Shared → Prop} (X : K.In s.heap) (I : InstAt s.heap x ox C od) (he : findIn K (.ref C) "__eq__" = some (some (.ref f))) (hf : isFn K (.ref f) = true) (hu : A.units < cLine)
    (h : wpAny (model prog w) A (call (.ref f) [.ref x, b]) (fun v s' => ∃ r, v = .bool r ∧ Q (.done (.ret (.bool (!r)))) s') E s) :
    wpAny (model prog w) A (Builtin.«object.__ne__» ⟨[.ref x, b], []⟩) Q E s := by
  unfold Builtin.«object.__ne__»
  repeat (first
    | with_reducible refine wpAny_cRoomFor hu ?_
    | (refine wpAny_bind (m := callSpecialIfBound? (.ref x) (Str.ofString "__eq__") [b])
        (ifBound_K X I he hf (wpAny_mono h (fun v s1 hv => by
          obtain ⟨r, rfl, q⟩ := hv
          repeat (first | exact q | exact wpAny_pure q | exact wpAny_truthy_bool q | (refine wpAny_bind (m := truthy (.bool _)) (wpAny_truthy_bool ?_)) | wp_step)) fun _ _ e => e)))
    | wp_step)
theorem tryNe {Q : Option Value → Shared → Prop} (X : K.In s.heap) (I : InstAt s.heap x ox C od) (hs : findIn K (.ref C) "__ne__" = some (some (.builtin "object.__ne__"))) (he : findIn K (.ref C) "__eq__" = some (some (.ref f))) (hf : isFn K (.ref f) = true)
    (ho : subIn K (.ref C) (.type "object") = some true) (hu : A.units + 1 < cLine)
    (h : wpAny (model prog w) A.in1 (call (.ref f) [.ref x, b]) (fun v s' => ∃ r, v = .bool r ∧ Q (some (.bool (!r))) s') E s) : wpAny (model prog w) A (tryCompare (.ref x) "__ne__" b) Q E s := by
  have S := F.cmp_object.ne
  have isI : Looks (model prog w) s.heap (isInstance (.ref x) (.type "object")) true := I.type.andThen (looks_subIn X ho)
  unfold tryCompare
  simp only [callSpecialIfBound?, bindSpecialIfBound?]
  refine wpAny_bind (wpAny_holding (wpAny_bind (wpAny_bind (wpAny_bind (I.type.here ((looks_findIn X hs).here ?_))))))
  simp only [S.bind]
  refine wpAny_bind (wpAny_askSetting (wpAny_ite ?_))
  have fin : wpAny (model prog w) A (call (.builtin "object.__ne__") ([.ref x] ++ [b])) (fun v s' => ∃ r, v = .bool r ∧ Q (some (.bool r)) s') E s := by
    refine wpAny_call (codeAny_call_builtin S.plain F.cmpEntry_ne (check_slot F.cmpKind_ne F.cmpSplit_ne isI (F.cmpArgs_ne _ _) (objNe_run (A := A.in1) X I he hf hu (wpAny_mono h (fun v s1 hv => ?_) fun _ _ e => e))))
    obtain ⟨r, e, q⟩ := hv
    exact ⟨r, e, ⟨_, rfl, q⟩⟩
  have fin2 : wpAny (model prog w) A (call (.builtin "object.__ne__") ([.ref x] ++ [b]) >>= fun v => pure (some v)) (fun r s' => ∃ v, r = some (.bool v) ∧ Q (some (.bool v)) s') E s :=
    wpAny_bind (wpAny_mono fin (fun v s1 ⟨r, e, q⟩ => by subst e; exact wpAny_pure ⟨_, rfl, q⟩) fun _ _ e => e)
  have last : wpAny (model prog w) A (call (.builtin "object.__ne__") ([.ref x] ++ [b]) >>= fun v => pure (some v)) (fun r s' => wpAny (model prog w) A (match r with
      | some Value.notImplemented => pure none
      | none => pure none
      | some v => pure (some v)) Q E s') E s := wpAny_mono fin2 (fun r s1 ⟨v, e, q⟩ => by subst e; exact wpAny_pure q) fun _ _ e => e
  split
  · refine wpAny_bind (wpAny_pure (wpAny_pure ?_))
    exact last
  · refine wpAny_tryCatch (wpAny_bind (wpAny_pure (wpAny_pure ?_)))
    exact last
end
end PySem.W

set_option Elab.async false
set_option linter.all false
set_option maxRecDepth 100000
set_option maxHeartbeats 4000000
/-! the operators == and != of such a class -/
namespace L2
open PySem PySem.Spec PyProof.Rows SlX
/-- what a rich comparison sees of the other side: an instance, a tuple -/
def BTy (K : PySem.W.Frag) (H : Hp) (y : V) (tb : Value) : Prop := (∃ b dy gs C', y = .ref b ∧ H b = some (.ins C' dy gs) ∧ tb = .ref C') ∨ (∃ b zs, y = .ref b ∧ SqT K H b zs ∧ tb = .type "tuple") ∨ (∃ i, y = .int i ∧ tb = .type "int")
section
variable {X : Cx} {CX : CXT} {pins : List (Addr × Obj)} {σ : L2.St} {H : Hp} {s : Shared} {C g : Addr} {n : Nat} {sp : Sp} {E : XK} {y : V} {u tb : Value}
theorem BTy.looks (h : BTy X.K H y tb) (Iv : Inv X pins σ H s) (r : RelV y u) : PySem.W.Looks (model X.prog X.w) s.heap (typeOf u) tb := by
  rcases h with ⟨b, dy, gs, C', rfl, hb, rfl⟩ | ⟨b, zs, rfl, hb, rfl⟩ | ⟨i, rfl, rfl⟩
  · cases (show u = Value.ref b from r)
    obtain ⟨mB, J, _⟩ := ins_get Iv.hok hb
    obtain ⟨od, J, _⟩ := J.look
    exact J.type
  · cases (show u = Value.ref b from r)
    obtain ⟨its, rv, tu, _⟩ := Iv.tuple hb
    obtain ⟨o, e, c, _⟩ := (show s.heap.IsTuple b its.toArray from tu)
    exact fun A Q E s' k q => wpAny_typeOf_ref (k _ _ e) (by rw [c]; exact q)
  · obtain ⟨t, e⟩ := (show ∃ t, u = Value.int i t from r)
    cases e
    exact PySem.W.Looks.of_pure rfl
def rEqI (K : PySem.W.Frag) (C : Addr) (sp : Sp) (E : XK) : R2 := fun x y H Q => ∃ a dx fs tb, x = .ref a ∧ H a = some (.ins C dx fs) ∧ BTy K H y tb ∧ PySem.W.notFirst K C tb = true ∧ sp [x, y] H Q E
theorem op_eqI (hs : PySem.W.findIn X.K (.ref C) "__eq__" = some (some (.ref g))) (hf : PySem.W.isFn X.K (.ref g) = true) (F : FnR X.prog X.w X.K X.mg X.base CX n g sp) (hr : Room n X.A) (hx : Passes CX X E) : OpR X (compareOp .Eq) (rEqI X.K C sp E) := by
  intro pins s σ H x y v u Q Iv rx ry h
  obtain ⟨a, dx, fs, tb, rfl, ha, ht, hn, q⟩ := h
  cases (show v = Value.ref a from rx)
  obtain ⟨mA, J, _⟩ := ins_get Iv.hok ha
  obtain ⟨od, J, _⟩ := J.look
  obtain ⟨m, hF⟩ := Iv.fr
  show wpAny _ _ (richCompare .Eq (.ref a) u) _ _ _
  refine PySem.W.cmp_K (op := .Eq) (tb := tb) hr.units0 hF Iv.ok.mod.kin J (ht.looks Iv ry) hn hs hf ?_
  refine wpAny_mono (wpAny_call (run_fnR (us := [.ref a, u]) (vs := [.ref a, y]) F hr hx Iv (.cons rfl (.cons ry .nil)) q)) (fun w1 s1 z => ?_) fun _ _ x => x
  obtain ⟨z1, H1, I1, rz, qz⟩ := z
  exact cmpback rz ⟨z1, H1, I1, rz, qz⟩
def rNeI (K : PySem.W.Frag) (C : Addr) (sp : Sp) (E : XK) : R2 := fun x y H Q => ∃ a dx fs tb, x = .ref a ∧ H a = some (.ins C dx fs) ∧ BTy K H y tb ∧ PySem.W.notFirst K C tb = true ∧ sp [x, y] H (fun v H1 => ∃ b, v = .bl b ∧ Q (.bl (!b)) H1) E
theorem op_neI (hN : PySem.W.findIn X.K (.ref C) "__ne__" = some (some (.builtin "object.__ne__"))) (hs : PySem.W.findIn X.K (.ref C) "__eq__" = some (some (.ref g))) (hf : PySem.W.isFn X.K (.ref g) = true) (ho : PySem.W.subIn X.K (.ref C) (.type "object") = some true)
    (F : FnR X.prog X.w X.K X.mg X.base CX n g sp) (hr : Room (n + 1) X.A) (hx : Passes CX X E) : OpR X (compareOp .NotEq) (rNeI X.K C sp E) := by
  intro pins s σ H x y v u Q Iv rx ry h
  obtain ⟨a, dx, fs, tb, rfl, ha, ht, hn, q⟩ := h
  cases (show v = Value.ref a from rx)
  obtain ⟨mA, J, _⟩ := ins_get Iv.hok ha
  obtain ⟨od, J, _⟩ := J.look
  have hr1 : Room n X.A.in1 := Room.in1 hr
  have hb := ht.looks Iv ry
  have one : wpAny (model X.prog X.w) X.A (tryCompare (.ref a) "__ne__" u) (fun r s1 => ∃ b, r = some (.bool b) ∧ EP X pins σ Q (.bool b) s1) X.xe s := by
    refine PySem.W.tryNe Iv.kIn J hN hs hf ho (by have := hr1.units0; exact this) ?_
    refine wpAny_mono (wpAny_call (run_at (us := [.ref a, u]) (ws := [.ref a, y]) F hr1 Iv.env0.in1 hx Iv (.cons rfl (.cons ry .nil)) q)) (fun w1 s1 z => ?_) fun _ _ x => x
    obtain ⟨z1, H1, I1, rz, b, e, qz⟩ := z
    subst e
    cases (show w1 = Value.bool b from rz)
    exact ⟨b, rfl, ⟨_, rfl, .bl (!b), H1, I1, rfl, qz⟩⟩
  show wpAny _ _ (richCompare .NotEq (.ref a) u) _ _ _
  unfold richCompare
  simp only [oneThing_ref]
  refine wpAny_holding (wpAny_bind (wpAny_cRoomFor hr.units0 ?_))
  rw [cmpInfo_NotEq]
  dsimp only
  refine wpAny_bind (J.type.here (wpAny_bind (hb.here ?_)))
  have two : wpAny (model X.prog X.w) X.A (tryCompare (.ref a) "__ne__" u) (fun r s1 => ∃ b, r = some (.bool b) ∧ EP X pins σ Q (.bool b) s1) X.xe s := one
  split
  · rename_i q0
    have e : PySem.W.subIn X.K tb (.ref C) = some false := by
      rcases Bool.or_eq_true_iff.mp hn with e | e
      · rw [beq_iff_eq.mp e] at q0; simp at q0
      · exact beq_iff_eq.mp e
    refine wpAny_bind ((PySem.W.looks_subIn Iv.kIn e).here ?_)
    simp only [Bool.false_eq_true, if_false]
    refine wpAny_bind (wpAny_mono two (fun r s1 z => ?_) fun _ _ e => e)
    obtain ⟨b, rfl, hq⟩ := z
    exact wpAny_pure hq
  · refine wpAny_bind (wpAny_pure ?_)
    simp only [Bool.false_eq_true, if_false]
    refine wpAny_bind (wpAny_mono two (fun r s1 z => ?_) fun _ _ e => e)
    obtain ⟨b, rfl, hq⟩ := z
    exact wpAny_pure hq
end
end L2

set_option Elab.async false
set_option linter.all false
set_option maxRecDepth 100000
set_option maxHeartbeats 4000000
/-! one token is out: kept through a for over range(c) and a comprehension (e.replace of written texts asks for it) -/
namespace L2
open PySem PySem.Spec PyProof.Rows
section
variable {α : Type} {t : Sem α} {M : Model} {A : Around} {E E2 : Value → Shared → Prop} {s : Shared} {Q Q2 : α → Shared → Prop}
theorem thk (one : 1 ≤ s.toks) (h : wpAny M A t Q E s) (k : ∀ a s1, 1 ≤ s1.toks → Q a s1 → Q2 a s1) : wpAny M A t Q2 E s :=
  wpAny_mono (wpAny_toks_of one h) (fun a s1 q => k a s1 q.1 q.2) fun _ _ z => z.2
theorem thkF (one : 1 ≤ s.toks) (h : wpAny M A t Q (fun _ _ => False) s) (k : ∀ a s1, 1 ≤ s1.toks → Q a s1 → Q2 a s1) : wpAny M A t Q2 E2 s :=
  wpAny_mono (wpAny_toks_of one h) (fun a s1 q => k a s1 q.1 q.2) fun _ _ z => False.elim z.2
end
section
variable {X : Cx}
/-- what a for asks of its turns -/
def tForR (g : TG) (tb : TS) (D : Ends) (σ : St) : It → Hp → Prop := fun J G => ∃ W : Nat → Nat → St → Hp → Prop, (∃ m, W 0 m σ G) ∧ ∀ i m ρ G1, W i m ρ G1 →
  (J.stop i G1 ∧ D.nx ρ G1) ∨ (J.go i G1 ∧ ∃ N : St → Hp → Prop, (∀ ρ1 G2, N ρ1 G2 → ∃ m1, m1 < m ∧ W (i + 1) m1 ρ1 G2) ∧
    ∀ x G2, J.yld i G1 x G2 → g x ρ G2 fun ρ2 G3 => tb { D with nx := N, ct := N, bk := D.nx } ρ2 G3)
/-- for x in range(c): the written c is an int that is made -/
theorem ps_forT {c : Int} {j : Nat} {cp p pos fpos : Pos} {tg : Expr} {body : List Stmt} {g : TG} {tb : TS} (own : PassesOwn (model X.prog X.w) X.A X.env X.xe) (calm : X.calm = true) (hg : Gl X "range") (hm : X.mg "range" = none)
    (gg : PG X tg g) (hb : PSsT X body tb) (c0 : 0 ≤ c) (c1 : c < 2 ^ 62) (hs : starEach [.Constant (.int c) j cp] X.env = [(false, eval (.Constant (.int c) j cp) X.env)] := by rfl)
    (fo : ∀ x, foldedSetIterable (.Call (.Name "range" p) [.Constant (.int c) j cp] [] pos) X.env x = pure x := by intro _; rfl) :
    PS X (.For tg (.Call (.Name "range" p) [.Constant (.int c) j cp] [] pos) body [] fpos) (tFor (fun _ H R => R (Itr 0 c.toNat) H) g tb) := by
  refine ⟨fun pins s σ H D Iv h => ?_⟩
  have ev : ∀ R : It → Hp → Prop, R (Itr 0 c.toNat) H → wpAny (model X.prog X.w) X.A (eval (.Call (.Name "range" p) [.Constant (.int c) j cp] [] pos) X.env) (fun v s1 => 1 ≤ s1.toks ∧ wpAny (model X.prog X.w) X.A (pyIter v) (PIE X pins σ tg R) X.xe s1) X.xe s := fun R hR => by
    refine Call_ (ld_blt Iv hg hm boot_range (PyProof.Rows.callWith_type1 ?_ hs rfl))
    rw [hs]
    refine Calls.spliced_cons (wpAny_Constant_int (k := j) (pos := cp) (Calls.spliced_nil ?_))
    refine thk (by show 1 ≤ s.toks + 1; omega) (call_range_1 (range_it (Iv.tok _) (by omega) (by omega) (by omega) c1 ?_)) fun v s1 o q => ⟨o, q⟩
    have e : (c - 0).toNat = c.toNat := by omega
    rw [e]
    exact hR
  have rdy : tForR g tb D σ (Itr 0 c.toNat) H := h
  refine wpAny_For (thn (ev (tForR g tb D σ) rdy) fun v s1 ⟨o1, h1⟩ => thk o1 h1 fun itv s2 o2 h2 => ?_) fo
  obtain ⟨it, fp, tn, J, H2, rfl, I2, T, st2, f2, W, ⟨m0, w0⟩, turn⟩ := h2
  have stat : ∀ {G : Hp}, (∀ b ∈ fp, G b = none) → ∀ b ∈ fp, FpOk X pins G b := fun z b hb => ⟨z b hb, (f2 b hb).2⟩
  refine codeAny_forLoop_any (fun n s' => 1 ≤ s'.toks ∧ ∃ i ρ G, Inv X pins ρ G s' ∧ tn i s'.heap ∧ (∀ b ∈ fp, G b = none) ∧ W i n ρ G) ?_ m0 ⟨o2, 0, σ, H2, I2, st2, fun b hb => (f2 b hb).1, w0⟩
  rintro n s3 ⟨o3, i, σ3, H3, I3, st3, z3, w3⟩
  rcases turn i n σ3 H3 w3 with ⟨stop, fin⟩ | ⟨go, N, hN, step⟩
  · refine wpAny_passesOwn own (thn (T.done X rfl rfl rfl calm i pins s3 σ3 H3 X.xe I3 (stat z3) st3 stop) fun r s4 ⟨hr, I4⟩ => ?_)
    subst hr
    exact wpAny_execs_nil ⟨σ3, H3, I4, fin⟩
  · refine wpAny_passesOwn own (thk o3 (T.item X rfl rfl rfl calm i pins s3 σ3 H3 X.xe I3 (stat z3) st3 go) fun r s4 o4 ⟨u, hr, h4⟩ => ?_)
    subst hr
    refine wpAny_passesOwn own (thk o4 h4 fun _ s5 o5 ⟨x, H5, I5, r5, y5, st5, z5⟩ => ?_)
    have Ip := I5.pinned (stat z5) (T.obj _ _ st5)
    refine wpAny_passesOwn own (thk o5 (gg.run _ s5 σ3 H5 x u _ Ip r5 (step x H5 y5)) fun _ s6 o6 ⟨σ6, H6, I6, q6⟩ => ?_)
    refine wpAny_passesOwn own (thk o6 (hb _ s6 σ6 H6 _ o6 I6 q6) fun f s7 o7 q7 => ?_)
    have pinned : ∀ {ρ : St} {G : Hp}, Inv X (pins ++ pinsAt fp s5.heap) ρ G s7 → ∀ b ∈ fp, ∀ o, s5.heap.get? b = some o → s7.heap.get? b = some o ∧ G b = none := fun {ρ G} I7 b hb o e =>
      let z := I7.pin (b, o) (List.mem_append_right _ (List.mem_append_right _ (mem_pinsAt hb e)))
      ⟨z.1, z.2.1⟩
    have again : ∀ {ρ : St} {G : Hp}, Inv X (pins ++ pinsAt fp s5.heap) ρ G s7 → N ρ G → ∃ m, m < n ∧ 1 ≤ s7.toks ∧ ∃ i ρ G, Inv X pins ρ G s7 ∧ tn i s7.heap ∧ (∀ b ∈ fp, G b = none) ∧ W i m ρ G := fun {ρ G} I7 n7 => by
      obtain ⟨m1, lt, w7⟩ := hN ρ G n7
      refine ⟨m1, lt, o7, i + 1, ρ, G, I7.unpinned, T.keep _ _ _ st5 fun b hb o e => (pinned I7 b hb o e).1, fun b hb => ?_, w7⟩
      obtain ⟨o, e, _⟩ := T.obj _ _ st5 b hb
      exact (pinned I7 b hb o e).2
    cases f with
    | next => obtain ⟨ρ, G, I7, n7⟩ := q7; exact again I7 n7
    | cont => obtain ⟨ρ, G, I7, n7⟩ := q7; exact again I7 n7
    | brk => obtain ⟨ρ, G, I7, fin⟩ := q7; exact ⟨ρ, G, I7.unpinned, fin⟩
    | ret v => obtain ⟨x7, ρ, G, I7, r7, fin⟩ := q7; exact ⟨x7, ρ, G, I7.unpinned, r7, fin⟩
/-- name = [elt for target in iter], elt where one token is out -/
theorem pst_lcT {i : Nat} {y : Str} {py : Pos} {elt tg iter : Expr} {sco : Scope} {own : List (Str × Nat)} {pos spos : Pos} {wi : TI} {g : TG} {te : TE} (calm : X.calm = true) (nd : X.N.Nodup) (hy : X.N[i]? = some y) (hyl : X.env.scope.names.lookup y = some .local)
    (sw : swapsWith (.ListComp elt [⟨tg, iter, [], 0⟩] sco pos) (some (.Name y py)) spos.line X.env = pure true) (hi : PI X tg iter wi) (ok : BlkOk X.N X.env.scope sco own)
    (gg : ∀ (s : Shared) (H : Hp) (C : Addr) (cl : List (Str × Addr)) (fp : List Addr), PG (X.blk s H sco (compEnvC sco cl C X.env) fp) tg g)
    (ee : ∀ (s : Shared) (H : Hp) (C : Addr) (cl : List (Str × Addr)) (fp : List Addr), PET (X.blk s H sco (compEnvC sco cl C X.env) fp) elt te) (fo : ∀ x, foldedSetIterable iter X.env x = pure x := by intro _; rfl) :
    PST X (.Assign [.Name y py] (.ListComp elt [⟨tg, iter, [], 0⟩] sco pos) spos) (tAsg (tLc wi g tYes te (own.map (·.2))) (gName i)) := by
  intro pins s σ H D one Iv h
  rw [exec_Assign_Name_used _ _ _ _ sw]
  refine wpAny_bind (wpAny_standAt (wpAny_bind ?_))
  show wpAny _ X.A (do let _ ← comprehension (.ListComp elt [⟨tg, iter, [], 0⟩] sco pos) sco X.env (firstIterPos [⟨tg, iter, [], 0⟩] pos) (newList []) false (eval iter X.env) (some (assign (.Name y py) X.env))) _ _ s
  have h : tLc wi g tYes te (own.map (·.2)) σ H (fun x H1 => gName i x σ H1 D.nx) := h
  refine wpAny_bind (thn (Q := fun _ s1 => SP X pins D .next s1) ?_ fun _ s1 q => wpAny_pure (wpAny_pure q))
  have hfree : ∀ y ∈ sco.names, y.2 = .free → ∃ c, X.env.cells.lookup y.1 = some c := fun y hy e => (ok.free y hy e).elim (fun k => Iv.ok.has _ (.inl k)) fun k => Iv.ok.has _ (.inr k)
  refine wpAny_comprehension_free (use := some (assign (.Name y py) X.env)) rfl fo (closure_ok hfree) ok.kind (fun z hz e => by rw [ok.uniq z hz, e]) (thk one (hi.run pins s σ H _ Iv h) fun xv s1 o1 hx => thk o1 hx fun itv s2 o2 h2 => ?_)
  obtain ⟨it, fp, tn, J, H2, rfl, I2, T, st2, f2, q⟩ := h2
  refine wpAny_newObj_type (newEnv_comp ?_) (by show 0 ≤ sizeLine; decide)
  generalize hL : s2.heap.objs.size = L
  have nL : H2 L = none := I2.hok.fresh (Nat.le_of_eq hL)
  obtain ⟨W, ⟨m0, w0⟩, turn⟩ := q L nL
  generalize hs3 : ({ s2 with heap := s2.heap.push { cls := .type "list", data := .seq ([] : List Value).toArray } } : Shared) = s3
  have o3 : 1 ≤ s3.toks := by rw [← hs3]; exact o2
  have g3 : s3.heap = s2.heap.push { cls := .type "list", data := .seq ([] : List Value).toArray } := by rw [← hs3]
  have I3 : Inv X pins σ (upd H2 L (.lst [])) s3 := by
    rw [← hs3]
    refine I2.laid (t' := s2.toks) (fun b o e => Heap.get?_push_of_some _ e) (Nat.le_of_eq hL) ⟨Nat.zero_le _, [], 0, .nil, ?_⟩
    rw [← hL]; exact Heap.get?_push_size _ rfl
  have lt2 : ∀ b ∈ fp, b < s2.heap.objs.size := fun b hb => let ⟨_, e, _⟩ := T.obj _ _ st2 b hb; Heap.lt_size e
  have f3 : ∀ b ∈ fp, FpOk X pins (upd H2 L (.lst [])) b ∧ b < s3.heap.objs.size := fun b hb => by
    refine ⟨⟨?_, (f2 b hb).2⟩, by rw [g3, Heap.size_push]; exact Nat.lt_succ_of_lt (lt2 b hb)⟩
    rw [upd_ne (by rw [← hL]; exact Nat.ne_of_lt (lt2 b hb))]
    exact (f2 b hb).1
  have st3 : tn 0 s3.heap := T.keep _ _ _ st2 fun b _ o e => by rw [g3]; exact Heap.get?_push_of_some _ e
  have I4 := block_start I3 ok nd f3
  have pg := gg s3 (upd H2 L (.lst [])) s3.heap.objs.size (cellsFrom (s3.heap.objs.size + 1) sco.names (cloFrom X.env.cells sco.names [])) fp
  have pe := ee s3 (upd H2 L (.lst [])) s3.heap.objs.size (cellsFrom (s3.heap.objs.size + 1) sco.names (cloFrom X.env.cells sco.names [])) fp
  show codeAny _ _ (.compStart (.ListComp elt [⟨tg, iter, [], 0⟩] sco pos) 0 (.ref it) (.ref L) (compEnvC sco (cellsFrom (s3.heap.objs.size + 1) sco.names (cloFrom X.env.cells sco.names [])) s3.heap.objs.size X.env)) (compPost (model X.prog X.w) X.A X.xe (some (assign (.Name y py) X.env)) (fun _ s1 => SP X pins D .next s1) (.ref L) s3.heap.objs.size) { s3 with heap := pushCells (s3.heap.push { cls := .type "dict", data := .dict #[] }) sco.names }
  have z3 : ∀ b ∈ fp, (upd H2 L (.lst [])) b = none := fun b hb => (f3 b hb).1.1
  generalize hce : compEnvC sco (cellsFrom (s3.heap.objs.size + 1) sco.names (cloFrom X.env.cells sco.names [])) s3.heap.objs.size X.env = ce at I4 pg pe ⊢
  have cl : ce.locals = s3.heap.objs.size := by subst hce; rfl
  generalize hH3 : upd H2 L (.lst []) = H3 at I3 I4 pg pe w0 z3 f3
  generalize hs4 : ({ s3 with heap := pushCells (s3.heap.push { cls := .type "dict", data := .dict #[] }) sco.names } : Shared) = s4 at I4 ⊢
  have o4 : 1 ≤ s4.toks := by rw [← hs4]; exact o3
  have st4 : tn 0 s4.heap := T.keep _ _ _ st3 fun b _ o e => by rw [← hs4]; exact pushCells_keeps _ _ _ _ (Heap.get?_push_of_some _ e)
  have stat : ∀ {ρ : St} {G : Hp} {s' : Shared}, Inv (X.blk s3 H3 sco ce fp) [] ρ G s' → (∀ b ∈ fp, G b = none) → ∀ b ∈ fp, FpOk (X.blk s3 H3 sco ce fp) [] G b := fun {ρ G s'} I' z b hb =>
    ⟨z b hb, (I'.ok.exf b hb).1, I'.ok.exfs b hb, .inl hb, fun x c e => (I'.ok.exf b hb).2 x c e, fun p hp => absurd (show p ∈ ([] : List (Addr × Obj)) ++ [] from hp) (by simp)⟩
  have loop : codeAny (model X.prog X.w) X.A (.compLoop (.ListComp elt [⟨tg, iter, [], 0⟩] sco pos) 0 (.ref it) (.ref L) ce) (compPost (model X.prog X.w) X.A X.xe (some (assign (.Name y py) X.env)) (fun _ s1 => SP X pins D .next s1) (.ref L) s3.heap.objs.size) s4 := by
    refine compLoop_any (fun n s' => 1 ≤ s'.toks ∧ ∃ i G, Inv (X.blk s3 H3 sco ce fp) [] (wipe σ (own.map (·.2))) G s' ∧ tn i s'.heap ∧ (∀ b ∈ fp, G b = none) ∧ W i n G) ?_ m0 ⟨o4, 0, H3, I4, st4, z3, w0⟩
    rintro n s5 ⟨o5, k, H5, I5, st5, z5, w5⟩
    rcases turn k n H5 w5 with ⟨stop, fin⟩ | ⟨go, Nx, hNx, step⟩
    · refine thnF (T.done (X.blk s3 H3 sco ce fp) rfl rfl rfl calm k [] s5 _ H5 (fun _ _ => False) I5 (stat I5 z5) st5 stop) fun r s6 ⟨hr, I6⟩ => ?_
      subst hr
      have I7 : Inv X pins σ H5 s6 := I3.call' (ch := fp) I6.os I6.base I6.hok I6.bare fun b hb => ⟨(f3 b hb).1.2.2.2.1, (f3 b hb).1.2.1, (f3 b hb).1.2.2.2.2.1, (f3 b hb).1.2.2.2.2.2⟩
      have nC : H5 s3.heap.objs.size = none := by rw [← cl]; exact I6.free
      obtain ⟨m, ns, _⟩ := I6.loc
      have ns : s6.heap.Ns ce.locals m := ns
      rw [cl] at ns
      have f := I3.fpOk (Nat.le_refl _) nC
      show wpAny _ _ (assign (.Name y py) X.env (.ref L)) _ _ _
      refine wpAny_assign_Name (store_ok2 (v := V.ref L) I7 nd hy (.inl hyl) rfl (fun s8 I8 ⟨a, sb, ha⟩ => ?_) (.inr hyl))
      obtain ⟨f0, f1, f2, f3, f4, f5⟩ := f
      have ca : s3.heap.objs.size ≠ a := ha.elim (fun z => by rw [z]; exact f1) fun z e => f4 y a z e.symm
      exact ⟨m, ns.sameBut sb ca, fun h3 sb3 => ⟨_, H5, I8.turned (t' := s8.toks) (fun b o hb e => (sb3.2 b hb).trans e) f0 f1 f3 f4 f5, fin⟩⟩
    · refine thkF o5 (T.item (X.blk s3 H3 sco ce fp) rfl rfl rfl calm k [] s5 _ H5 (fun _ _ => False) I5 (stat I5 z5) st5 go) fun r s6 o6 ⟨u, hr, h6⟩ => ?_
      subst hr
      refine thkF o6 h6 fun _ s7 o7 ⟨x, H7, I7, r7, y7, st7, z7⟩ => ?_
      have Ip := I7.pinned (stat I7 z7) (T.obj _ _ st7)
      refine thkF o7 (pg.run _ s7 _ H7 x u _ Ip r7 (step x H7 y7)) fun _ s8 o8 ⟨σ8, H8, I8, hw8, q8⟩ => ?_
      have q8 : te σ8 H8 fun y H4 => ∃ acc, H4 L = some (.lst acc) ∧ acc.length < sizeLine ∧ Nx (upd H4 L (.lst (acc ++ [y]))) := q8
      refine wpAny_tests_nil ?_
      refine thkF o8 (pe _ s8 σ8 H8 _ o8 I8 q8) fun z s10 o10 ⟨yv, H10, I10, r10, acc, hD10, hz10, nx⟩ => ?_
      refine thkF o10 (app_ok (X := X.blk s3 H3 sco ce fp) (Q := fun _ s11 => Inv (X.blk s3 H3 sco ce fp) ([] ++ pinsAt fp s7.heap) σ8 (upd H10 L (.lst (acc ++ [yv]))) s11) I10 hD10 hz10 r10 fun s11 I11 => I11) fun _ s11 o11 I11 => ?_
      obtain ⟨m1, lt, w1⟩ := hNx _ nx
      have pinned : ∀ b ∈ fp, ∀ o, s7.heap.get? b = some o → s11.heap.get? b = some o ∧ (upd H10 L (.lst (acc ++ [yv]))) b = none := fun b hb o e =>
        let z := I11.pin (b, o) (List.mem_append_right _ (List.mem_append_right _ (mem_pinsAt hb e)))
        ⟨z.1, z.2.1⟩
      have len : (wipe σ (own.map (·.2))).length = σ8.length := by rw [← hw8, wipe_length]
      refine ⟨m1, lt, o11, k + 1, _, (I11.unpinned (pins := [])).weak len (fun j v e => ?_), T.keep _ _ _ st7 fun b hb o e => (pinned b hb o e).1, fun b hb => ?_, w1⟩
      · rw [← hw8] at e
        exact (wipe_some e).1
      · obtain ⟨o, e, _⟩ := T.obj _ _ st7 b hb
        exact (pinned b hb o e).2
  exact codeAny_compStart_list loop (T.self X.A 0 _ _ _ st4 loop)
end
end L2

set_option Elab.async false
set_option linter.all false
set_option maxRecDepth 100000
set_option maxHeartbeats 4000000
/-! loops over what is a list or a tuple, as it stood when the loop began -/
namespace L2
open PySem PySem.Spec PyProof.Rows
theorem SqE.same {K : PySem.W.Frag} {H G : Hp} {a : Addr} {xs : List V} (h : SqE K H a xs) (s : Same H G) : SqE K G a xs := h.elim (fun h => .inl (s.seq h)) fun h => .inr (SqT.ext h s)
theorem SqE.ix {K : PySem.W.Frag} {H : Hp} {a : Addr} {xs : List V} (h : SqE K H a xs) {i : Int} {j : Nat} {v : V} {Q : VK} (hi : i = (j : Int)) (hj : xs[j]? = some v) (q : Q v H) : rIx K (.ref a) (.int i) H Q :=
  h.elim (fun h => .inl ⟨a, xs, i, v, rfl, rfl, h, at_of hi hj, q⟩) fun h => .inr (.inl ⟨a, xs, i, v, rfl, rfl, h, at_of hi hj, q⟩)
section
variable {K : PySem.W.Frag} {a : Addr} {xs : List V} {g : TG} {H0 : Hp}
theorem enumE {tb : TS} {D : Ends} {σ : St} (hq : SqE K H0 a xs) (Pv : Nat → St → Hp → Prop) (same : ∀ i ρ H, Pv i ρ H → Same H0 H) (h0 : Pv 0 σ H0)
    (hs : ∀ i x ρ H T, xs[i]? = some x → Pv i ρ H → H T = none → g (.ref T) ρ (upd H T (.tup [.int (i : Nat), x])) fun ρ2 H2 => tb { D with nx := Pv (i + 1), ct := Pv (i + 1), bk := D.nx } ρ2 H2) (hd : ∀ ρ H, Pv xs.length ρ H → D.nx ρ H) :
    (SqL K H0 a xs ∧ tForR g tb D σ (Ite K a) H0) ∨ (SqT K H0 a xs ∧ tForR g tb D σ (Itf K a) H0) := by
  rcases hq with q | q
  · refine .inl ⟨q, fun i m ρ H => m = xs.length - i ∧ i ≤ xs.length ∧ Pv i ρ H, ⟨xs.length, by simp, Nat.zero_le _, h0⟩, ?_⟩
    rintro i m ρ H ⟨rfl, hi, p⟩
    have q1 := (same i ρ H p).seq q
    by_cases lt : i < xs.length
    · refine .inr ⟨⟨xs, xs[i], q1, by simp [lt]⟩, Pv (i + 1), fun ρ1 H1 p1 => ⟨xs.length - (i + 1), by omega, rfl, lt, p1⟩, fun x H1 y => ?_⟩
      obtain ⟨T, z, rfl, n, rfl, y⟩ := y
      exact hs i z ρ H T (y xs q1) p n
    · have e : i = xs.length := by omega
      subst e
      exact .inl ⟨⟨xs, q1, Nat.le_refl _⟩, hd ρ H p⟩
  · refine .inr ⟨q, fun i m ρ H => m = xs.length - i ∧ i ≤ xs.length ∧ Pv i ρ H, ⟨xs.length, by simp, Nat.zero_le _, h0⟩, ?_⟩
    rintro i m ρ H ⟨rfl, hi, p⟩
    have q1 := SqT.ext q (same i ρ H p)
    by_cases lt : i < xs.length
    · refine .inr ⟨⟨xs, xs[i], q1, by simp [lt]⟩, Pv (i + 1), fun ρ1 H1 p1 => ⟨xs.length - (i + 1), by omega, rfl, lt, p1⟩, fun x H1 y => ?_⟩
      obtain ⟨T, z, rfl, n, rfl, y⟩ := y
      exact hs i z ρ H T (y xs q1) p n
    · have e : i = xs.length := by omega
      subst e
      exact .inl ⟨⟨xs, q1, rfl⟩, hd ρ H p⟩
variable {tt : TT} {te : TE} {vs : List Nat} {σ : St} {Q : Addr → Hp → Prop}
/-- what a comprehension asks of its turns -/
def tLcR (g : TG) (tt : TT) (te : TE) (vs : List Nat) (σ : St) (Q : Addr → Hp → Prop) : It → Hp → Prop := fun J H1 => ∀ D, H1 D = none → ∃ W : Nat → Nat → Hp → Prop, (∃ m, W 0 m (upd H1 D (.lst []))) ∧ ∀ i m G, W i m G →
  (J.stop i G ∧ Q D G) ∨ (J.go i G ∧ ∃ Nx : Hp → Prop, (∀ G1, Nx G1 → ∃ m1, m1 < m ∧ W (i + 1) m1 G1) ∧ ∀ x G1, J.yld i G x G1 → g x (wipe σ vs) G1 fun σ2 H2 => wipe σ2 vs = wipe σ vs ∧ tt σ2 H2 fun b H3 =>
    if b = true then te σ2 H3 fun y H4 => ∃ acc, H4 D = some (.lst acc) ∧ acc.length < sizeLine ∧ Nx (upd H4 D (.lst (acc ++ [y]))) else Nx H3)
theorem lc_enumE (hq : SqE K H0 a xs) (Pv : Addr → Nat → Hp → Prop) (same : ∀ D i H, Pv D i H → Same H0 H) (h0 : ∀ D, H0 D = none → Pv D 0 (upd H0 D (.lst [])))
    (hs : ∀ D i x H T, H0 D = none → xs[i]? = some x → Pv D i H → H T = none → g (.ref T) (wipe σ vs) (upd H T (.tup [.int (i : Nat), x])) fun σ2 H2 => wipe σ2 vs = wipe σ vs ∧ tt σ2 H2 fun b H3 =>
      if b = true then te σ2 H3 fun y H4 => ∃ acc, H4 D = some (.lst acc) ∧ acc.length < sizeLine ∧ Pv D (i + 1) (upd H4 D (.lst (acc ++ [y]))) else Pv D (i + 1) H3)
    (hd : ∀ D H, H0 D = none → Pv D xs.length H → Q D H) :
    (SqL K H0 a xs ∧ tLcR g tt te vs σ Q (Ite K a) H0) ∨ (SqT K H0 a xs ∧ tLcR g tt te vs σ Q (Itf K a) H0) := by
  rcases hq with q | q
  · refine .inl ⟨q, fun D hD => ⟨fun i m H => m = xs.length - i ∧ i ≤ xs.length ∧ Pv D i H, ⟨xs.length, by simp, Nat.zero_le _, h0 D hD⟩, ?_⟩⟩
    rintro i m H ⟨rfl, hi, p⟩
    have q1 := (same D i H p).seq q
    by_cases lt : i < xs.length
    · refine .inr ⟨⟨xs, xs[i], q1, by simp [lt]⟩, Pv D (i + 1), fun H1 p1 => ⟨xs.length - (i + 1), by omega, rfl, lt, p1⟩, fun x H1 y => ?_⟩
      obtain ⟨T, z, rfl, n, rfl, y⟩ := y
      exact hs D i z H T hD (y xs q1) p n
    · have e : i = xs.length := by omega
      subst e
      exact .inl ⟨⟨xs, q1, Nat.le_refl _⟩, hd D H hD p⟩
  · refine .inr ⟨q, fun D hD => ⟨fun i m H => m = xs.length - i ∧ i ≤ xs.length ∧ Pv D i H, ⟨xs.length, by simp, Nat.zero_le _, h0 D hD⟩, ?_⟩⟩
    rintro i m H ⟨rfl, hi, p⟩
    have q1 := SqT.ext q (same D i H p)
    by_cases lt : i < xs.length
    · refine .inr ⟨⟨xs, xs[i], q1, by simp [lt]⟩, Pv D (i + 1), fun H1 p1 => ⟨xs.length - (i + 1), by omega, rfl, lt, p1⟩, fun x H1 y => ?_⟩
      obtain ⟨T, z, rfl, n, rfl, y⟩ := y
      exact hs D i z H T hD (y xs q1) p n
    · have e : i = xs.length := by omega
      subst e
      exact .inl ⟨⟨xs, q1, rfl⟩, hd D H hD p⟩
theorem lc_E (hq : SqE K H0 a xs) (Pv : Addr → Nat → Hp → Prop) (same : ∀ D i H, Pv D i H → Same H0 H) (h0 : ∀ D, H0 D = none → Pv D 0 (upd H0 D (.lst [])))
    (hs : ∀ D i x H, H0 D = none → xs[i]? = some x → Pv D i H → g x (wipe σ vs) H fun σ2 H2 => wipe σ2 vs = wipe σ vs ∧ tt σ2 H2 fun b H3 =>
      if b = true then te σ2 H3 fun y H4 => ∃ acc, H4 D = some (.lst acc) ∧ acc.length < sizeLine ∧ Pv D (i + 1) (upd H4 D (.lst (acc ++ [y]))) else Pv D (i + 1) H3)
    (hd : ∀ D H, H0 D = none → Pv D xs.length H → Q D H) :
    (SqL K H0 a xs ∧ tLcR g tt te vs σ Q (Itl K a) H0) ∨ (SqT K H0 a xs ∧ tLcR g tt te vs σ Q (Itt K a) H0) := by
  rcases hq with q | q
  · refine .inl ⟨q, fun D hD => ⟨fun i m H => m = xs.length - i ∧ i ≤ xs.length ∧ Pv D i H, ⟨xs.length, by simp, Nat.zero_le _, h0 D hD⟩, ?_⟩⟩
    rintro i m H ⟨rfl, hi, p⟩
    have q1 := (same D i H p).seq q
    by_cases lt : i < xs.length
    · refine .inr ⟨⟨xs, xs[i], q1, by simp [lt]⟩, Pv D (i + 1), fun H1 p1 => ⟨xs.length - (i + 1), by omega, rfl, lt, p1⟩, fun x H1 y => ?_⟩
      obtain ⟨e, y⟩ := y
      subst e
      exact hs D i x _ hD (y xs q1) p
    · have e : i = xs.length := by omega
      subst e
      exact .inl ⟨⟨xs, q1, Nat.le_refl _⟩, hd D H hD p⟩
  · refine .inr ⟨q, fun D hD => ⟨fun i m H => m = xs.length - i ∧ i ≤ xs.length ∧ Pv D i H, ⟨xs.length, by simp, Nat.zero_le _, h0 D hD⟩, ?_⟩⟩
    rintro i m H ⟨rfl, hi, p⟩
    have q1 := SqT.ext q (same D i H p)
    by_cases lt : i < xs.length
    · refine .inr ⟨⟨xs, xs[i], q1, by simp [lt]⟩, Pv D (i + 1), fun H1 p1 => ⟨xs.length - (i + 1), by omega, rfl, lt, p1⟩, fun x H1 y => ?_⟩
      obtain ⟨e, y⟩ := y
      subst e
      exact hs D i x _ hD (y xs q1) p
    · have e : i = xs.length := by omega
      subst e
      exact .inl ⟨⟨xs, q1, Nat.le_refl _⟩, hd D H hD p⟩
end
theorem enum_read {K : PySem.W.Frag} {i : Nat} {a : Addr} {xs : List V} {σ : St} {H : Hp} {R : It → Hp → Prop} (hσ : σ[i]? = some (some (.ref a))) (h : (SqL K H a xs ∧ R (Ite K a) H) ∨ (SqT K H a xs ∧ R (Itf K a) H)) :
    iEnum K (tCons (tVar i) tNil) σ H R ∨ iEnumF K (tCons (tVar i) tNil) σ H R :=
  h.elim (fun h => .inl ⟨_, hσ, a, xs, rfl, h.1, h.2⟩) fun h => .inr ⟨_, hσ, a, xs, rfl, h.1, h.2⟩
theorem seq_read {K : PySem.W.Frag} {i : Nat} {a : Addr} {xs : List V} {σ : St} {H : Hp} {R : It → Hp → Prop} (hσ : σ[i]? = some (some (.ref a))) (h : (SqL K H a xs ∧ R (Itl K a) H) ∨ (SqT K H a xs ∧ R (Itt K a) H)) :
    iList K (tVar i) σ H R ∨ iTup K (tVar i) σ H R :=
  h.elim (fun h => .inl ⟨_, hσ, a, rfl, ⟨xs, h.1⟩, h.2⟩) fun h => .inr ⟨_, hσ, a, rfl, ⟨xs, h.1⟩, h.2⟩
/-- a pair as a comprehension's target: K told -/
theorem pg_tupK {X : Cx} {K : PySem.W.Frag} {es : List Expr} {k : Nat} {t : TGs} {n : Nat} {pos : Pos} (hK : X.K = K) (hc : X.calm = true) (h : PGs X es t)
    (hn : (assignEach es X.env).length = n := by rfl) (hst : (assignEach es X.env).findIdx? (·.1) = none := by rfl) : PG X (.Tuple es k pos) (gTup K n t) := by
  subst hK
  exact pg_tup hc h hn hst
theorem CallR.imp {X : Cx} {f : Value} {r q : List V → Hp → VK → Prop} (h : CallR X f r) (i : ∀ xs H Q, q xs H Q → r xs H Q) : CallR X f q := fun pins s σ H xs us Q I rs hq => h pins s σ H xs us Q I rs (i xs H Q hq)
theorem same_new' {H : Hp} {p : Addr} {o : HO} (h : H p = none) : Same H (upd H p o) := fun b u e => by rw [upd_ne (ne_of_none e h)]; exact e
/-- tuple(x), x a list or a tuple -/
theorem call_tupE {X : Cx} : CallR X (.type "tuple") (fun xs H Q => ∃ a ys, xs = [.ref a] ∧ SqE X.K H a ys ∧ ∀ p G, Same H G → SqT X.K G p ys → Q (.ref p) G) :=
  CallR.imp call_tuple_of fun xs H Q h => by
    obtain ⟨a, ys, e, h, q⟩ := h
    refine ⟨a, ys, e, ?_⟩
    rcases h with h | h
    · exact .inl ⟨h, fun l nl => q l _ (same_new' nl) (SqT.of upd_same)⟩
    · exact .inr ⟨h, q a H (Same.refl H) h⟩
/-- max(x), x a list or a tuple of whole numbers -/
theorem cr_maxE {X : Cx} (hc : X.calm = true) : CallR X (.builtin "max") (fun xs H Q => ∃ (a : Addr) (ns : List Int), xs = [.ref a] ∧ SqE X.K H a (ns.map V.int) ∧ 0 < ns.length ∧ ∀ m, m ∈ ns → (∀ y, y ∈ ns → y ≤ m) → Q (.int m) H) :=
  CallR.imp (cr_or (cr_max hc) (cr_maxT hc)) fun xs H Q h => by
    obtain ⟨a, ns, e, h, n, q⟩ := h
    rcases h with h | h
    · exact .inl ⟨a, ns, e, h, n, q⟩
    · exact .inr ⟨a, ns, e, h, n, q⟩
end L2

set_option Elab.async false
set_option linter.all false
set_option maxRecDepth 100000
set_option maxHeartbeats 4000000
/-! Exceptions of the program as values: made, their fields read, asked by isinstance. -/
namespace XV
open PySem PySem.Spec PyProof.Rows L2
section
variable {X : Cx} {e : Expr} {es : List Expr} {te : TE} {ta : TA} {x : Str} {p1 p2 pos : Pos}
/-- what the written part says of the base class of the errors, at CJ: its __init__ is ValueError's -/
structure BaseC (K : PySem.W.Frag) (CJ : Addr) : Prop where
  rd : PySem.W.readsIn K CJ (.type "type") = true
  ga : PySem.W.specialIn K (.ref CJ) "__getattribute__" = some (some (.builtin "type.__getattribute__"))
  ini : PySem.W.findCls K (.ref CJ) (.type "type") "__init__" = some (.val (.builtin "ValueError.__init__"))
/-- B.__init__(self, ..), B an own class over ValueError without an __init__ of its own -/
theorem pe_binit {CJ : Addr} {pl : Sem Bool} (B : BaseC X.K CJ) (hg : Gl X x) (hm : X.mg x = some (.ref CJ)) (ha : PA X (e :: es) ta)
    (hdb : (x == ("__debug__" : Str)) = false := by decide)
    (hc : eval (.Call (.Attribute (.Name x p1) "__init__" p2) (e :: es) [] pos) X.env = (do
      let ov ← eval (.Name x p1) X.env
      standAt p2.atName
      let (f, first) ← holding [ov] (getMethod ov "__init__" pl)
      callWith pos f first (backTo pos (starEach (e :: es) X.env)) (backToKw pos (keywordEach [] X.env))) := by rfl)
    (he : starEach (e :: es) X.env = (false, eval e X.env) :: starEach es X.env := by rfl) (hpl : (backTo pos (starEach es X.env)).any (·.1) = false := by rfl) :
    PE X (.Call (.Attribute (.Name x p1) "__init__" p2) (e :: es) [] pos) (tVeI X.K ta) := by
  refine ⟨fun pins s σ H Q I h => PySem.W.methodCall_KW (ld_glob I hg hm (PySem.W.method_cls I.kIn B.ga (PySem.W.cls_value I.kIn B.rd B.ini (by decide +kernel) ?_)) hdb) hc⟩
  refine PyProof.Rows.callWith_method1 (thn (ha.run pos pins _ σ H _ (I.tok _) h) fun us s1 ⟨vs, H1, I1, r1, a, C, ws, ev, hl, T, ea, q⟩ => ?_) he hpl
  subst ev
  cases r1 with
  | @cons _ u0 _ ur ra rw' =>
    obtain rfl : u0 = Value.ref a := ra
    have hlen : ur.length ≤ sizeLine := by
      rw [← Paired.length rw', sizeLine_eq]; omega
    exact oinit_ok T I1 ea hlen fun s' J => ⟨.non, H1, J, rfl, q⟩
end
end XV

set_option Elab.async false
set_option linter.all false
set_option maxRecDepth 100000
set_option maxHeartbeats 4000000
/-! an own error class called with keywords: type.__call__, BaseException.__new__, then its own __init__ -/
namespace XV
open PySem PySem.Spec PySem.HandSPX PySem.Calls
open Builtin Builtin.ObjectAttr
section
variable {M : Model} {prog : Program} {w : World} {A : Around} {E : Value → Shared → Prop} {R : Result → Shared → Prop} {hp : Heap} {gs : Array GenState} {dr : Drawn} {tk : Nat} {os : OsState}
variable {nm q : Str} {C N : Addr} {bs bm bmB : List Value} {hdct : Bool} {sn : List Str} {sub : List Value} {ab : Bool} {col : Option Bool} {dd : Option Addr} {k0 k1 k2 k3 k5 : Option Value} {B newId initId : String}
variable {vs : List Value} {kw : List (Str × Value)}
theorem newCheckK (F : ExcBaseFacts B newId initId bmB) (tl : ∀ X : String, bm.contains (.type X) = bmB.contains (.type X)) {Q : Unit → Shared → Prop}
    (oC : hp.get? C = some (excClassObj nm q C N bs bm hdct sn sub ab col dd k0 k1 k2 k3 k5 newId)) (hq : Q () ⟨hp, gs, dr, tk, os⟩) :
    wpAny M A (checkBuiltinCall newId ⟨.ref C :: vs, kw⟩) Q E ⟨hp, gs, dr, tk, os⟩ := by
  have c1 : (Value.ref C :: bm).contains (.type B) = true := by rw [List.contains_cons, tl, F.hasB, Bool.or_true]
  have c2 := F.noStar
  simp only [checkBuiltinCall, F.newKind, F.newSplit, F.newRow]
  repeat (first
    | refine wpAny_loadPart_at oC ?_
    | (refine wpAny_isSubtype_exc oC ?_; rw [c1])
    | refine wpAny_staticBase_exc oC ?_
    | refine wpAny_madeBy_exc oC ?_
    | simp only [bne_self_eq_false, Bool.false_eq_true, if_false]
    | wp_step)
  exact hq
theorem newK (F : ExcBaseFacts B newId initId bmB) (tl : ∀ X : String, bm.contains (.type X) = bmB.contains (.type X))
    (oC : hp.get? C = some (excClassObj nm q C N bs bm hdct sn sub ab col dd k0 k1 k2 k3 k5 newId))
    (hq : R (.ok (.ret (.ref (hp.objs.size + 1)))) ⟨(hp.push (W.kdv_tup vs)).push (excO C hp.objs.size), gs, dr, tk, os⟩) (hl : vs.length ≤ sizeLine) :
    codeAny (model prog w) A (.builtin newId ⟨.ref C :: vs, kw⟩) R ⟨hp, gs, dr, tk, os⟩ := by
  have en := F.ends
  have cB : (Value.ref C :: bm).contains (.type B) = true := by rw [List.contains_cons, tl, F.hasB, Bool.or_true]
  have cA : (Value.ref C :: bm).contains (.type "AttributeError") = false := by
    rw [List.contains_cons, tl, F.noAttr]; rfl
  have cN : (Value.ref C :: bm).contains (.type "NameError") = false := by
    rw [List.contains_cons, tl, F.noName]; rfl
  refine codeAny_builtinAt F.entry ?_
  unfold Builtin.«BaseException.__new__»
  refine wpAt_bind ?_
  show wpAt _ _ _ (stack >>= _) _ _ _
  refine wpAt_bind (wpAt_stack fun p below => wpAt_of_wpAny ?_)
  wp_walk
  refine wpAt_of_wpAny ?_
  rw [F.owner]
  repeat (first
    | with_reducible refine wpAny_madeHere_exc F.canon oC ?_
    | with_reducible refine wpAny_loadPart_at oC ?_
    | (with_reducible refine wpAny_isSubtype_exc oC ?_; first | rw [cB] | rw [cA] | rw [cN])
    | wp_step)
  show R _ _
  rw [Heap.size_push]
  exact hq
theorem typeCallK (F : ExcBaseFacts B newId initId bmB) (tl : ∀ X : String, bm.contains (.type X) = bmB.contains (.type X)) {fI : Addr} {Q : Fin → Shared → Prop}
    (oC : hp.get? C = some (excClassObj nm q C N bs bm hdct sn sub ab col dd k0 k1 k2 k3 k5 newId))
    (li : W.Looks (model prog w) hp (typeLookup (.ref C) "__init__") (some (.ref fI))) (lb : ∀ self, W.Looks (model prog w) hp (bindSpecial (.ref fI) self) (.ref fI, [self])) (hl : vs.length ≤ sizeLine)
    (hq : codeAny (model prog w) A (.call (.ref fI) ⟨.ref (hp.objs.size + 1) :: vs, kw⟩)
      (fun r s' => match r with | .ok (.ret v) => v = .none ∧ Q (.done (.ret (.ref (hp.objs.size + 1)))) s' | .ok _ => False | .error e => E e s')
      ⟨(hp.push (W.kdv_tup vs)).push (excO C hp.objs.size), gs, dr, tk, os⟩) :
    wpAny (model prog w) A (Builtin.«type.__call__» ⟨.ref C :: vs, kw⟩) Q E ⟨hp, gs, dr, tk, os⟩ := by
  repeat (first | with_reducible refine wpAny_loadPart_at oC ?_ | with_reducible refine wpAny_madeBy_exc oC ?_ | wp_step)
  refine codeAny_call_builtin_code (Code.quiet_builtin _ F.quiet) (newCheckK F tl oC ?_)
  refine newK F tl oC ?_ hl
  show wpAny _ _ _ _ _ _
  have kp : ∀ b o, hp.get? b = some o → ((hp.push (W.kdv_tup vs)).push (excO C hp.objs.size)).get? b = some o := fun b o e =>
    Heap.get?_push_of_some _ (Heap.get?_push_of_some _ e)
  have oC1 := kp _ _ oC
  have oX : ((hp.push (W.kdv_tup vs)).push (excO C hp.objs.size)).get? (hp.objs.size + 1) = some (excO C hp.objs.size) := by heap_get
  have cC : (Value.ref C :: bm).contains (.ref C) = true := by simp
  have l1 := li.keeps kp
  have l2 := (lb (.ref (hp.objs.size + 1))).keeps kp
  unfold isInstance
  repeat (first | with_reducible refine wpAny_loadPart_at oX ?_ | (with_reducible refine wpAny_isSubtype_exc oC1 ?_; rw [cC]) | wp_step)
  show wpAny _ _ (typeLookup (.ref C) _) _ _ _
  refine l1.at ?_
  refine wpAny_holding (wpAny_bind (l2.at ?_))
  refine wpAny_bind (wpAny_call (codeAny_mono hq fun r s' z => ?_))
  rcases r with e | (v | _ | _ | _) <;> first | exact z | exact z.elim | skip
  obtain ⟨rfl, z⟩ := z
  first
    | exact wpAny_pure (wpAny_pure z)
    | (wp_walk; exact z)
theorem callK (F : ExcBaseFacts B newId initId bmB) (tl : ∀ X : String, bm.contains (.type X) = bmB.contains (.type X)) {fI : Addr}
    (oC : hp.get? C = some (excClassObj nm q C N bs bm hdct sn sub ab col dd k0 k1 k2 k3 k5 newId))
    (li : W.Looks (model prog w) hp (typeLookup (.ref C) "__init__") (some (.ref fI))) (lb : ∀ self, W.Looks (model prog w) hp (bindSpecial (.ref fI) self) (.ref fI, [self])) (hl : vs.length ≤ sizeLine)
    (hq : codeAny (model prog w) (A.under (.builtin "type.__call__" ⟨.ref C :: vs, kw⟩)) (.call (.ref fI) ⟨.ref (hp.objs.size + 1) :: vs, kw⟩) (W.InitBack (hp.objs.size + 1) R)
      ⟨(hp.push (W.kdv_tup vs)).push (excO C hp.objs.size), gs, dr, tk, os⟩) :
    codeAny (model prog w) A (.call (.ref C) ⟨vs, kw⟩) R ⟨hp, gs, dr, tk, os⟩ := by
  have f1 := tc_lookup
  have f2 := tc_bind (.ref C)
  have ty : (⟨hp, gs, dr, tk, os⟩ : Shared).TypeIs (.ref C) "type" := ⟨_, oC, rfl⟩
  refine codeAny_of_tree ?_
  show wpAny _ _ (callAny (.ref C) _) _ _ _
  repeat (any_goals (first | assumption | with_reducible refine wpAny_loadPart_at oC ?_ | wp_step))
  refine ⟨rfl, ?_⟩
  refine codeAny_call_builtin_at (Code.quiet_builtin _ (by decide +kernel)) entry_typeCall (wpAny_check_type_call_sub oC (typeCallK F tl oC li lb hl ?_))
  refine codeAny_mono hq fun r s' z => ?_
  rcases r with e | (v | _ | _ | _) <;> exact z
end
end XV

set_option Elab.async false
set_option linter.all false
set_option maxRecDepth 100000
set_option maxHeartbeats 4000000
/-! own errors with an __init__ of their own, made as values -/
namespace XV
open PySem PySem.Spec PyProof.Rows L2
/-- what the written part says of an error class at C: its own __init__ at fI -/
structure ErrC (K : PySem.W.Frag) (C fI : Addr) : Prop where
  T : OexC K C
  iC : PySem.W.findIn K (.ref C) "__init__" = some (some (.ref fI))
  tI : PySem.W.typeIn K (.ref fI) = some (.type "function")
section
variable {X : Cx} {CX : CXT} {k n : Nat} {C fI : Addr} {fd : FuncData} {ps ks : List Str} {sp : Sp} {E : XK} {x : Str} {p pos : Pos} {e : Expr} {es : List Expr} {kws : List Keyword} {ta tk : TA} {g : List Value → List Value → List Value} {gV : List V → List V → List V}
theorem run_err {pins : List (Addr × Obj)} {σ : L2.St} {H : Hp} {s : Shared} {Q : VK} {us ws : List Value} {vs zs : List V} (D : ErrC X.K C fI) (F : FnOk X.prog X.w X.K X.mg X.base CX k fI fd ps sp) (hr : Room (k + 1) X.A)
    (hb : KBn X.K fd ps (n + 1) ks g gV) (hx : Passes CX X E) (I : Inv X pins σ H s) (r : Vals vs us) (rz : Vals zs ws) (l1 : vs.length = n) (l2 : zs.length = ks.length) (ln : n ≤ 1000)
    (h : ∀ a, H a = none → sp (gV (.ref a :: vs) zs) (upd H a (exo a C none)) (fun v H2 => v = .non ∧ Q (.ref a) H2) E) :
    wpAny (model X.prog X.w) X.A (call (.ref C) us (ks.zip ws)) (EP X pins σ Q) X.xe s := by
  obtain ⟨nm, q, N, bs, bm, sn, sub, ab, col, dd, k0, k1, k2, k3, k5, oC, mC⟩ := D.T.cls
  obtain ⟨hp, gs, dr, t0, os⟩ := s
  have old : ∀ b o, hp.get? b = some o → ((hp.push (PySem.W.kdv_tup us)).push (PySem.HandSPX.excO C hp.objs.size)).get? b = some o := fun b o z =>
    Heap.get?_push_of_some _ (Heap.get?_push_of_some _ z)
  have new : ((hp.push (PySem.W.kdv_tup us)).push (PySem.HandSPX.excO C hp.objs.size)).get? (hp.objs.size + 1) = some (PySem.HandSPX.excO C hp.objs.size) := by heap_get
  have sz : hp.objs.size ≤ hp.objs.size + 1 := Nat.le_succ _
  have hq := h (hp.objs.size + 1) (I.hok.fresh sz)
  have I2 := I.laid (t' := t0) (a := hp.objs.size + 1) (o := exo (hp.objs.size + 1) C none) (h' := (hp.push (PySem.W.kdv_tup us)).push (PySem.HandSPX.excO C hp.objs.size)) old sz (exo_ok new)
  have r1 : Vals (V.ref (hp.objs.size + 1) :: vs) (Value.ref (hp.objs.size + 1) :: us) := .cons rfl r
  have e1 : (Value.ref (hp.objs.size + 1) :: us).length = n + 1 := r1.length.symm.trans (congrArg Nat.succ l1)
  have e2 : ws.length = ks.length := rz.length.symm.trans l2
  have hus : us.length ≤ sizeLine := by
    rw [← Paired.length r, l1, sizeLine_eq]; omega
  refine wpAny_call (callK PySem.F.excBase_ValueError (fun Y => PySem.HandSPX.refsVE_contains Y bm mC) (I.kIn _ _ oC) (PySem.W.looks_findIn I.kIn D.iC) (fun self => PySem.W.bind_fn I.kIn self D.tI) hus ?_)
  refine codeAny_mono (F.run _ X.stack _ _ ⟨Value.ref (hp.objs.size + 1) :: us, ks.zip ws⟩ (g (Value.ref (hp.objs.size + 1) :: us) ws) _ _ E (hr.make C us (ks.zip ws)) (I2.env0.make C us (ks.zip ws))
    (hb.to _ _ ws I2.kIn e1 e2) (hb.rel r1 rz) hq) fun res s' z => ?_
  cases res with
  | error er => exact hx pins σ _ _ er s' I2 z
  | ok fl =>
    cases fl with
    | ret u =>
      obtain ⟨v, H2, I3, rv, ev, q3⟩ := I2.after z
      subst ev
      exact ⟨rv, ⟨V.ref (hp.objs.size + 1), H2, I3, rfl, q3⟩⟩
    | next => exact False.elim z
    | brk => exact False.elim z
    | cont => exact False.elim z
/-- C(e, ..) -/
def tErr (C : Addr) (n : Nat) (sp : Sp) (gV : List V → List V → List V) (E : XK) (ta : TA) : TE := fun σ H Q => ta σ H fun vs H1 => vs.length = n ∧
  ∀ a, H1 a = none → sp (gV (.ref a :: vs) []) (upd H1 a (exo a C none)) (fun v H2 => v = .non ∧ Q (.ref a) H2) E
/-- C(k = e, ..) -/
def tErrK (C : Addr) (m : Nat) (sp : Sp) (gV : List V → List V → List V) (E : XK) (tk : TA) : TE := fun σ H Q => tk σ H fun zs H1 => zs.length = m ∧
  ∀ a, H1 a = none → sp (gV [.ref a] zs) (upd H1 a (exo a C none)) (fun v H2 => v = .non ∧ Q (.ref a) H2) E
theorem pe_err (D : ErrC X.K C fI) (F : FnOk X.prog X.w X.K X.mg X.base CX k fI fd ps sp) (hr : Room (k + 1) X.A) (hg : Gl X x) (hm : X.mg x = some (.ref C)) (hb : KBn X.K fd ps (n + 1) [] g gV) (hx : Passes CX X E) (ha : PA X (e :: es) ta) (ln : n ≤ 1000)
    (hdb : (x == ("__debug__" : Str)) = false := by decide) (he : starEach (e :: es) X.env = (false, eval e X.env) :: starEach es X.env := by rfl) (hpl : (backTo pos (starEach es X.env)).any (·.1) = false := by rfl) :
    PE X (.Call (.Name x p) (e :: es) [] pos) (tErr C n sp gV E ta) :=
  ⟨fun pins s σ H Q I h => wpAny_Call_Name_kw (ld_glob I hg hm (PySem.W.callWith_K (h₀ := X.base) I.ok.mod.kin D.T.kC
    (thn (ha.run pos pins s σ H _ I h) fun us s1 ⟨vs, H1, I1, r, l1, q⟩ => ⟨I1.kIn, run_err (ws := []) (zs := []) D F hr hb hx I1 r .nil l1 rfl ln q⟩) he hpl) hdb)⟩
theorem pe_err0 (D : ErrC X.K C fI) (F : FnOk X.prog X.w X.K X.mg X.base CX k fI fd ps sp) (hr : Room (k + 1) X.A) (hg : Gl X x) (hm : X.mg x = some (.ref C)) (hb : KBn X.K fd ps 1 [] g gV) (hx : Passes CX X E) (hdb : (x == ("__debug__" : Str)) = false := by decide) :
    PE X (.Call (.Name x p) [] [] pos) (tErr C 0 sp gV E tNil) :=
  ⟨fun pins s σ H Q I h => wpAny_Call_Name_kw (ld_glob I hg hm (PySem.W.callWith_K0 I.kIn D.T.kC (run_err (us := []) (vs := []) (ws := []) (zs := []) D F hr hb hx I .nil .nil rfl rfl (Nat.zero_le _) h.2)) hdb)⟩
theorem pe_errK (D : ErrC X.K C fI) (F : FnOk X.prog X.w X.K X.mg X.base CX k fI fd ps sp) (hr : Room (k + 1) X.A) (hg : Gl X x) (hm : X.mg x = some (.ref C)) (hb : KBn X.K fd ps 1 ks g gV) (hx : Passes CX X E) (hkw : PK X kws tk)
    (hall : (backToKw pos (keywordEach kws X.env)).all (·.1.isSome) = true := by rfl) (hks : (backToKw pos (keywordEach kws X.env)).filterMap (·.1) = ks := by rfl) (hdb : (x == ("__debug__" : Str)) = false := by decide)
    (hpl : ((backTo pos (starEach [] X.env)).any (·.1) || (backToKw pos (keywordEach kws X.env)).any (·.1.isNone)) = false := by rfl) :
    PE X (.Call (.Name x p) [] kws pos) (tErrK C ks.length sp gV E tk) := by
  refine ⟨fun pins s σ H Q I h => wpAny_Call_Name_kw (ld_glob I hg hm (PySem.W.callWith_KW0 (h₀ := X.base) I.ok.mod.kin D.T.kC hall (thn (hkw.run pos pins s σ H _ I h) fun ws s1 ⟨zs, H1, I1, rz, l2, q⟩ => ⟨I1.kIn, ?_⟩) hpl) hdb)⟩
  rw [hks]
  exact run_err (us := []) (vs := []) D F hr hb hx I1 .nil rz rfl l2 (Nat.zero_le _) q
end
end XV

set_option Elab.async false
set_option linter.all false
set_option maxRecDepth 100000
set_option maxHeartbeats 4000000
/-! errors as values: a field read, isinstance; repr of a list of small data -/
namespace XV
open PySem PySem.Spec PyProof.Rows L2
/-- what the class at D must say, so that its instances' fields are read and isinstance asks them -/
structure ErrR (K : PySem.W.Frag) (D : Addr) : Prop where
  ga : PySem.W.findIn K (.ref D) "__getattribute__" = some (some (.builtin "BaseException.__getattribute__"))
  gt : PySem.W.findIn K (.ref D) "__getattr__" = some none
  sb : PySem.W.subIn K (.ref D) (.type "BaseException") = some true
  hd : PySem.W.hasDictIn K D = true
  ca : PySem.W.findIn K (.ref D) "__class__" = some (some (.builtin "object.__class__"))
  cg : PySem.W.specialIn K (.builtin "object.__class__") "__get__" = some (some (.builtin "getset_descriptor.__get__"))
  ct : PySem.W.takesIn K (.builtin "object.__class__") = some true
  mo : PySem.W.mroIn K D (.type "object") = some true
theorem ErrR.cl {K : PySem.W.Frag} {D : Addr} (R : ErrR K D) : (PySem.W.clsIn K D).isSome = true := by
  obtain ⟨cd, h, _⟩ := PySem.W.any_some R.hd
  rw [h]; rfl
/-- an error of the class at D stands at a, with the fields fs -/
def ErrAt (H : Hp) (a D : Addr) (fs : List (Str × V)) : Prop :=
  (fs = [] ∧ H a = some (exo a D none)) ∨ ∃ dx, H a = some (exo a D (some dx)) ∧ H dx = some (exd dx fs)
theorem ErrAt.same {H H' : Hp} {a D : Addr} {fs : List (Str × V)} (h : ErrAt H a D fs) (s : Same H H') : ErrAt H' a D fs := by
  rcases h with ⟨e, h⟩ | ⟨dx, h1, h2⟩
  · exact .inl ⟨e, s _ _ h⟩
  · exact .inr ⟨dx, s _ _ h1, s _ _ h2⟩
section
variable {X : Cx} {pins : List (Addr × Obj)} {σ : L2.St} {H : Hp} {s : Shared} {e : Expr} {te : TE} {pos : Pos} {n : Str}
theorem ErrAt.inst {a D : Addr} {fs : List (Str × V)} (I : Inv X pins σ H s) (h : ErrAt H a D fs) :
    ∃ ox od, PySem.W.InstAt s.heap a ox D od ∧ ∀ f v, fs.lookup f = some v → ∃ u o, RelV v u ∧ od = some o ∧ PySem.W.lookIn f o = some (some u) := by
  rcases h with ⟨rfl, h⟩ | ⟨dx, h1, h2⟩
  · obtain ⟨t1, ho⟩ := exo_at I.hok h
    exact ⟨_, none, ⟨ho, rfl, rfl, trivial⟩, fun f v z => by cases z⟩
  · obtain ⟨t1, ho⟩ := exo_at I.hok h1
    obtain ⟨mA, hns, rel⟩ := exd_at I.hok h2
    obtain ⟨od, hod, hl⟩ := lookIn_ns hns
    refine ⟨_, some od, ⟨ho, rfl, rfl, hod⟩, fun f v z => ?_⟩
    obtain ⟨u, hu, ru⟩ := RelO.some_of (v := v) (o := mA f) (by rw [← z]; exact rel f)
    exact ⟨u, od, ru, rfl, by rw [hl, hu]⟩
/-- e.f, e an error -/
def tEfld (K : PySem.W.Frag) (f : Str) (te : TE) : TE := fun σ H Q => te σ H fun x H1 => ∃ (a D : Addr) (fs : List (Str × V)) (v : V), x = .ref a ∧ ErrAt H1 a D fs ∧ ErrR K D ∧ PySem.W.findIn K (.ref D) f = some none ∧ fs.lookup f = some v ∧ Q v H1
theorem pe_efld (he : PE X e te) (hb : attributeBase e n X.env (eval e X.env) = eval e X.env := by rfl) : PE X (.Attribute e n pos) (tEfld X.K n te) := by
  refine ⟨fun pins s σ H Q I h => attr_of hb (thn (he.run pins s σ H _ I h) fun u s1 ⟨x, H1, I1, rx, a, D, fs, v, ex, ea, R, no, lk, q⟩ => ?_)⟩
  subst ex
  obtain rfl : u = Value.ref a := rx
  obtain ⟨ox, od, J, rd⟩ := ea.inst I1
  obtain ⟨w', o, rw', rfl, hl⟩ := rd n v lk
  exact PySem.HandSPX.exc_get I1.kIn J R.ga R.gt R.sb (PySem.W.findObj_own R.hd no rfl hl) (handed_of rw') ⟨v, H1, I1.tok _, rw', q⟩
/-- isinstance(e, c), e an error -/
def rIsV (K : PySem.W.Frag) : List V → Hp → VK → Prop := fun xs H Q => ∃ (a D : Addr) (fs : List (Str × V)) (c : V) (cv : Value) (b : Bool), xs = [.ref a, c] ∧ ErrAt H a D fs ∧ ErrR K D ∧ ClsV c cv ∧ PySem.W.kitOne K (.ref D) cv = some b ∧ Q (.bl b) H
theorem call_isV : CallR X (.builtin "isinstance") (rIsV X.K) := by
  intro pins s σ H xs us Q I r h
  obtain ⟨a, D, fs, c, cv, b, rfl, ea, R, hc, e, q⟩ := h
  obtain ⟨u1, u2, rfl, r1, r2⟩ := vals2 r
  obtain rfl : u1 = Value.ref a := r1
  have e2 := hc.eq r2
  subst e2
  obtain ⟨ox, od, J, _⟩ := ea.inst I
  exact PySem.W.kia_one (PySem.W.kitx_exc R.cl R.ga R.gt R.sb R.ca R.cg R.ct R.mo) I.kIn J e (fun z => nomatch z) fun tk => ⟨.bl b, H, I.tok tk, rfl, q⟩
end
/-! ### small data: what the law draws -/
inductive AnyV (H : Hp) : V → PyData → Prop where
  | non : AnyV H .non .none
  | bl (b : Bool) : AnyV H (.bl b) (.bool b)
  | int (i : Int) (h : i.natAbs < 10 ^ 40) : AnyV H (.int i) (.int i)
  | str (x : Str) (h : (reprText x).length ≤ 60) : AnyV H (.str x) (.str x)
  | tup {a : Addr} (ns : List Int) (hn : ns = [] ∨ ns = [1, 2]) (h : H a = some (.tup (ns.map V.int))) : AnyV H (.ref a) (.tuple (ns.map PyData.int))
  | lst {a : Addr} (h : H a = some (.lst [.int 3])) : AnyV H (.ref a) (.list [.int 3])
  | dct {a : Addr} (h : H a = some (.dK [])) : AnyV H (.ref a) (.dict [])
theorem AnyV.same {H H' : Hp} {v : V} {d : PyData} (h : AnyV H v d) (s : Same H H') : AnyV H' v d := by
  cases h with
  | non => exact .non
  | bl b => exact .bl b
  | int i h => exact .int i h
  | str x h => exact .str x h
  | tup ns hn h => exact .tup ns hn (s _ _ h)
  | lst h => exact .lst (s _ _ h)
  | dct h => exact .dct (s _ _ h)
theorem shown_small {H : Hp} {v : V} {d : PyData} (h : AnyV H v d) : d.shown.length ≤ 60 := by
  cases h with
  | non => show ("None" : Str).length ≤ 60; decide +kernel
  | bl b => cases b <;> (show (_ : Str).length ≤ 60) <;> decide +kernel
  | int i h =>
    simp only [PyData.shown]
    have := int_text_length_le10 (a := i) (k := 40) (by decide) h
    show (Str.ofString (toString i)).length ≤ 60
    rw [PySem.ofString_length]
    exact Nat.le_trans this (by decide)
  | str x h => exact h
  | tup ns hn h => rcases hn with rfl | rfl <;> decide +kernel
  | lst h => decide +kernel
  | dct h => decide +kernel
theorem log2_of {i : Int} (h : i.natAbs < 10 ^ 40) : i.natAbs.log2 < 1920 := by
  by_cases z : i.natAbs = 0
  · rw [z]; decide
  · refine (Nat.log2_lt z).mpr (Nat.lt_of_lt_of_le h ?_)
    exact Nat.le_trans (Nat.le_of_ble_eq_true (by decide +kernel) : 10 ^ 40 ≤ 2 ^ 140) (Nat.pow_le_pow_right (by decide) (by decide))

inductive AnyAll (H : Hp) : List V → List PyData → Prop where
  | nil : AnyAll H [] []
  | cons {v : V} {d : PyData} {vs : List V} {ds : List PyData} : AnyV H v d → AnyAll H vs ds → AnyAll H (v :: vs) (d :: ds)
theorem AnyAll.same {H H' : Hp} (s : Same H H') : ∀ {vs : List V} {ds : List PyData}, AnyAll H vs ds → AnyAll H' vs ds
  | _, _, .nil => .nil
  | _, _, .cons h t => .cons (h.same s) (t.same s)
theorem AnyAll.append {H : Hp} : ∀ {vs ws : List V} {ds es : List PyData}, AnyAll H vs ds → AnyAll H ws es → AnyAll H (vs ++ ws) (ds ++ es)
  | _, _, _, _, .nil, k => k
  | _, _, _, _, .cons h t, k => .cons h (t.append k)
theorem textFrom_most : ∀ (ts : List Str) (k : Nat) (acc : Str), (textFrom k acc ts).length ≤ acc.length + piled ts
  | [], k, acc => by show acc.length ≤ _; omega
  | t :: r, k, acc => by
    have h := textFrom_most r (k + 1) (acc ++ (if k > 0 then ", " else "" : String) ++ t)
    have e : (acc ++ (if k > 0 then ", " else "" : String) ++ t).length = acc.length + (if k > 0 then 2 else 0) + t.length := by
      rw [strLen_append, strLen_append]; split <;> rfl
    rw [piled_cons]
    show (textFrom (k + 1) _ r).length ≤ _
    rw [e] at h
    have : (if k > 0 then 2 else 0) ≤ 2 := by split <;> omega
    omega
theorem shownAll_piled {H : Hp} : ∀ {vs : List V} {ds : List PyData}, AnyAll H vs ds → piled (PyData.shownAll ds) ≤ 62 * ds.length
  | _, _, .nil => by simp only [PyData.shownAll]; exact Nat.zero_le _
  | _, _, .cons (ds := ds) h t => by
    have h1 := shown_small h
    have h2 := shownAll_piled t
    simp only [PyData.shownAll]
    rw [piled_cons, List.length_cons]
    omega
theorem shownAll_len : ∀ ds : List PyData, (PyData.shownAll ds).length = ds.length
  | [] => by simp only [PyData.shownAll, List.length_nil]
  | d :: ds => by simp only [PyData.shownAll, List.length_cons, shownAll_len ds]
theorem listText_most {ds : List PyData} {H : Hp} {vs : List V} (h : AnyAll H vs ds) (hl : ds.length ≤ 100) : (listText (PyData.shownAll ds)).length ≤ sizeLine := by
  have h1 := textFrom_most (PyData.shownAll ds) 0 "["
  have h2 := shownAll_piled h
  unfold listText
  rw [strLen_append, sizeLine_eq]
  have e1 : ("[" : Str).length = 1 := by decide +kernel
  have e2 : ("]" : Str).length = 1 := by decide +kernel
  rw [e1] at h1
  rw [e2]
  omega
section
variable {X : Cx} {pins : List (Addr × Obj)} {σ : L2.St} {H : Hp} {s : Shared}
theorem ints_reprAll {h₀ : Heap} {P : Program} {w : World} : ∀ (ns : List Int) (us : List Value), (∀ i ∈ ns, i.natAbs < 10 ^ 40) → Vals (ns.map V.int) us → ReprAllK P w [] h₀ 0 us (PyData.shownAll (ns.map PyData.int))
  | [], _, _, r => by
    cases r
    simp only [List.map_nil, PyData.shownAll]
    exact .nil
  | n :: ns, _, hn, r => by
    cases r with
    | cons r1 r2 =>
      obtain ⟨t, rfl⟩ := r1
      simp only [List.map_cons, PyData.shownAll]
      refine .cons ?_ (ints_reprAll ns _ (fun i hi => hn i (List.mem_cons_of_mem _ hi)) r2)
      simp only [PyData.shown]
      exact .of_is (ReprIs.int t (log2_of (hn n List.mem_cons_self))) _ _ _
/-- one of them, shown; the addresses that its text runs through are tracked, and hold no long list -/
theorem AnyV.reprK {v : V} {d : PyData} {u : Value} (I : Inv X pins σ H s) (h : AnyV H v d) (r : RelV v u) :
    ∃ bs, (∀ b ∈ bs, ∃ o, H b = some o ∧ ∀ xs : List V, 2 ≤ xs.length → o ≠ .lst xs) ∧ ReprK X.prog X.w bs s.heap 1 u d.shown := by
  have nob : ∀ b ∈ ([] : List Addr), ∃ o, H b = some o ∧ ∀ xs : List V, 2 ≤ xs.length → o ≠ .lst xs := fun _ z => nomatch z
  cases h with
  | non => obtain rfl := r; exact ⟨[], nob, .of_is ReprIs.none _ _ _⟩
  | bl b => obtain rfl := r; exact ⟨[], nob, .of_is (ReprIs.bool b) _ _ _⟩
  | int i h => obtain ⟨t, rfl⟩ := r; exact ⟨[], nob, .of_is (ReprIs.int t (log2_of h)) _ _ _⟩
  | str x h =>
    obtain ⟨t, rfl⟩ := r
    exact ⟨[], nob, .of_is (ReprIs.str x t (by rw [sizeLine_eq]; omega)) _ _ _⟩
  | @tup a ns hn h =>
    obtain rfl := r
    obtain ⟨_, its, rv, o, h1, h2, n, h3⟩ := (show ObjOk X.prog X.w H s.heap a (.tup (ns.map V.int)) from I.hok a _ h)
    refine ⟨[a], fun b hb => ?_, ?_⟩
    · rw [List.mem_singleton.mp hb]
      exact ⟨_, h, fun xs _ z => nomatch z⟩
    · simp only [PyData.shown]
      exact ReprK.tuple h1 h2 h3 (fun z => nomatch z) (ints_reprAll ns _ (by rcases hn with rfl | rfl <;> decide) rv)
  | @lst a h =>
    obtain rfl := r
    obtain ⟨_, its, n, rv, h1⟩ := (show ObjOk X.prog X.w H s.heap a (.lst [.int 3]) from I.hok a _ h)
    refine ⟨[a], fun b hb => ?_, ?_⟩
    · rw [List.mem_singleton.mp hb]
      exact ⟨_, h, fun xs hx z => by injection z with z; subst z; exact absurd hx (by decide)⟩
    · have ra := ints_reprAll (h₀ := s.heap) (P := X.prog) (w := X.w) [3] its (by decide) rv
      cases rv with
      | cons r1 r2 =>
        simp only [PyData.shown]
        exact ReprK.list h1 rfl rfl (fun z => nomatch z) (by simpa using ra.length_eq) (fun i y e => ra.item i y (by simpa using e))
  | @dct a h =>
    obtain rfl := r
    obtain ⟨_, hs, vs, kv, o, es, ep, h1, h2, h3, h4⟩ := (show ObjOk X.prog X.w H s.heap a (.dK []) from I.hok a _ h)
    refine ⟨[a], fun b hb => ?_, ?_⟩
    · rw [List.mem_singleton.mp hb]
      exact ⟨_, h, fun xs _ z => nomatch z⟩
    · simp only [PyData.shown]
      have e0 : es.toList = [] := by
        cases kv
        obtain ⟨_, hp, _⟩ := h4
        cases hes : es.toList with
        | nil => rfl
        | cons x l =>
          rw [hes] at hp
          cases hp
      exact ReprK.dict h1 h2.1 h3 hs (fun z => nomatch z) (by rw [e0]; simp only [PyData.shownKv]; exact .nil)
theorem AnyAll.reprK (I : Inv X pins σ H s) : ∀ {vs : List V} {ds : List PyData} {us : List Value}, AnyAll H vs ds → Vals vs us →
    ∃ bs, (∀ b ∈ bs, ∃ o, H b = some o ∧ ∀ xs : List V, 2 ≤ xs.length → o ≠ .lst xs) ∧ ReprAllK X.prog X.w bs s.heap 1 us (PyData.shownAll ds)
  | _, _, _, .nil, .nil => ⟨[], (fun _ z => nomatch z), by simp only [PyData.shownAll]; exact .nil⟩
  | _, _, _, .cons h t, .cons r rs => by
    obtain ⟨b1, n1, k1⟩ := h.reprK I r
    obtain ⟨b2, n2, k2⟩ := AnyAll.reprK I t rs
    refine ⟨b1 ++ b2, fun b hb => ?_, ?_⟩
    · rcases List.mem_append.mp hb with z | z
      · exact n1 b z
      · exact n2 b z
    · simp only [PyData.shownAll]
      exact .cons (k1.more fun b z => List.mem_append_left _ z) (k2.more_le (fun b z => List.mem_append_right _ z) (Nat.le_refl _))
/-- repr(xs), xs a list of two or more of them -/
theorem call_reprL (hg : X.A.guards = some []) (hu : X.A.units + 64 < cLine) : CallR X (.builtin "repr") (fun xs H Q => ∃ (p : Addr) (vs : List V) (ds : List PyData), xs = [.ref p] ∧ H p = some (.lst vs) ∧ AnyAll H vs ds ∧ 2 ≤ vs.length ∧ ds.length ≤ 100 ∧
    Q (.str (PyData.list ds).shown) H) := by
  intro pins s σ H xs us Q I r h
  obtain ⟨p, vs, ds, rfl, hp, ha, h2, h1, q⟩ := h
  obtain ⟨u, rfl, r1⟩ := vals1 r
  obtain rfl := r1
  obtain ⟨_, its, n, rv, ho⟩ := (show ObjOk X.prog X.w H s.heap p (.lst vs) from I.hok p _ hp)
  obtain ⟨bs, nb, hk⟩ := ha.reprK I rv
  have hz := listText_most ha h1
  have np : p ∉ bs := fun z => by
    obtain ⟨o, e, no⟩ := nb p z
    rw [hp] at e
    exact no vs h2 (Option.some.inj e).symm
  have hlen := rv.length
  cases its with
  | nil => rw [hlen] at h2; exact absurd h2 (by decide)
  | cons x l =>
    refine call_repr_slot (T := "list") (idr := "list.__repr__") (by omega) ⟨_, ho, rfl⟩ PySem.F.slot_list_repr.toG ?_
    refine call_list_reprK (A := X.A.in1) (g := []) (as := bs) (d := 1) (ts := PyData.shownAll ds) ho rfl rfl np (by simpa using hk.length_eq) (fun i y e => hk.item i y (by simpa using e)) hg (fun b _ => Clear.nil b) (by show X.A.units + 1 + 2 < _; omega) (fun _ _ e => e) (fun h' u tk kp => ?_) hz
    exact ⟨_, _, rfl, .str (PyData.list ds).shown, H, I.kept (t' := tk) kp, ⟨u, by simp only [PyData.shown]⟩, q⟩
end
end XV

set_option Elab.async false
set_option linter.all false
set_option maxRecDepth 100000
set_option maxHeartbeats 4000000
/-! an own error without fields, made to be raised -/
namespace XV
open PySem PySem.Spec PyProof.Rows L2
/-- C(), H0: the heap at the def's entry -/
def tMk0 (H0 : Hp) (C : Addr) (sp : Sp) : L2.St → Hp → XK → Prop := fun σ H Q => ∀ a, H a = none → H0 a = none ∧ sp [.ref a] (upd H a (exo a C none)) (fun v H2 => v = .non ∧ ∃ b, V.ref a = .ref b ∧ H2 b = some (exo b C none) ∧ H0 b = none ∧ Q (.ref C) none (delH H2 b)) (fun _ _ _ => False)
section
variable {X : Cx} {CX : CXT} {k : Nat} {C fI : Addr} {fd : FuncData} {ps : List Str} {sp : Sp} {x : Str} {p pos : Pos}
theorem pmk_oex0 (D : ErrC X.K C fI) (F : FnOk X.prog X.w X.K X.mg X.base CX k fI fd ps sp) (hr : Room (k + 1) X.A) (hb : KBn X.K fd ps 1 [] (fun us _ => us) (fun vs _ => vs)) (hx : Passes CX X (fun _ _ _ => False)) (hex : X.ex = [])
    (hg : Gl X x) (hm : X.mg x = some (.ref C)) (hdb : (x == ("__debug__" : Str)) = false := by decide) : PMk X (.Call (.Name x p) [] [] pos) (tMk0 X.H_0 C sp) := by
  intro pins s σ H Q I h
  refine wpAny_Call_Name_kw (ld_glob I hg hm (PySem.W.callWith_K0 I.kIn D.T.kC ?_) hdb)
  refine wpAny_mono (run_err (us := []) (vs := []) (ws := []) (zs := []) (n := 0) (Q := fun v H2 => ∃ b, v = .ref b ∧ H2 b = some (exo b C none) ∧ X.H_0 b = none ∧ Q (.ref C) none (delH H2 b)) D F hr hb hx I .nil .nil rfl rfl (Nat.zero_le _) (fun a na => (h a na).2)) (fun u s1 q => ?_) fun _ _ e => e
  obtain ⟨v, H2, I2, rv, a, rfl, ha, na, q⟩ := q
  cases (show u = Value.ref a from rv)
  obtain ⟨t1, ho⟩ := exo_at I2.hok ha
  obtain ⟨G, gs, ga, J⟩ := I2.untrack ha (fr0_none na) hex
  exact ⟨a, _, _, { s1 with heap := G }, delH H2 a, .ref C, none, rfl, J, gs, ga, ho, ⟨rfl, rfl⟩, rfl, rfl, delH_same, rfl, I2.bare, raises_own D.T.exC D.T.tyC, q⟩
end
end XV

set_option Elab.async false
set_option linter.all false
set_option maxRecDepth 100000
set_option maxHeartbeats 4000000
/-! binary operators of an own class: instance op instance, instance op int, int op instance -/
namespace PySem.W
open PySem PySem.Spec PyProof.Rows Builtin
section
variable {prog : Program} {w : World} {A : Around} {E : Value → Shared → Prop} {s : Shared} {K : Frag} {x C L f g : Addr} {h₀ : Heap} {m : Str → Option Value} {ox : Obj} {od : Option Obj} {n : Int} {t : Tok}
/-- an int's own method declines an instance -/
theorem int_dec {nm0 : Str} {id name : String} {f0 : Int → Int → Sem Fin} {b : Bool} (S : Slot "int" nm0 id) (en : entryFor table id = some (Builtin.Int.intBinary name f0 b)) (ar : argsOk id ⟨[.int n t, .ref x], []⟩) (hx : s.heap.get? x = some ox) (hd : ox.data = .plain)
    {Q : Value → Shared → Prop} (q : Q .notImplemented s) : wpAny (model prog w) A (call (.builtin id) [.int n t, .ref x]) Q E s := by
  refine wpAny_call_entry S (typeIs_int s n t) en ?_ ar
  unfold Builtin.Int.intBinary
  refine wpAny_bind (wpAny_of_eq (a := ((Value.int n t : Value), [Value.ref x])) (by first | rfl | (simp only [slotArgs]; rfl)) ?_)
  refine wpAny_bind (wpAny_of_eq (a := n) (by rfl) ?_)
  show wpAny _ _ (asInt? (.ref x) >>= _) _ _ _
  refine wpAny_bind ?_
  unfold asInt?
  refine wpAny_bind (wpAny_load hx ?_)
  rw [hd]
  refine wpAny_pure ?_
  first | exact wpAny_bind (wpAny_rule (wpAny_pure ⟨_, rfl, q⟩)) | exact wpAny_rule (wpAny_pure ⟨_, rfl, q⟩)
/-- int op instance: the instance's reflected def is called -/
theorem bin_right {op : Operator} {id : String} {f0 : Int → Int → Sem Fin} {nm1 : String} {b0 : Bool} {fo ro : Option Value} {Q : Value → Shared → Prop} (X : K.In s.heap) (I : InstAt s.heap x ox C od) (hd : ox.data = .plain) (hc : selfFirst K C = true)
    (hs : findIn K (.ref C) (PySem.dunder op.info.2) = some (some (.ref f))) (hr : findIn K (.ref C) (dunderR op.info.2) = some (some (.ref g))) (hg : isFn K (.ref g) = true)
    (h1 : findIn K (.type "int") (PySem.dunder op.info.2) = some fo) (h2 : findIn K (.type "int") (dunderR op.info.2) = some ro) (hfo : ((fo.isSome && !isSeqSlot fo) || (ro.isSome && !isSeqSlot ro)) = true) (hsub : subIn K (.ref C) (.type "int") = some false)
    (S : Slot "int" (PySem.dunder op.info.2) id) (en : entryFor table id = some (Builtin.Int.intBinary nm1 f0 b0)) (ar : argsOk id ⟨[.int n t, .ref x], []⟩)
    (h : wpAny (model prog w) A (call (.ref g) [.ref x, .int n t]) (CmpBack Q) E s) : wpAny (model prog w) A (binaryOp op (.int n t) (.ref x)) Q E s := by
  obtain ⟨cd, rest, hcd, hm⟩ := ksp_first hc
  rcases hi : op.info with ⟨sym, nm'⟩
  rw [hi] at hs hr h1 h2 S
  dsimp only at hs hr h1 h2 S
  have one := ksp_try X I hr hg h
  have hx : s.heap.get? x = some ox := I.1
  have decl : ∀ Q' : Option Value → Shared → Prop, Q' none s → wpAny (model prog w) A (tryMethod (.int n t) (PySem.dunder nm') (.ref x)) Q' E s := fun Q' q' =>
    wpAny_tryMethod_declines (typeIs_int s n t) S (int_dec S en ar hx hd ⟨rfl, q'⟩)
  obtain ⟨hh, gs, dd, tt, os⟩ := s
  have L1 : Looks (model prog w) hh (typeOf (.int n t)) (.type "int") := Looks.of_pure rfl
  have L2 : Looks (model prog w) hh (typeOf (.ref x)) (.ref C) := I.type
  have L3 : Looks (model prog w) hh (fillsNumberSlot (.ref C) nm') true := fills_K X hcd hm hs
  have L4 : Looks (model prog w) hh (fillsNumberSlot (.type "int") nm') true := by have := ksp_fillsT (M := model prog w) X h1 h2; rw [hfo] at this; exact this
  have L5 : Looks (model prog w) hh (isSubtype (.ref C) (.type "int")) false := looks_subIn X hsub
  have L7 : Looks (model prog w) hh (numberSlotInPython (.type "int") nm') false := Looks.of_pure rfl
  have hne : (Value.type "int" == Value.ref C) = false := Bool.eq_false_iff.mpr fun q => by cases beq_iff_eq.mp q
  simp only [binaryOp, hi]
  refine wpAny_holding (wpAny_bind ?_)
  unfold binaryOp1
  refine wpAny_bind (L1.at (wpAny_bind (L2.at (wpAny_bind (L4.at ?_)))))
  simp only [hne, Bool.false_eq_true, if_false]
  refine wpAny_bind (L3.at ?_)
  simp only [Bool.and_self, if_true]
  refine wpAny_bind (L5.at ?_)
  simp only [Bool.false_eq_true, if_false, pure_bind, Bool.not_false, Bool.and_self, if_true, Bool.and_true]
  refine wpAny_bind (L7.at ?_)
  simp only [Bool.false_eq_true, if_false, pure_bind]
  refine wpAny_bind (decl _ ?_)
  show wpAny _ _ (tryMethod (.ref x) (dunderR nm') (.int n t) >>= _) _ _ _
  refine wpAny_bind (wpAny_mono one (fun r s' hr' => ?_) fun _ _ e => e)
  obtain ⟨v, rfl, hq⟩ := hr'
  exact wpAny_bind (wpAny_rule (wpAny_pure (wpAny_pure hq)))
end
end PySem.W
namespace L2
open PySem PySem.Spec PyProof.Rows SlX
section
variable {X : Cx} {CX : CXT} {pins : List (Addr × Obj)} {σ : L2.St} {H : Hp} {s : Shared} {C f g : Addr} {n : Nat} {sp : Sp} {E : XK} {op : Operator}
/-- instance op instance of the class at C, or an int -/
def rBinI (C : Addr) (sp : Sp) (E : XK) : R2 := fun x y H Q => ∃ a dx fs, x = .ref a ∧ H a = some (.ins C dx fs) ∧ ((∃ b dy gs, y = .ref b ∧ H b = some (.ins C dy gs)) ∨ ∃ i, y = .int i) ∧ sp [x, y] H Q E
theorem op_binI {rc : Option Value} {fo ro : Option Value} (hc : PySem.W.selfFirst X.K C = true) (hs : PySem.W.findIn X.K (.ref C) (PySem.dunder op.info.2) = some (some (.ref f))) (hf : PySem.W.isFn X.K (.ref f) = true)
    (hr' : PySem.W.findIn X.K (.ref C) (PySem.dunderR op.info.2) = some rc) (hp : rc = none ∨ ∃ g : Addr, rc = some (.ref g)) (h1 : PySem.W.findIn X.K (.type "int") (PySem.dunder op.info.2) = some fo) (h2 : PySem.W.findIn X.K (.type "int") (PySem.dunderR op.info.2) = some ro)
    (hsub : PySem.W.subIn X.K (.type "int") (.ref C) = some false) (F : FnR X.prog X.w X.K X.mg X.base CX n f sp) (hr : Room n X.A) (hx : Passes CX X E) : OpR X (binaryOp op) (rBinI C sp E) := by
  intro pins s σ H x y v u Q Iv rx ry h
  obtain ⟨a, dx, fs, rfl, ha, hy, q⟩ := h
  cases (show v = Value.ref a from rx)
  obtain ⟨mA, J, _⟩ := ins_get Iv.hok ha
  obtain ⟨od, J, _⟩ := J.look
  obtain ⟨m, hF⟩ := Iv.fr
  have run : wpAny (model X.prog X.w) X.A (call (.ref f) [.ref a, u]) (PySem.W.CmpBack fun v s1 => EP X pins σ Q v s1) X.xe s := by
    refine wpAny_mono (wpAny_call (run_fnR (us := [.ref a, u]) (vs := [.ref a, y]) F hr hx Iv (.cons rfl (.cons ry .nil)) q)) (fun w1 s1 z => ?_) fun _ _ x => x
    obtain ⟨z1, H1, I1, rz, qz⟩ := z
    exact cmpback rz ⟨z1, H1, I1, rz, qz⟩
  rcases hy with ⟨b, dy, gs, rfl, hb⟩ | ⟨i, rfl⟩
  · cases (show u = Value.ref b from ry)
    obtain ⟨mB, J', _⟩ := ins_get Iv.hok hb
    obtain ⟨od', J', _⟩ := J'.look
    exact PySem.W.binop_K hF Iv.ok.mod.kin J J'.type hc hs hf run
  · obtain ⟨t, e⟩ := (show ∃ t, u = Value.int i t from ry)
    cases e
    exact PySem.W.ksp_binT hF Iv.ok.mod.kin J rfl hc hs hf hr' hp h1 h2 hsub run
/-- int op instance -/
def rBinR (C : Addr) (sp : Sp) (E : XK) : R2 := fun x y H Q => ∃ i a dx fs, x = .int i ∧ y = .ref a ∧ H a = some (.ins C dx fs) ∧ sp [y, x] H Q E
theorem op_binR {id : String} {f0 : Int → Int → Sem Fin} {nm1 : String} {b0 : Bool} {fo ro : Option Value} (hc : PySem.W.selfFirst X.K C = true) (hs : PySem.W.findIn X.K (.ref C) (PySem.dunder op.info.2) = some (some (.ref f)))
    (hr' : PySem.W.findIn X.K (.ref C) (PySem.dunderR op.info.2) = some (some (.ref g))) (hg : PySem.W.isFn X.K (.ref g) = true) (h1 : PySem.W.findIn X.K (.type "int") (PySem.dunder op.info.2) = some fo) (h2 : PySem.W.findIn X.K (.type "int") (PySem.dunderR op.info.2) = some ro)
    (hfo : ((fo.isSome && !isSeqSlot fo) || (ro.isSome && !isSeqSlot ro)) = true) (hsub : PySem.W.subIn X.K (.ref C) (.type "int") = some false) (S : Slot "int" (PySem.dunder op.info.2) id) (en : entryFor table id = some (Builtin.Int.intBinary nm1 f0 b0))
    (ar : ∀ a b, argsOk id ⟨[a, b], []⟩) (F : FnR X.prog X.w X.K X.mg X.base CX n g sp) (hr : Room n X.A) (hx : Passes CX X E) : OpR X (binaryOp op) (rBinR C sp E) := by
  intro pins s σ H x y v u Q Iv rx ry h
  obtain ⟨i, a, dx, fs, rfl, rfl, ha, q⟩ := h
  cases (show u = Value.ref a from ry)
  obtain ⟨t, e⟩ := (show ∃ t, v = Value.int i t from rx)
  cases e
  obtain ⟨mA, J, _⟩ := ins_get Iv.hok ha
  obtain ⟨od, J, _⟩ := J.look
  refine PySem.W.bin_right Iv.kIn J rfl hc hs hr' hg h1 h2 hfo hsub S en (ar _ _) ?_
  refine wpAny_mono (wpAny_call (run_fnR (us := [.ref a, .int i t]) (vs := [.ref a, .int i]) F hr hx Iv (.cons rfl (.cons ⟨t, rfl⟩ .nil)) q)) (fun w1 s1 z => ?_) fun _ _ x => x
  obtain ⟨z1, H1, I1, rz, qz⟩ := z
  exact cmpback rz ⟨z1, H1, I1, rz, qz⟩
end
end L2

set_option Elab.async false
set_option linter.all false
set_option maxRecDepth 100000
set_option maxHeartbeats 4000000
/-! -x, abs(x), str(x) of an instance with own defs -/
namespace L2
open PySem PySem.Spec PyProof.Rows SlX
section
variable {X : Cx} {CX : CXT} {pins : List (Addr × Obj)} {σ : L2.St} {H : Hp} {s : Shared} {C f : Addr} {n : Nat} {sp : Sp} {E : XK}
def rUnI (C : Addr) (sp : Sp) (E : XK) : V → Hp → VK → Prop := fun x H Q => ∃ a dx fs, x = .ref a ∧ H a = some (.ins C dx fs) ∧ sp [x] H Q E
theorem un_negI (hs : PySem.W.findIn X.K (.ref C) "__neg__" = some (some (.ref f))) (hf : PySem.W.isFn X.K (.ref f) = true) (F : FnR X.prog X.w X.K X.mg X.base CX n f sp) (hr : Room n X.A) (hx : Passes CX X E) : UnR X (unaryOp .USub) (rUnI C sp E) := by
  intro pins s σ H x v Q Iv rx h
  obtain ⟨a, dx, fs, rfl, ha, q⟩ := h
  cases (show v = Value.ref a from rx)
  obtain ⟨mA, J, _⟩ := ins_get Iv.hok ha
  obtain ⟨od, J, _⟩ := J.look
  obtain ⟨m, hF⟩ := Iv.fr
  exact PySem.W.ksp_neg hF Iv.ok.mod.kin J hs hf (wpAny_call (run_fnR (us := [.ref a]) (vs := [.ref a]) F hr hx Iv (.cons rfl .nil) q))
def rCallI (C : Addr) (sp : Sp) (E : XK) : List V → Hp → VK → Prop := fun xs H Q => ∃ a dx fs, xs = [.ref a] ∧ H a = some (.ins C dx fs) ∧ sp [.ref a] H Q E
theorem call_absI (hs : PySem.W.findIn X.K (.ref C) "__abs__" = some (some (.ref f))) (hf : PySem.W.isFn X.K (.ref f) = true) (F : FnR X.prog X.w X.K X.mg X.base CX n f sp) (hr : Room (n + 1) X.A) (hx : Passes CX X E) : CallR X (.builtin "abs") (rCallI C sp E) := by
  intro pins s σ H xs us Q Iv r h
  obtain ⟨a, dx, fs, rfl, ha, q⟩ := h
  rw [Vals.ref1 r]
  obtain ⟨mA, J, _⟩ := ins_get Iv.hok ha
  obtain ⟨od, J, _⟩ := J.look
  refine call_function_tree kind_abs plain_abs entry_abs (args_abs _) ?_
  unfold Builtin.«abs»
  refine wpAny_bind (wpAny_of_eq (a := Value.ref a) (by first | rfl | (simp only [Builtin.Builtins.oneArg]; rfl)) ?_)
  refine wpAny_bind (PySem.W.special_fn Iv.kIn J hs (beq_iff_eq.mp hf) (wpAny_mono (wpAny_call (run_at (us := [.ref a]) (ws := [.ref a]) F hr.in1 Iv.env0.in1 hx Iv (.cons rfl .nil) q)) (fun v s1 z => ?_) fun _ _ e => e))
  exact wpAny_pure z
/-- a text comes back -/
def rStrI (C : Addr) (sp : Sp) (E : XK) : List V → Hp → VK → Prop := fun xs H Q => ∃ a dx fs, xs = [.ref a] ∧ H a = some (.ins C dx fs) ∧ sp [.ref a] H (fun v H1 => ∃ x, v = .str x ∧ Q v H1) E
theorem call_strI (hs : PySem.W.findIn X.K (.ref C) "__str__" = some (some (.ref f))) (hf : PySem.W.isFn X.K (.ref f) = true) (F : FnR X.prog X.w X.K X.mg X.base CX n f sp) (hr : Room (n + 2) X.A) (hx : Passes CX X E) : CallR X (.type "str") (rStrI C sp E) := by
  intro pins s σ H xs us Q Iv r h
  obtain ⟨a, dx, fs, rfl, ha, q⟩ := h
  rw [Vals.ref1 r]
  obtain ⟨mA, J, _⟩ := ins_get Iv.hok ha
  obtain ⟨od, J, _⟩ := J.look
  have hr2 : Room n X.A.in1.in1 := (show Room (n + 1) X.A.in1 from Room.in1 hr).in1
  refine PySem.W.kso_call (by have := hr2.units0; exact this) Iv.kIn J hs hf (wpAny_mono (wpAny_call (run_at (us := [.ref a]) (ws := [.ref a]) F hr2 Iv.env0.in1.in1 hx Iv (.cons rfl .nil) q)) (fun v s1 z => ?_) fun _ _ e => e)
  obtain ⟨z1, H1, I1, rz, x, e, qz⟩ := z
  subst e
  obtain ⟨t, e⟩ := (show ∃ t, v = Value.str x t from rz)
  cases e
  exact ⟨.str x, H1, I1, ⟨t, rfl⟩, qz⟩
end
end L2

set_option linter.all false
/-! fractions in lowest terms -/
namespace RT
/-- the fields of n / d, d not 0 -/
def low (n d : Int) : Int × Int := (((if d < 0 then -1 else 1) * n) / (Int.gcd n d : Int), ((if d < 0 then -1 else 1) * d) / (Int.gcd n d : Int))
structure Lo (p q n d : Int) : Prop where
  pos : 0 < q
  cop : Int.gcd p q = 1
  cross : p * d = n * q
theorem low_lo {n d : Int} (hd : d ≠ 0) : Lo (low n d).1 (low n d).2 n d := by
  have hg : 0 < Int.gcd n d := Nat.pos_of_ne_zero fun e => hd (Int.gcd_eq_zero_iff.mp e).2
  obtain ⟨a, ha⟩ := Int.gcd_dvd_left (a := n) (b := d)
  obtain ⟨b, hb⟩ := Int.gcd_dvd_right (a := n) (b := d)
  have g0 : (Int.gcd n d : Int) ≠ 0 := by omega
  have gp : (0 : Int) < (Int.gcd n d : Int) := by omega
  generalize hG : (Int.gcd n d : Int) = g at *
  have hcop : Int.gcd a b = 1 := by
    have h1 : Int.gcd (g * a) (g * b) = g.natAbs * Int.gcd a b := Int.gcd_mul_left ..
    rw [← ha, ← hb] at h1
    have h2 : g.natAbs = Int.gcd n d := by omega
    rw [h2] at h1
    have h3 : Int.gcd n d * 1 = Int.gcd n d * Int.gcd a b := by rw [Nat.mul_one]; exact h1
    exact (Nat.eq_of_mul_eq_mul_left hg h3).symm
  have hb0 : b ≠ 0 := fun e => hd (by rw [hb, e, Int.mul_zero])
  have q1 : ∀ x : Int, (g * x) / g = x := fun x => Int.mul_ediv_cancel_left x g0
  have key : ∀ s : Int, (s = 1 ∨ s = -1) → 0 < s * b → Lo ((s * n) / g) ((s * d) / g) n d := fun s hs hp => by
    have e1 : (s * n) / g = s * a := by rw [ha, show s * (g * a) = g * (s * a) by rw [← Int.mul_assoc, Int.mul_comm s g, Int.mul_assoc]]; exact q1 _
    have e2 : (s * d) / g = s * b := by
      conv => lhs; rw [hb]
      rw [show s * (g * b) = g * (s * b) by rw [← Int.mul_assoc, Int.mul_comm s g, Int.mul_assoc]]; exact q1 _
    rw [e1, e2]
    refine ⟨hp, ?_, ?_⟩
    · rcases hs with rfl | rfl
      · rw [Int.one_mul, Int.one_mul]; exact hcop
      · rw [Int.neg_one_mul, Int.neg_one_mul, Int.gcd_neg, Int.neg_gcd]; exact hcop
    · have e : ∀ x y : Int, s * a * (g * b) = g * a * (s * b) := fun _ _ => by ac_rfl
      conv => lhs; rw [hb]
      conv => rhs; rw [ha]
      exact e 0 0
  have hsd : 0 < b ↔ 0 < d := by
    rw [hb]
    constructor
    · intro h; exact Int.mul_pos gp h
    · intro h; exact Int.pos_of_mul_pos_left (by rw [Int.mul_comm]; exact h) gp
  unfold low
  rw [hG]
  by_cases c : d < 0
  · rw [if_pos c]
    refine key (-1) (.inr rfl) ?_
    have : ¬ 0 < b := fun z => by have := hsd.mp z; omega
    omega
  · rw [if_neg c]
    refine key 1 (.inl rfl) ?_
    have := hsd.mpr (by omega)
    omega
theorem cop_dvd {p q m : Int} (h : Int.gcd p q = 1) (hd : q ∣ p * m) : q ∣ m := by
  have h1 : q.natAbs ∣ p.natAbs * m.natAbs := by rw [← Int.natAbs_mul]; exact Int.natAbs_dvd_natAbs.mpr hd
  have h2 : Nat.Coprime q.natAbs p.natAbs := by
    unfold Nat.Coprime
    rw [Nat.gcd_comm]; exact h
  exact Int.natAbs_dvd_natAbs.mp (h2.dvd_of_dvd_mul_left h1)
theorem Lo.uniq {p q p' q' n d : Int} (hd : d ≠ 0) (x : Lo p q n d) (y : Lo p' q' n d) : p = p' ∧ q = q' := by
  have e : p * q' = p' * q := by
    have h : (p * q') * d = (p' * q) * d := by
      calc (p * q') * d = (p * d) * q' := by ac_rfl
        _ = (n * q) * q' := by rw [x.cross]
        _ = (n * q') * q := by ac_rfl
        _ = (p' * d) * q := by rw [y.cross]
        _ = (p' * q) * d := by ac_rfl
    exact Int.eq_of_mul_eq_mul_right hd h
  have d1 : q ∣ q' := by
    have h : q ∣ p * q' := ⟨p', by rw [e, Int.mul_comm]⟩
    exact cop_dvd x.cop h
  have d2 : q' ∣ q := by
    have h : q' ∣ p' * q := ⟨p, by rw [← e, Int.mul_comm]⟩
    exact cop_dvd y.cop h
  have hq : q = q' := Int.le_antisymm (Int.le_of_dvd y.pos d1) (Int.le_of_dvd x.pos d2)
  refine ⟨?_, hq⟩
  subst hq
  exact Int.eq_of_mul_eq_mul_right (by have := x.pos; omega) e
/-- a fraction of the same worth has the same fields -/
theorem Lo.scale {p q n d n' d' : Int} (hd : d ≠ 0) (x : Lo p q n d) (h : n * d' = n' * d) : Lo p q n' d' := by
  refine ⟨x.pos, x.cop, ?_⟩
  have e : (p * d') * d = (n' * q) * d := by
    calc (p * d') * d = (p * d) * d' := by ac_rfl
      _ = (n * q) * d' := by rw [x.cross]
      _ = (n * d') * q := by ac_rfl
      _ = (n' * d) * q := by rw [h]
      _ = (n' * q) * d := by ac_rfl
  exact Int.eq_of_mul_eq_mul_right hd e
theorem low_eq {n d n' d' : Int} (hd : d ≠ 0) (hd' : d' ≠ 0) (h : n * d' = n' * d) : low n d = low n' d' := by
  have u := Lo.uniq hd' ((low_lo hd).scale hd h) (low_lo hd')
  exact Prod.ext u.1 u.2
theorem low_of {n d n' d' : Int} (hd : d ≠ 0) (hd' : d' ≠ 0) (h : low n d = low n' d') : n * d' = n' * d := by
  have x := low_lo (n := n) hd
  have y := low_lo (n := n') hd'
  rw [← h] at y
  have e : (n * d') * (low n d).2 = (n' * d) * (low n d).2 := by
    calc (n * d') * (low n d).2 = (n * (low n d).2) * d' := by ac_rfl
      _ = ((low n d).1 * d) * d' := by rw [x.cross]
      _ = ((low n d).1 * d') * d := by ac_rfl
      _ = (n' * (low n d).2) * d := by rw [y.cross]
      _ = (n' * d) * (low n d).2 := by ac_rfl
  exact Int.eq_of_mul_eq_mul_right (by have := x.pos; omega) e
/-- the program's own way: the gcd with the sign of d -/
theorem low_prog {n d : Int} (hd : d ≠ 0) : low n d = if d < 0 then (n / (-(Int.gcd n d : Int)), d / (-(Int.gcd n d : Int))) else (n / (Int.gcd n d : Int), d / (Int.gcd n d : Int)) := by
  unfold low
  by_cases c : d < 0
  · rw [if_pos c, if_pos c]
    rw [Int.neg_one_mul, Int.neg_one_mul, Int.ediv_neg, Int.ediv_neg, Int.neg_ediv_of_dvd (Int.gcd_dvd_left ..), Int.neg_ediv_of_dvd (Int.gcd_dvd_right ..)]
  · rw [if_neg c, if_neg c, Int.one_mul, Int.one_mul]
end RT

set_option linter.all false
set_option maxRecDepth 100000
set_option maxHeartbeats 4000000
/-! what the operators tell, in lowest terms -/
namespace RT
variable {p q r s a b c d n : Int}
theorem low_le1 (n d : Int) : (low n d).1.natAbs ≤ n.natAbs := by
  unfold low
  refine Nat.le_trans (Int.natAbs_ediv_le_natAbs _ _) ?_
  split <;> simp
theorem low_le2 (n d : Int) : (low n d).2.natAbs ≤ d.natAbs := by
  unfold low
  refine Nat.le_trans (Int.natAbs_ediv_le_natAbs _ _) ?_
  split <;> simp
theorem Lo.ne (x : Lo p q a b) : q ≠ 0 := by have := x.pos; omega
theorem low_add (hb : b ≠ 0) (hd : d ≠ 0) (x : Lo p q a b) (y : Lo r s c d) : low (p * s + r * q) (q * s) = low (a * d + c * b) (b * d) := by
  refine low_eq (Int.mul_ne_zero x.ne y.ne) (Int.mul_ne_zero hb hd) ?_
  have h1 := x.cross
  have h2 := y.cross
  calc (p * s + r * q) * (b * d) = (p * b) * (s * d) + (r * d) * (q * b) := by grind
    _ = (a * q) * (s * d) + (c * s) * (q * b) := by rw [h1, h2]
    _ = (a * d + c * b) * (q * s) := by grind
theorem low_sub (hb : b ≠ 0) (hd : d ≠ 0) (x : Lo p q a b) (y : Lo r s c d) : low (p * s - r * q) (q * s) = low (a * d - c * b) (b * d) := by
  refine low_eq (Int.mul_ne_zero x.ne y.ne) (Int.mul_ne_zero hb hd) ?_
  have h1 := x.cross
  have h2 := y.cross
  calc (p * s - r * q) * (b * d) = (p * b) * (s * d) - (r * d) * (q * b) := by grind
    _ = (a * q) * (s * d) - (c * s) * (q * b) := by rw [h1, h2]
    _ = (a * d - c * b) * (q * s) := by grind
theorem low_mul (hb : b ≠ 0) (hd : d ≠ 0) (x : Lo p q a b) (y : Lo r s c d) : low (p * r) (q * s) = low (a * c) (b * d) := by
  refine low_eq (Int.mul_ne_zero x.ne y.ne) (Int.mul_ne_zero hb hd) ?_
  have h1 := x.cross
  have h2 := y.cross
  calc (p * r) * (b * d) = (p * b) * (r * d) := by grind
    _ = (a * q) * (c * s) := by rw [h1, h2]
    _ = (a * c) * (q * s) := by grind
theorem low_div (hb : b ≠ 0) (hc : c ≠ 0) (hr : r ≠ 0) (x : Lo p q a b) (y : Lo r s c d) : low (p * s) (q * r) = low (a * d) (b * c) := by
  refine low_eq (Int.mul_ne_zero x.ne hr) (Int.mul_ne_zero hb hc) ?_
  have h1 := x.cross
  have h2 := y.cross
  calc (p * s) * (b * c) = (p * b) * (c * s) := by grind
    _ = (a * q) * (r * d) := by rw [h1, h2]
    _ = (a * d) * (q * r) := by grind
theorem low_neg (hb : b ≠ 0) (x : Lo p q a b) : low (-p) q = low (-a) b := by
  refine low_eq x.ne hb ?_
  have h1 := x.cross
  grind
theorem low_abs (hb : b ≠ 0) (x : Lo p q a b) : low (if p < 0 then -p else p) q = low (if a < 0 then -a else a) (if b < 0 then -b else b) := by
  have h1 := x.cross
  have h0 := x.pos
  refine low_eq x.ne (by split <;> omega) ?_
  have n1 : ∀ z : Int, (if z < 0 then -z else z) = (z.natAbs : Int) := fun z => by split <;> omega
  rw [n1, n1, n1]
  have e := congrArg Int.natAbs h1
  rw [Int.natAbs_mul, Int.natAbs_mul] at e
  have e2 : (q.natAbs : Int) = q := by omega
  calc (p.natAbs : Int) * (b.natAbs : Int) = ((p.natAbs * b.natAbs : Nat) : Int) := by push_cast; rfl
    _ = ((a.natAbs * q.natAbs : Nat) : Int) := by rw [e]
    _ = (a.natAbs : Int) * q := by push_cast; rw [e2]
theorem low_zero (hb : b ≠ 0) (x : Lo p q a b) : p = 0 ↔ a = 0 := by
  have h1 := x.cross
  constructor
  · intro h; subst h
    rw [Int.zero_mul] at h1
    rcases Int.mul_eq_zero.mp h1.symm with h | h
    · exact h
    · exact absurd h x.ne
  · intro h; subst h
    rw [Int.zero_mul] at h1
    rcases Int.mul_eq_zero.mp h1 with h | h
    · exact h
    · exact absurd h hb
theorem low_iff (hb : b ≠ 0) (hd : d ≠ 0) (h1 : (p, q) = low a b) (h2 : (r, s) = low c d) : (p = r ∧ q = s) ↔ a * d = c * b := by
  constructor
  · rintro ⟨rfl, rfl⟩
    exact low_of hb hd (h1.symm.trans h2)
  · intro h
    have := h1.trans ((low_eq hb hd h).trans h2.symm)
    exact ⟨congrArg Prod.fst this, congrArg Prod.snd this⟩
theorem sq_pos (h : d ≠ 0) : 0 < d * d := by
  rcases Int.lt_or_gt_of_ne h with h | h
  · exact Int.mul_pos_of_neg_of_neg h h
  · exact Int.mul_pos h h
theorem mul_lt_iff {x y k : Int} (hk : 0 < k) : x * k < y * k ↔ x < y := ⟨fun h => Int.lt_of_mul_lt_mul_right h (Int.le_of_lt hk), fun h => Int.mul_lt_mul_of_pos_right h hk⟩
theorem low_lt (hb : b ≠ 0) (hd : d ≠ 0) (x : Lo p q a b) (y : Lo r s c d) : p * s < r * q ↔ a * b * d * d < c * d * b * b := by
  have h1 := x.cross
  have h2 := y.cross
  have k1 : 0 < (b * b) * (d * d) := Int.mul_pos (sq_pos hb) (sq_pos hd)
  have k2 : 0 < q * s := Int.mul_pos x.pos y.pos
  rw [← mul_lt_iff (x := p * s) k1, ← mul_lt_iff (x := a * b * d * d) k2]
  have e1 : p * s * (b * b * (d * d)) = a * b * d * d * (q * s) := by
    calc p * s * (b * b * (d * d)) = (p * b) * (s * b * (d * d)) := by grind
      _ = (a * q) * (s * b * (d * d)) := by rw [h1]
      _ = a * b * d * d * (q * s) := by grind
  have e2 : r * q * (b * b * (d * d)) = c * d * b * b * (q * s) := by
    calc r * q * (b * b * (d * d)) = (r * d) * (q * d * (b * b)) := by grind
      _ = (c * s) * (q * d * (b * b)) := by rw [h2]
      _ = c * d * b * b * (q * s) := by grind
  rw [e1, e2]
/-! with an integer -/
theorem lo_int (n : Int) : Lo n 1 n 1 := ⟨by decide, by simp, rfl⟩
theorem low_int (n : Int) : (n, 1) = low n 1 := by unfold low; simp
end RT
namespace RT
variable {p q a b n : Int}
theorem li_add (hb : b ≠ 0) (x : Lo p q a b) : low (p * 1 + n * q) (q * 1) = low (a + n * b) b := low_eq (by rw [Int.mul_one]; exact x.ne) hb (by have := x.cross; grind)
theorem li_radd (hb : b ≠ 0) (x : Lo p q a b) : low (n * q + p) q = low (a + n * b) b := low_eq x.ne hb (by have := x.cross; grind)
theorem li_sub (hb : b ≠ 0) (x : Lo p q a b) : low (p * 1 - n * q) (q * 1) = low (a - n * b) b := low_eq (by rw [Int.mul_one]; exact x.ne) hb (by have := x.cross; grind)
theorem li_rsub (hb : b ≠ 0) (x : Lo p q a b) : low (n * q - p) q = low (n * b - a) b := low_eq x.ne hb (by have := x.cross; grind)
theorem li_mul (hb : b ≠ 0) (x : Lo p q a b) : low (p * n) (q * 1) = low (a * n) b := low_eq (by rw [Int.mul_one]; exact x.ne) hb (by have := x.cross; grind)
theorem li_rmul (hb : b ≠ 0) (x : Lo p q a b) : low (n * p) q = low (a * n) b := low_eq x.ne hb (by have := x.cross; grind)
theorem li_div (hb : b ≠ 0) (hn : n ≠ 0) (x : Lo p q a b) : low (p * 1) (q * n) = low a (b * n) := low_eq (Int.mul_ne_zero x.ne hn) (Int.mul_ne_zero hb hn) (by have := x.cross; grind)
theorem li_lt (hb : b ≠ 0) (x : Lo p q a b) : p * 1 < n * q ↔ a * b < n * b * b := by
  have h := low_lt hb (by decide) x (lo_int n)
  simpa using h
end RT

set_option Elab.async false
set_option linter.all false
set_option maxRecDepth 100000
set_option maxHeartbeats 4000000
/-! a lambda handed to a def that calls it in a try with several clauses 'except C as e' -/
namespace XV
open PySem PySem.Spec PyProof.Rows L2 LamX
section
variable {X : Cx} {pins : List (Addr × Obj)} {σ : L2.St} {H : Hp} {s : Shared}
/-- x(), in the def that got the lambda; what that def wishes of an error may look at its own slots -/
theorem pe_actS {CXg : CXT} {Eg : XK} {Ng : List Str} {qg : Str} {sg : Scope} {g f c' : Addr} {cdg pm ctv : Value} {pa : Arguments} {bd : Expr} {sc : Scope} {k i : Nat} {a : Str} {pn : List (Addr × Obj)} {xe : Value → Shared → Prop} {W : WX} {tb : XK → TE} {p1 p2 : Pos}
    (I : Inv X pins σ H s) (L : LamS X.env.scope sc) (hf : s.heap.get? f = some (PySem.W.kla_obj "<lambda>" (X.env.qual ++ "<lambda>") pa bd sc (cloFrom X.env.cells sc.names []) pm c' ctv)) (hfn : H f = none) (hfr : f ∉ frs X.stack)
    (hbi : bindArgs (PySem.W.kla_fn "<lambda>" (X.env.qual ++ "<lambda>") pa bd sc (cloFrom X.env.cells sc.names []) pm (.ref c') ctv) ⟨[], []⟩ = pure [])
    (tk : Takes ((cxOf CXg X.prog X.w X.K X.mg X.base Ng qg sg g cdg X.A X.stack s H Eg).tr pn xe) W) (hr : Room (k + 1) (X.A.deeper (envOfC qg sg s.heap.objs.size g cdg)))
    (hbo : ∀ (A : Around) (outer : List Env) (s : Shared) (H : Hp) (E : XK), Room k (A.deeper (lamEnv X sc s.heap.objs.size f c')) → PE (lamCx X A outer s H E sc f c') bd (tb E))
    (hN : Ng[i]? = some a) (hv : Vis sg a) (hd : (a == ("__debug__" : Str)) = false := by decide) (hcd : (a == ("__classdict__" : Str)) = false := by decide) :
    PE ((cxOf CXg X.prog X.w X.K X.mg X.base Ng qg sg g cdg X.A X.stack s H Eg).tr pn xe) (.Call (.Name a p1) [] [] p2)
      (fun σZ HZ Q => σZ[i]? = some (some (.ref f)) ∧ HZ c' = some (CodeO c' (X.env.qual ++ "<lambda>")) ∧ tb (WE W σZ) σ HZ Q) := by
  refine ⟨fun pinsZ sZ σZ HZ Q IZ ⟨hs, hc, ht⟩ => wpAny_Call_Name_kw (thn ((pe_var (pos := p1) (i := i) hN hv hd hcd).run pinsZ sZ σZ HZ (fun v H1 => v = .ref f ∧ H1 = HZ) IZ ⟨.ref f, hs, rfl, rfl⟩) fun u s1 ⟨v, H1, I1, r1, ev, eH⟩ => ?_)⟩
  subst ev; rw [eH] at I1; obtain rfl : u = Value.ref f := r1
  have fo : s1.heap.get? f = some (PySem.W.kla_obj "<lambda>" (X.env.qual ++ "<lambda>") pa bd sc (cloFrom X.env.cells sc.names []) pm c' ctv) := I1.base.keep f _ hf hfn hfr (fun z => nomatch (show f ∈ ([] : List Addr) from z))
  have un : Un (frs X.stack) [] H HZ s.heap s1.heap := I1.base
  obtain ⟨⟨oc, vs, t, hoc, hdc, hvc⟩, _, _⟩ := I1.hok c' _ hc
  refine PySem.W.callWith_F0 ⟨_, _, _, _, fo⟩ (wpAny_call (codeAny_mono (PySem.W.kla_callFunE (R := CR (L2.CX X.prog X.w) (envOfC qg sg s.heap.objs.size g cdg :: X.stack) X.prog X.w HZ s1 Q (WE W σZ)) hr.depth fo rfl L.co L.gen rfl ⟨c', oc, vs, t, rfl, hoc, hdc, hvc⟩ ?_) fun r s' hq => ?_))
  · refine (show ∀ m : Sem (List (Str × Value)), m = pure [] → ∀ {M : Model} {B : Around} {P : List (Str × Value) → Shared → Prop} {E : Value → Shared → Prop} {z : Shared}, P [] z → wpAny M B m P E z from fun m e _ _ _ _ _ h => by rw [e]; exact wpAny_pure h) _ hbi ?_
    refine (wpAny_newFunctionEnv (fun y hy => (L.own y hy).2) (fun y hy => absurd hy (by simp)) (fun h₁ hns hsb => ⟨I1.nolimit.fresh _ hsb, PySem.W.kla_codeExpr ?_⟩) L.kind)
    have kp : ∀ b o, s1.heap.get? b = some o → h₁.get? b = some o := fun b o e => hsb.extBut b o (Nat.ne_of_lt (Heap.lt_size e)) (Heap.get?_push_of_some _ e)
    have J : Inv (lamCx X (X.A.deeper (envOfC qg sg s.heap.objs.size g cdg)) (envOfC qg sg s.heap.objs.size g cdg :: X.stack) s1 HZ (WE W σZ) sc f c') [] σ HZ { s1 with heap := h₁, toks := s1.toks + ([] : List (Str × Value)).length } := lam_start2 I L I1.env0 hr.hd un hns kp
    refine wpAny_mono ((hbo _ _ s1 HZ _ (hr.deeper _)).run [] _ _ HZ Q J ht) (fun v s' ⟨w', H', J', rv, q⟩ => ?_) fun e s' hq => hq
    exact ⟨w', H', J'.os, J'.bare, J'.base, J'.hok, rv, q⟩
  · cases r with
    | error e => exact passAt tk σZ pinsZ HZ s1 e s' I1 hq
    | ok fl => cases fl with
      | ret u => exact I1.after hq
      | next => exact hq.elim
      | brk => exact hq.elim
      | cont => exact hq.elim
end
/-- as GivesTo: the wish of an error may look at the def's own slots -/
def GivesS (X : Cx) (Ng : List Str) (x : Str) (sg : Scope) (g : Addr) (cdg : Value) (bg : List Stmt) (a : Str) (q : Str) (TT : (XK → Hp → VK → Prop) → Hp → VK → Prop) : Prop :=
  ∀ (f c' : Addr) (s : Shared) (H : Hp) (Q : VK) (tl : XK → Hp → VK → Prop),
    (∀ (W : WX) (pn : List (Addr × Obj)) (xe : Value → Shared → Prop) (p1 p2 : Pos), Takes ((cxOf C8.CX0 X.prog X.w X.K X.mg X.base Ng x sg g cdg X.A X.stack s H C8.E0).tr pn xe) W →
      PE ((cxOf C8.CX0 X.prog X.w X.K X.mg X.base Ng x sg g cdg X.A X.stack s H C8.E0).tr pn xe) (.Call (.Name a p1) [] [] p2) (fun σZ HZ Q => σZ[0]? = some (some (.ref f)) ∧ HZ c' = some (CodeO c' q) ∧ tl (WE W σZ) HZ Q)) →
    H c' = some (CodeO c' q) → TT tl H Q →
    ∃ t, PSs (cxOf C8.CX0 X.prog X.w X.K X.mg X.base Ng x sg g cdg X.A X.stack s H C8.E0).nox bg t ∧ t { nx := fun _ H' => Q .non H', rt := Q } (L2.start Ng [.ref f]) H
section
variable {X : Cx}
/-- x(lambda: body) -/
theorem pe_lamcallS {T : List (Addr × Str)} {TT : (XK → Hp → VK → Prop) → Hp → VK → Prop} {x a : Str} {g c P : Addr} {k : Nat} {st : Stmt} {fd : FuncData} {Ng : List Str}
    {pa : Arguments} {bd : Expr} {sc : Scope} {t : XK → TE} {p lpos pos : Pos} (F : L2.Fun X.K x x st g fd) (hg : Gl X x) (hm : X.mg x = some (.ref g)) (hb : L2.Binds X.K fd [a] []) (Sg : FnScope Ng [a] (defScope st)) (hNg : Ng[0]? = some a) (hva : Vis (defScope st) a)
    (hG : ∀ cdv, GivesS X Ng x (defScope st) g cdv (defBody st) a (X.env.qual ++ "<lambda>") TT)
    (TB : TabB X.base X.mg c P) (hcode : X.env.code = .ref c) (hmT : (P, X.env.qual ++ "<lambda>") ∈ T) (hu : ∀ p ∈ T, p.1 = P → p.2 = X.env.qual ++ "<lambda>") (hr : Room (k + 2) X.A) (L : LamS X.env.scope sc) (hdef : defaultsOf pa X.env = ([], []))
    (hbi : ∀ (q : Str) (cl : List (Str × Addr)) (pm cv ctv : Value), bindArgs (PySem.W.kla_fn "<lambda>" q pa bd sc cl pm cv ctv) ⟨[], []⟩ = pure [])
    (hbo : ∀ (A : Around) (outer : List Env) (s : Shared) (H : Hp) (E : XK) (f c' : Addr), Room k (A.deeper (lamEnv X sc s.heap.objs.size f c')) → PE (lamCx X A outer s H E sc f c') bd (t E))
    (hdb : (x == ("__debug__" : Str)) = false := by decide) (hd : (a == ("__debug__" : Str)) = false := by decide) (hcd : (a == ("__classdict__" : Str)) = false := by decide) :
    PE X (.Call (.Name x p) [.Lambda pa bd sc lpos] [] pos) (tLam T TT t) := by
  obtain ⟨oc, od, kV, doc, pm, an, cdv, ct, osl, rfl, lk, hcg⟩ := F.ex
  refine ⟨fun pins s σ H Q I ⟨hT, h⟩ => wpAny_Call_Name_kw (ld_glob I hg hm (PySem.W.callWith_K (h₀ := X.base) I.ok.mod.kin F.kp ?_ (by rfl) (by rfl)) hdb)⟩
  show wpAny _ _ (spliced ((false, eval (.Lambda pa bd sc lpos) X.env) :: backTo pos (starEach [] X.env))) _ _ s
  refine Calls.spliced_cons (lam_make2 I TB hcode hmT hu hT hdef (L.has I.ok) fun f c' pm' ctv H1 s' I1 eN T1 hf hfn hfr hco => Calls.spliced_nil ⟨I1.kIn, ?_⟩)
  have rc : codeAny (model X.prog X.w) X.A (.call (.ref g) ⟨[.ref f], []⟩) (CR C8.CX0 X.stack X.prog X.w H1 s' Q C8.E0) s' :=
    run_ofS (N := Ng) (ps := [a]) (us := [.ref f]) (vs := [.ref f]) lk hcg Sg hr I1.env0 (hb s' [.ref f] I1.kIn rfl) (.cons rfl .nil) rfl fun hr' => by
      obtain ⟨t', ht', hq'⟩ := hG cdv f c' s' H1 Q (fun E H' Q' => t E σ H' Q') (fun W pn xe p1 p2 tk => pe_actS (i := 0) I1 L hf hfn hfr (hbi _ _ _ _ _) tk hr' (fun A outer s H E hr2 => hbo A outer s H E f c' hr2) hNg hva hd hcd) hco (h H1 eN T1)
      exact ⟨t', ht'.nox, hq'⟩
  refine wpAny_call (codeAny_mono rc fun r s2 hq => ?_)
  cases r with
  | error e => exact hq.elim
  | ok fl => cases fl with
    | ret u => exact I1.after hq
    | next => exact hq.elim
    | brk => exact hq.elim
    | cont => exact hq.elim
end
/-! ### several clauses, each 'as n' -/
/-- what the clauses wish, one after the other: slot i is n's -/
def wManyAs (K : PySem.W.Frag) (i : Nat) (Wout : WX) (D : Ends) : List (Value × (Addr → Value → Option Addr → TS)) → WX
  | [] => Wout
  | (c, ts) :: r => wAs K c i ts (wManyAs K i Wout D r) D
inductive HdsAs (X : Cx) (n : Str) : List ExceptHandler → List (Value × (Addr → Value → Option Addr → TS)) → Prop
  | nil : HdsAs X n [] []
  | cons {x : Str} {c : Value} {ts : Addr → Value → Option Addr → TS} {b₀ : Stmt} {su : List Stmt} {np p' : Pos} {hds : List ExceptHandler} {l : List (Value × (Addr → Value → Option Addr → TS))} (hc : Names X x c)
      (hsu : ∀ (a : Addr) (oe : Obj) (cls : Value) (d : Option Addr) (pn : List (Addr × Obj)), Zc cls d oe → (∃ vs, oe.data = .fields vs) → PSs (X.suite a ((a, oe) :: pn)) (b₀ :: su) (ts a cls d)) (r : HdsAs X n hds l) :
      HdsAs X n (.ExceptHandler (some (.Name x np)) (some n) (b₀ :: su) p' :: hds) ((c, ts) :: l)
section
variable {X : Cx} {body : List Stmt} {h₀ : ExceptHandler} {hds : List ExceptHandler} {l : List (Value × (Addr → Value → Option Addr → TS))} {pos : Pos} {tb : WX → TS} {Wout : WX} {n : Str} {i : Nat}
theorem ps_try_manyAs (hs : X.stack = X.env :: X.outer) (hf : X.env.frame = some X.env.locals) (hN : X.N.Nodup) (hi : X.N[i]? = some n) (hln : X.env.kindOf n = some .local) (tk : Takes X Wout)
    (hb : ∀ (W : WX) (pn : List (Addr × Obj)) (xe : Value → Shared → Prop), Takes (X.tr pn xe) W → PassesOwn (model X.prog X.w) X.A X.env xe → PSs (X.tr pn xe) body (tb W))
    (hh : HdsAs X n (h₀ :: hds) l) : PS X (.Try body (h₀ :: hds) [] [] pos) (fun D σ H => tb (wManyAs X.K i Wout D l) D σ H) := by
  refine ⟨fun pins s σ H D I h => wpAny_Try_except ?_⟩
  have ok := I.ok
  have hfr : X.A.frames = some (X.env :: X.outer) := ok.frames.trans (by rw [hs])
  refine wpAny_mono ((hb (wManyAs X.K i Wout D l) (X.pn ++ pins) (fun e z₁ => wpAny (model X.prog X.w) X.A (noteFrame e X.env) (fun _ z₂ => wpAny (model X.prog X.w) X.A (setFlight e none) (fun _ z₃ =>
    wpAny (model X.prog X.w) X.A (handleBy e X.env (h₀ :: hds)) (SP X pins D) X.xe z₃) X.xe z₂) X.xe z₁) (fun u s' xx => ?_) PassesOwn.looking).run [] s σ H D (I.toTry _) h) (fun f z1 hsp => ?_) (fun _ _ he => he)
  · obtain ⟨a, B, sI, pins', σ', H', cls, d, rfl, J', nb, up, sky, na, os, ag, w⟩ := xx
    have J : Inv X pins σ' H' sI := J'.ofTry ok
    refine Sky.land Zc.steady hfr hf (show Sky B (X.env :: X.outer) a (Zc cls d) X.env.locals s'.heap by rw [← hs]; exact sky) fun h3 fl3 up3 => ?_
    have J3 : Inv X pins σ' H' { s' with heap := h3 } := J.landed nb fl3.1 (up.trans up3) os ag
    obtain ⟨oe3, vs3, he3, hz3, hd3⟩ := fl3.there
    have nfr : a ∉ frs (X.env :: X.outer) := fun hm => by
      obtain ⟨_, o', e', hnf⟩ := fl3.2.2.1.mem hm
      rw [he3] at e'; cases e'
      exact hnf _ hd3
    have nL : a ≠ X.env.locals := fun z => nfr (List.mem_filterMap.mpr ⟨X.env, List.mem_cons_self, by rw [hf, z]⟩)
    have nF : a ∉ X.fs := fun hm => by
      obtain ⟨e, he, q⟩ := List.mem_filterMap.mp hm
      exact nfr (List.mem_filterMap.mpr ⟨e, List.mem_cons_of_mem _ he, q⟩)
    have S3 := J3.suite he3 hd3 na nL nF
    have go : ∀ {hs' : List ExceptHandler} {l' : List (Value × (Addr → Value → Option Addr → TS))}, HdsAs X n hs' l' → wManyAs X.K i Wout D l' cls d σ' H' →
        wpAny (model X.prog X.w) X.A (handleBy (.ref a) X.env hs') (SP X pins D) X.xe { s' with heap := h3 } := by
      intro hs' l' hk
      induction hk with
      | nil =>
        intro w
        obtain ⟨k1, k2, k3, oe, vs, T, oT, ts', he, hz, hd, h1, hr⟩ := id fl3
        refine wpAny_handleBy_nil ?_
        unfold PySem.passOn
        refine wpAny_bind (wpAny_field he hd h1 ?_)
        have nt : ¬ ((Value.ref T == Value.none) = true) := by simp
        rw [if_neg nt]
        have fin : wpAny (model X.prog X.w) X.A (setFlight (.ref a) X.env.frame) (fun _ z4 => wpAny (model X.prog X.w) X.A (throw (.ref a) : Sem Flow) (SP X pins D) X.xe z4) X.xe { s' with heap := h3 } := by
          rw [hf]
          exact HandSPX.setFlight_upZ fl3 fun h4 hh4 up4 => wpAny_throw (tk _ _ ⟨a, B, sI, pins, σ', H', cls, d, rfl, J, nb, (up.trans up3).trans up4, .inr (.inr (by rw [hs]; exact hh4)), na, os, ag, w⟩)
        first | exact wpAny_bind (wpAny_pure (wpAny_bind fin)) | exact wpAny_bind fin
      | @cons x c ts b₀ su np p' hds2 l2 hc hsu r ih =>
        intro ⟨b, hb1, hyes, hno⟩
        refine wpAny_handleBy_cons (codeAny_handlers_test ?_) (by intro q; cases q)
        have LT : PySem.W.Looks (model X.prog X.w) h3 (typeOf (.ref a)) cls := fun A Q E z k q => wpAny_typeOf_ref (k _ _ he3) (by rw [hz3.1]; exact q)
        have LM := PySem.W.exm_one (M := model X.prog X.w) (J3.kIn) LT hb1
        have test : ∀ {Q : Value → Shared → Prop} {E : Value → Shared → Prop}, Q c { s' with heap := h3 } → wpAny (model X.prog X.w) (X.A.mark (some (.ref a))) (eval (.Name x np) X.env) Q E { s' with heap := h3 } := fun {Q E} q =>
          match hc with
          | ⟨hg, hdbg, .inl hm⟩ => ld_glob (X := X.suite a ((a, oe3) :: (X.pn ++ pins))) S3 hg hm q hdbg
          | ⟨hg, hdbg, .inr ⟨hm, hv, hnn⟩⟩ => ld_blt (X := X.suite a ((a, oe3) :: (X.pn ++ pins))) S3 hg hm hv q hnn hdbg
        refine test (LM.here ?_)
        cases b with
        | true =>
          refine codeAny_handlers_suite_as (HandSPX.lands_againZ fl3 fun h4 fl4 up4 => ?_)
          have J4 : Inv X pins σ' H' { s' with heap := h4 } := J.landed nb fl4.1 ((up.trans up3).trans up4) os ag
          obtain ⟨oe4, vs4, he4, hz4, hd4⟩ := fl4.there
          have S4 := J4.suite he4 hd4 na nL nF
          refine store_ok (X := X.suite a ((a, oe4) :: (X.pn ++ pins))) (v := .ref a) S4 hN hi (.inl hln) rfl (fun s5 S5 => ?_) (.inr hln)
          refine wpAny_mono ((hsu a oe4 cls d (X.pn ++ pins) hz4 ⟨_, hd4⟩).run [] s5 _ H' _ S5 (hyes rfl a na)) (fun f s6 hsp => ?_) (fun _ _ z => False.elim z)
          have gone : ∀ {σ6 : L2.St} {H6 : Hp} {Q : Shared → Prop}, Inv (X.suite a ((a, oe4) :: (X.pn ++ pins))) [] σ6 H6 s6 → (∀ s7, Inv X pins (σ6.set i none) H6 s7 → Q s7) →
              wpAny (model X.prog X.w) X.A (do bindName X.env n .none; unbindBehindTheSuite X.env n p') (fun _ s7 => Q s7) X.xe s6 := fun {σ6 H6 Q} S6 hq => gone_ok (S6.unsuite ok) hN hi hln hq
          cases f with
          | next => obtain ⟨σ6, H6, S6, q6⟩ := hsp; exact gone S6 fun _ J7 => ⟨_, _, J7, q6⟩
          | brk => obtain ⟨σ6, H6, S6, q6⟩ := hsp; exact gone S6 fun _ J7 => ⟨_, _, J7, q6⟩
          | cont => obtain ⟨σ6, H6, S6, q6⟩ := hsp; exact gone S6 fun _ J7 => ⟨_, _, J7, q6⟩
          | ret u => obtain ⟨v6, σ6, H6, S6, r6, q6⟩ := hsp; exact gone S6 fun _ J7 => ⟨_, _, _, J7, r6, q6⟩
        | false => exact ih (hno rfl)
    exact go hh w
  · cases f with
    | next => obtain ⟨σ', H', J', q⟩ := hsp; exact wpAny_execs_nil ⟨σ', H', J'.ofTry ok, q⟩
    | brk => obtain ⟨σ', H', J', q⟩ := hsp; exact ⟨σ', H', J'.ofTry ok, q⟩
    | cont => obtain ⟨σ', H', J', q⟩ := hsp; exact ⟨σ', H', J'.ofTry ok, q⟩
    | ret u => obtain ⟨v, σ', H', J', r, q⟩ := hsp; exact ⟨v, σ', H', J'.ofTry ok, r, q⟩
end
/-! ### isinstance of the caught error -/
/-- isinstance(e, c), e the exception that the suite holds, with or without a dict of its own -/
def rIsZ (K : PySem.W.Frag) (a : Addr) (cls : Value) (d : Option Addr) : List V → Hp → VK → Prop := fun xs H Q => ∃ (D : Addr) (c : V) (cv : Value) (b : Bool), xs = [.ref a, c] ∧ cls = .ref D ∧ ErrR K D ∧ (d = none ∨ ∃ dd fs, d = some dd ∧ H dd = some (.xd fs)) ∧ ClsV c cv ∧ PySem.W.kitOne K (.ref D) cv = some b ∧ Q (.bl b) H
theorem call_isZ {X : Cx} {a : Addr} {oe : Obj} {cls : Value} {d : Option Addr} {pn : List (Addr × Obj)} (hz : Zc cls d oe) (hf : ∃ vs, oe.data = .fields vs) : CallR (X.suite a ((a, oe) :: pn)) (.builtin "isinstance") (rIsZ X.K a cls d) := by
  intro pins s σ H xs us Q I r h
  obtain ⟨D, c, cv, b, rfl, rfl, R, hdd, hc, e, q⟩ := h
  obtain ⟨u1, u2, rfl, r1, r2⟩ := vals2 r
  obtain rfl : u1 = Value.ref a := r1
  have e2 := hc.eq r2
  subst e2
  obtain ⟨hget, _⟩ := I.pin (a, oe) (List.mem_append.mpr (.inl List.mem_cons_self))
  obtain ⟨vs, hv⟩ := hf
  have J : ∃ od, PySem.W.InstAt s.heap a oe D od := by
    rcases hdd with rfl | ⟨dd, fs, rfl, hd⟩
    · exact ⟨none, hget, hz.1, by unfold PySem.W.notCls; rw [hv] <;> rfl, by rw [hz.2]; trivial⟩
    · obtain ⟨mA, hns, _⟩ := (show ObjOk X.prog X.w H s.heap dd (.xd fs) from I.hok dd _ hd)
      obtain ⟨od, ho, _⟩ := lookIn_ns hns
      exact ⟨some od, hget, hz.1, by unfold PySem.W.notCls; rw [hv] <;> rfl, by rw [hz.2]; exact ho⟩
  obtain ⟨od, J⟩ := J
  exact PySem.W.kia_one (PySem.W.kitx_exc R.cl R.ga R.gt R.sb R.ca R.cg R.ct R.mo) I.kIn J e (fun z => nomatch z) fun tk => ⟨.bl b, H, I.kept (t' := tk) fun _ _ z => z, rfl, q⟩
end XV

set_option Elab.async false
set_option linter.all false
set_option maxRecDepth 100000
set_option maxHeartbeats 4000000
/-! the end of a law whose defs make lambdas; such a def -/
namespace XV
open PySem PySem.Spec PyProof.Rows L2 LamX
/-- what the head leaves of the defs' tables -/
def TabFact (q : Program) (K : PySem.W.Frag) (h : Heap) : Prop := ∀ (c P : Addr) (y : Str), ((recsOf q).find? fun r => r.name == y).isSome = true → PySem.W.tabIn K y = some (c, P) →
  PySem.W.CodeHd h c P ∧ h.get? P = some { cls := .none, data := .fields #[] }
theorem walk_ofTab {l : PySem.W.OpenLaw} {n k : Nat} {q : Program} {loose : List Str} {XP : (Str → Option Value) → Heap → Prop} {YP : World → Heap → Prop} {d : DefRec} {K : Params → PySem.W.Frag} {CX : World → CXT} {x : Str}
    (hn : l.most = some n) (hz : n ≤ sizeLine) (hdf : d.params.defaults = []) (hr : Room k callerA) (hY : ∀ (w : World) (h : Heap), YP w h → (K w.params).In h)
    (F : ∀ (w : World) (mg : Str → Option Value) (fa : Addr) (h : Heap), TabFact q (K w.params) h → YP w h → (K w.params).In h → h.Ns mainGlobals mg → mg d.name = some (.ref fa) → LawAtS l w (K w.params) (CX w) k n x mg fa h)
    (hCX : ∀ (w : World) (H : Hp) (s : Shared) (e : Value) (s' : Shared), CX w [] H s (fun _ _ _ => False) e s' → False) :
    PySem.W.WalkO q loose XP YP l.row.toRowW d [] (fun f vs => PySem.call f vs) :=
  Att.attach_callB hn hdf fun w z₀ z₁ mg mb fa o pm cd doc a vs ns G Y ho hd hcd hmg hobj hints hlen hbits hg => by
    have KX := hY w _ Y
    have TF : TabFact q (K w.params) z₁.heap := fun c P y hy ht => by
      obtain ⟨e, he⟩ := Option.isSome_iff_exists.mp hy
      exact PySem.W.tab_of G.T KX he ht
    obtain ⟨fd, cs, sp, hT, nT, C, hb, hsp, hF⟩ := F w mg fa _ TF Y KX G.T.g hmg
    exact law_callTs KX G.T.g G.T.b G.T.builtins G.T.nolimit hg hT nT C G.T.bmain hobj hints (Nat.le_trans hlen hz) hr hF hb (fun H hH hS => hsp H a ns hlen hbits hH hS) fun H e s' => hCX w H z₁ e s'
theorem tab_mk {K : PySem.W.Frag} {x : Str} {f c P : Addr} {oc oc2 : Value} {od od2 : Option Addr} {fd : FuncData} {sl sl2 : Array (Option Value)} {vs : Array Value} (a : PySem.W.nsIn K mainGlobals x = some (some (.ref f))) (l : K.lookup f = some ⟨oc, od, .func fd, sl⟩)
    (hc : fd.code = .ref c) (e : K.lookup c = some ⟨oc2, od2, .fields vs, sl2⟩) (v : vs[11]? = some (.ref P)) : PySem.W.tabIn K x = some (c, P) := by
  unfold PySem.W.tabIn
  rw [a]
  simp only [l, hc, e, v]
/-- as Fun, its code object told -/
structure FunC (K : PySem.W.Frag) (x qual : Str) (st : Stmt) (f : Addr) (fd : FuncData) (c : Addr) : Prop where
  ex : ∃ (oc : Value) (od : Option Addr) (kV doc pm : Value) (an : Option Addr) (ct : Value) (osl : Array (Option Value)),
    fd = PySem.W.fnOf x qual (defArgs st) (defBody st) (defScope st) .none kV doc pm an (.ref c) ct ∧ K.lookup f = some ⟨oc, od, .func fd, osl⟩ ∧ PySem.W.codeIn K (.ref c) qual = true
  kp : PySem.W.keepIn K (.ref f) = true
theorem FunC.ok {P : Program} {w : World} {K : PySem.W.Frag} {mg : Str → Option Value} {base : Heap} {x qual : Str} {st : Stmt} {f c : Addr} {fd : FuncData} {N ps : List Str} {k : Nat} {sp : Sp} (F : FunC K x qual st f fd c) (S : FnScope N ps (defScope st)) (len : ∀ vs H Q E, sp vs H Q E → vs.length = ps.length)
    (hbo : ∀ (A : Around) (outer : List Env) (s : Shared) (H : Hp) (vs : List V) (Q : VK) (E : XK), Room k (A.deeper (envOfC qual (defScope st) s.heap.objs.size f (.ref c))) → sp vs H Q E →
      ∃ t, PSs (cxOf CX0 P w K mg base N qual (defScope st) f (.ref c) A outer s H E).nox (defBody st) t ∧ t { nx := fun _ H' => Q .non H', rt := Q } (start N vs) H) : FnOk P w K mg base CX0 (k + 1) f fd ps sp := by
  obtain ⟨oc, od, kV, doc, pm, an, ct, osl, rfl, lk, hcd⟩ := F.ex
  refine fn_of lk hcd S len fun A outer s H vs Q E hr hsp => ?_
  obtain ⟨t, h, q⟩ := hbo A outer s H vs Q E hr hsp
  exact ⟨t, h.nox, q⟩
theorem func_mk {K : PySem.W.Frag} {x qual : Str} {st : Stmt} {f c : Addr} {oc : Value} {od an : Option Addr} {osl : Array (Option Value)} {kV doc pm ct : Value} (l : K.lookup f = some ⟨oc, od, .func (PySem.W.fnOf x qual (defArgs st) (defBody st) (defScope st) .none kV doc pm an (.ref c) ct), osl⟩)
    (h : PySem.W.codeIn K (.ref c) qual = true) (k : PySem.W.keepIn K (.ref f) = true) : FunC K x qual st f (PySem.W.fnOf x qual (defArgs st) (defBody st) (defScope st) .none kV doc pm an (.ref c) ct) c := ⟨⟨oc, od, kV, doc, pm, an, ct, osl, rfl, l, h⟩, k⟩
theorem FunC.fn {K : PySem.W.Frag} {x qual : Str} {st : Stmt} {f c : Addr} {fd : FuncData} (F : FunC K x qual st f fd c) : L2.Fun K x qual st f fd := let ⟨oc, od, kV, doc, pm, an, ct, osl, h⟩ := F.ex; ⟨⟨oc, od, kV, doc, pm, an, _, ct, osl, h⟩, F.kp⟩
end XV

set_option Elab.async false
set_option linter.all false
set_option maxRecDepth 100000
set_option maxHeartbeats 4000000
/-! +, -, * of an own class and of ints on either side -/
namespace L2
open PySem PySem.Spec PyProof.Rows SlX
theorem dn_add : PySem.dunder (Operator.Add).info.2 = ("__add__" : Str) := by kernel_rfl
theorem dn_sub : PySem.dunder (Operator.Sub).info.2 = ("__sub__" : Str) := by kernel_rfl
theorem dn_mul : PySem.dunder (Operator.Mult).info.2 = ("__mul__" : Str) := by kernel_rfl
theorem dr_add : PySem.dunderR (Operator.Add).info.2 = ("__radd__" : Str) := by kernel_rfl
theorem dr_sub : PySem.dunderR (Operator.Sub).info.2 = ("__rsub__" : Str) := by kernel_rfl
theorem dr_mul : PySem.dunderR (Operator.Mult).info.2 = ("__rmul__" : Str) := by kernel_rfl
theorem fi_add (K : PySem.W.Frag) : PySem.W.findIn K (.type "int") "__add__" = some (some (.builtin "int.__add__")) := by unfold PySem.W.findIn; kernel_rfl
theorem fi_sub (K : PySem.W.Frag) : PySem.W.findIn K (.type "int") "__sub__" = some (some (.builtin "int.__sub__")) := by unfold PySem.W.findIn; kernel_rfl
theorem fi_mul (K : PySem.W.Frag) : PySem.W.findIn K (.type "int") "__mul__" = some (some (.builtin "int.__mul__")) := by unfold PySem.W.findIn; kernel_rfl
theorem fi_radd (K : PySem.W.Frag) : PySem.W.findIn K (.type "int") "__radd__" = some (some (.builtin "int.__radd__")) := by unfold PySem.W.findIn; kernel_rfl
theorem fi_rsub (K : PySem.W.Frag) : PySem.W.findIn K (.type "int") "__rsub__" = some (some (.builtin "int.__rsub__")) := by unfold PySem.W.findIn; kernel_rfl
theorem fi_rmul (K : PySem.W.Frag) : PySem.W.findIn K (.type "int") "__rmul__" = some (some (.builtin "int.__rmul__")) := by unfold PySem.W.findIn; kernel_rfl
/-- an own class's +, - or * -/
structure BinC (K : PySem.W.Frag) (C f g : Addr) (nm rm : Str) : Prop where
  sf : PySem.W.selfFirst K C = true
  hs : PySem.W.findIn K (.ref C) nm = some (some (.ref f))
  hf : PySem.W.isFn K (.ref f) = true
  hr : PySem.W.findIn K (.ref C) rm = some (some (.ref g))
  hg : PySem.W.isFn K (.ref g) = true
  is : PySem.W.subIn K (.type "int") (.ref C) = some false
  si : PySem.W.subIn K (.ref C) (.type "int") = some false
section
variable {X : Cx} {CX : CXT} {C f g : Addr} {n : Nat} {sp : Sp} {E : XK}
theorem op_addI (B : BinC X.K C f g "__add__" "__radd__") (F : FnR X.prog X.w X.K X.mg X.base CX n f sp) (hr : Room n X.A) (hx : Passes CX X E) : OpR X (binaryOp .Add) (rBinI C sp E) :=
  op_binI (op := .Add) B.sf (by rw [dn_add]; exact B.hs) B.hf (by rw [dr_add]; exact B.hr) (.inr ⟨g, rfl⟩) (by rw [dn_add]; exact fi_add _) (by rw [dr_add]; exact fi_radd _) B.is F hr hx
theorem op_subI (B : BinC X.K C f g "__sub__" "__rsub__") (F : FnR X.prog X.w X.K X.mg X.base CX n f sp) (hr : Room n X.A) (hx : Passes CX X E) : OpR X (binaryOp .Sub) (rBinI C sp E) :=
  op_binI (op := .Sub) B.sf (by rw [dn_sub]; exact B.hs) B.hf (by rw [dr_sub]; exact B.hr) (.inr ⟨g, rfl⟩) (by rw [dn_sub]; exact fi_sub _) (by rw [dr_sub]; exact fi_rsub _) B.is F hr hx
theorem op_mulI (B : BinC X.K C f g "__mul__" "__rmul__") (F : FnR X.prog X.w X.K X.mg X.base CX n f sp) (hr : Room n X.A) (hx : Passes CX X E) : OpR X (binaryOp .Mult) (rBinI C sp E) :=
  op_binI (op := .Mult) B.sf (by rw [dn_mul]; exact B.hs) B.hf (by rw [dr_mul]; exact B.hr) (.inr ⟨g, rfl⟩) (by rw [dn_mul]; exact fi_mul _) (by rw [dr_mul]; exact fi_rmul _) B.is F hr hx
theorem op_addR (B : BinC X.K C f g "__add__" "__radd__") (F : FnR X.prog X.w X.K X.mg X.base CX n g sp) (hr : Room n X.A) (hx : Passes CX X E) : OpR X (binaryOp .Add) (rBinR C sp E) :=
  op_binR (op := .Add) (id := "int.__add__") B.sf (by rw [dn_add]; exact B.hs) (by rw [dr_add]; exact B.hr) B.hg (by rw [dn_add]; exact fi_add _) (by rw [dr_add]; exact fi_radd _) (by decide +kernel) B.si PySem.F.slot_int_add PySem.F.entry_int_add (fun a b => PySem.F.args_int_add_2 a b) F hr hx
theorem op_subR (B : BinC X.K C f g "__sub__" "__rsub__") (F : FnR X.prog X.w X.K X.mg X.base CX n g sp) (hr : Room n X.A) (hx : Passes CX X E) : OpR X (binaryOp .Sub) (rBinR C sp E) :=
  op_binR (op := .Sub) (id := "int.__sub__") B.sf (by rw [dn_sub]; exact B.hs) (by rw [dr_sub]; exact B.hr) B.hg (by rw [dn_sub]; exact fi_sub _) (by rw [dr_sub]; exact fi_rsub _) (by decide +kernel) B.si PySem.F.slot_int_sub PySem.F.entry_int_sub (fun a b => PySem.F.args_int_sub_2 a b) F hr hx
theorem op_mulR (B : BinC X.K C f g "__mul__" "__rmul__") (F : FnR X.prog X.w X.K X.mg X.base CX n g sp) (hr : Room n X.A) (hx : Passes CX X E) : OpR X (binaryOp .Mult) (rBinR C sp E) :=
  op_binR (op := .Mult) (id := "int.__mul__") B.sf (by rw [dn_mul]; exact B.hs) (by rw [dr_mul]; exact B.hr) B.hg (by rw [dn_mul]; exact fi_mul _) (by rw [dr_mul]; exact fi_rmul _) (by decide +kernel) B.si PySem.F.slot_int_mul PySem.F.entry_int_mul (fun a b => PySem.F.args_int_mul_2 a b) F hr hx
end
end L2

set_option Elab.async false
set_option linter.all false
set_option maxRecDepth 100000
set_option maxHeartbeats 8000000
/-! sep.join(reversed(xs)), xs a list of texts -/
namespace L2
open PySem
theorem strs_pairs : ∀ {vs : List Value} {ys : List Str}, PyProof.Rows.StrsAre vs ys → ∃ l : List (Str × Tok), strValues l = vs ∧ l.map (fun p => p.1) = ys
  | _, _, .nil => ⟨[], rfl, rfl⟩
  | _, _, .cons y t h => by
    obtain ⟨l, e, f⟩ := strs_pairs h
    exact ⟨(y, t) :: l, by rw [← e]; rfl, by rw [← f]; rfl⟩
theorem gives_tail (x : Str) (l : List (Str × Tok)) (hok : JoinOk x (l.map fun p => p.1) = true) : Gives (joinTail x (strValues l)) (joinMade x l) := by
  have g0 := gives_joinTail x l (by simpa [JoinOk] using hok)
  rcases l with _ | ⟨p, _ | ⟨q, r⟩⟩
  · exact g0
  · exact g0
  · exact g0
theorem join_rev {prog : Program} {w : World} {A : Around} {E : Value → Shared → Prop} {s : Shared} {it a : Addr} {items : Array Value} {x : Str} {t : Tok} {ys : List Str} {Q : Value → Shared → Prop}
    (hh : A.handled = none) (hit : s.heap.IsRevIter it a (items.size - 1)) (hl : s.heap.IsList a items) (hne : a ≠ it) (hn : items.size ≤ sizeLine) (hs : Vals (ys.map V.str) items.toList) (hok : JoinOk x ys.reverse = true)
    (hQ : ∀ (h' : Heap) (k : Nat) (t' : Tok), (∀ (b : Addr) (o : Obj), b ≠ it → s.heap.get? b = some o → h'.get? b = some o) → Q (Value.str (Txt.join x ys.reverse) t') { heap := h', gens := s.gens, drawn := s.drawn, toks := k, os := s.os }) :
    wpAny (model prog w) A (call (Value.builtin "str.join") [Value.str x t, Value.ref it]) Q E s := by
  refine wpAny_call (codeAny_call_builtin F.slot_str_join.plain F.entry_str_join (F.slot_str_join.check _ _ _ _ _ _ _ _ (typeIs_str s x t) (F.args_str_join_2 _ _) ?_))
  rw [join_tree_other]
  refine wpAny_bind (wpAny_typeOf hit.typeIs ?_)
  rw [if_neg (by decide)]
  refine wpAny_bind (wpAny_tryCatch (wpAny_pyIter_revIter hit ?_))
  refine wpAny_bind (RT.collect_rev hh hit hl hne hn fun h' tk acc hk hi => ?_)
  have hr : Vals (ys.map V.str).reverse acc.toList := RT.vals_rev (its := items.toList) hs (by simpa using hi)
  rw [← List.map_reverse] at hr
  obtain ⟨l, e, f⟩ := strs_pairs (strs_of_vals hr)
  rw [← e]
  rw [← f] at hok hQ
  exact gives_tail x l hok prog w A (wants Q E) { heap := h', gens := s.gens, drawn := s.drawn, toks := tk, os := s.os } (post_join l ⟨joinFit_length (by simpa [JoinOk] using hok), fun t' k => hQ h' k t' hk⟩)
def tJoinRev (K : PySem.W.Frag) (to te : TE) : TE := fun σ H Q => to σ H fun x H1 => ∃ sep, x = .str sep ∧ te σ H1 fun v H2 => ∃ (a : Addr) (ys : List Str), v = .ref a ∧ SqL K H2 a (ys.map V.str) ∧ JoinOk sep ys.reverse = true ∧ Q (.str (Txt.join sep ys.reverse)) H2
/-- sep.join(reversed(xs)) -/
theorem pe_joinRev {X : Cx} {o e : Expr} {to te : TE} {p2 pos2 apos pos : Pos} (hc : X.calm = true) (hg2 : Gl X "reversed") (hm2 : X.mg "reversed" = none) (ho : PE X o to) (he : PE X e te)
    (hs2 : starEach [e] X.env = (false, eval e X.env) :: starEach [] X.env := by rfl)
    (hs : starEach [(Expr.Name "reversed" p2).Call [e] [] pos2] X.env = [(false, eval ((Expr.Name "reversed" p2).Call [e] [] pos2) X.env)] := by rfl)
    (hbase : attributeBase o "join" X.env (eval o X.env) = eval o X.env := by rfl) (hline : (apos.endLine == pos.line) = true := by rfl) :
    PE X ((o.Attribute "join" apos).Call [(Expr.Name "reversed" p2).Call [e] [] pos2] [] pos) (tJoinRev X.K to te) := by
  refine ⟨fun pins s σ H Q I h => Call_method1 hbase hs hline (thn (ho.run pins s σ H _ I h) fun v s1 hx => ?_)⟩
  obtain ⟨x, H1, I1, r1, sep, ex, q1⟩ := hx
  subst ex
  obtain ⟨t, rfl⟩ := r1
  refine ⟨"str", "str.join", F.plainAttrs_str, F.slot_str_join, F.type_str_join, typeIs_str s1 sep t, (fun x e => nomatch e), Calls.callWith_builtin rfl (Calls.evalArgs_plain (Calls.spliced_cons ?_))⟩
  refine PyProof.Rows.Call_ (ld_blt I1 hg2 hm2 PyProof.Rows.boot_reversed (PyProof.Rows.callWith_type1 (PyProof.Rows.args_cons (thn (he.run pins s1 σ H1 _ I1 q1) fun u s2 hx => PyProof.Rows.args_nil ?_) hs2) hs2 rfl) (by decide) (by decide)) rfl
  obtain ⟨v, H2, I2, r2, a, ys, ev, hq, ok, q⟩ := hx
  subst ev
  cases r2
  obtain ⟨its, rv, p', hz⟩ := I2.list hq
  have hl := p'.isList
  refine call_reversed_list hl (Calls.spliced_nil ?_)
  obtain ⟨ol, hol, _⟩ := id hl
  have hne : a ≠ s2.heap.objs.size := Nat.ne_of_lt (Heap.lt_size hol)
  refine join_rev (I2.ok.hd hc) ⟨_, Heap.get?_push_size _ rfl, rfl, rfl⟩ (hl.push _) hne (by simpa [← rv.length] using hz) (by simpa using rv) ok fun h' k t' hk => ?_
  exact ⟨.str _, H2, I2.kept (t' := k) fun b u e => hk b u (Nat.ne_of_lt (Heap.lt_size e)) (Heap.get?_push_of_some _ e), ⟨t', rfl⟩, q⟩
end L2

set_option Elab.async false
set_option linter.all false
set_option maxRecDepth 100000
set_option maxHeartbeats 8000000
/-! the program's text by places, and what the top has written -/
namespace Z
open PySem L2 XV
def top (i : Nat) : Stmt := PySem.Challenge.pw_leastjoined_k35_ratios.main.body.getD i (.Pass ⟨0, 0, 0, 0⟩)
abbrev s_isint : Stmt := top 2
abbrev s_digits : Stmt := top 9
abbrev s_signeddigits : Stmt := top 10
abbrev s_ratioof : Stmt := top 11
abbrev s_penof : Stmt := top 14
abbrev s_draw : Stmt := top 15
abbrev s_pick : Stmt := top 16
abbrev s_numberof : Stmt := top 17
abbrev s_lowest : Stmt := top 18
abbrev s_is : Stmt := top 19
abbrev s_bad : Stmt := top 20
abbrev s_pair : Stmt := top 21
abbrev s_whole : Stmt := top 22
abbrev s_law : Stmt := top 23
abbrev s_BadOver : Stmt := inClass (top 5) 0
abbrev s_Ratio__init__ : Stmt := inClass (top 12) 0
abbrev s_Ratio__add__ : Stmt := inClass (top 12) 1
abbrev s_Ratio__radd__ : Stmt := inClass (top 12) 2
abbrev s_Ratio__sub__ : Stmt := inClass (top 12) 3
abbrev s_Ratio__rsub__ : Stmt := inClass (top 12) 4
abbrev s_Ratio__mul__ : Stmt := inClass (top 12) 5
abbrev s_Ratio__rmul__ : Stmt := inClass (top 12) 6
abbrev s_Ratio__neg__ : Stmt := inClass (top 12) 7
abbrev s_Ratio__abs__ : Stmt := inClass (top 12) 8
abbrev s_Ratio__eq__ : Stmt := inClass (top 12) 9
abbrev s_Ratio__str__ : Stmt := inClass (top 12) 10
abbrev s_Ratiois_less : Stmt := inClass (top 12) 11
abbrev s_Ratiodivided : Stmt := inClass (top 12) 12
/-- where the defs and classes stand -/
structure Ad where
  a_isint : Addr
  d_isint : FuncData
  a_digits : Addr
  d_digits : FuncData
  a_signeddigits : Addr
  d_signeddigits : FuncData
  a_ratioof : Addr
  d_ratioof : FuncData
  a_penof : Addr
  d_penof : FuncData
  a_draw : Addr
  d_draw : FuncData
  a_pick : Addr
  d_pick : FuncData
  a_numberof : Addr
  d_numberof : FuncData
  a_lowest : Addr
  d_lowest : FuncData
  a_is : Addr
  d_is : FuncData
  a_bad : Addr
  d_bad : FuncData
  a_pair : Addr
  k_pair : Addr
  p_pair : Addr
  d_pair : FuncData
  a_whole : Addr
  k_whole : Addr
  p_whole : Addr
  d_whole : FuncData
  a_law : Addr
  k_law : Addr
  p_law : Addr
  d_law : FuncData
  cj : Addr
  c_BadOver : Addr
  i_BadOver : Addr
  d_BadOver : FuncData
  c_Ratio : Addr
  a_Ratio__init__ : Addr
  d_Ratio__init__ : FuncData
  a_Ratio__add__ : Addr
  d_Ratio__add__ : FuncData
  a_Ratio__radd__ : Addr
  d_Ratio__radd__ : FuncData
  a_Ratio__sub__ : Addr
  d_Ratio__sub__ : FuncData
  a_Ratio__rsub__ : Addr
  d_Ratio__rsub__ : FuncData
  a_Ratio__mul__ : Addr
  d_Ratio__mul__ : FuncData
  a_Ratio__rmul__ : Addr
  d_Ratio__rmul__ : FuncData
  a_Ratio__neg__ : Addr
  d_Ratio__neg__ : FuncData
  a_Ratio__abs__ : Addr
  d_Ratio__abs__ : FuncData
  a_Ratio__eq__ : Addr
  d_Ratio__eq__ : FuncData
  a_Ratio__str__ : Addr
  d_Ratio__str__ : FuncData
  a_Ratiois_less : Addr
  d_Ratiois_less : FuncData
  a_Ratiodivided : Addr
  d_Ratiodivided : FuncData
/-- what a class of the errors says -/
structure Ec (K : PySem.W.Frag) (mg : Str → Option Value) (cj C fI : Addr) (x qual : Str) (st : Stmt) (fd : FuncData) (fs : List Str) : Prop where
  E : ErrC K C fI
  R : ErrR K C
  F : Fun K "__init__" qual st fI fd
  g : mg x = some (.ref C)
  m : ∃ cd, PySem.W.clsIn K C = some cd ∧ cd.mro = [.ref C, .ref cj, .type "ValueError", .type "Exception", .type "BaseException", .type "object"]
  ty : PySem.W.typeIn K (.ref C) = some (.type "type")
  b : KBn K fd ("self" :: fs) (fs.length + 1) [] (fun us _ => us) (fun vs _ => vs)
  bb : Binds K fd ("self" :: fs) []
  no : ∀ f ∈ fs, PySem.W.findIn K (.ref C) f = some none
/-- the class Ratio -/
structure Rc (K : PySem.W.Frag) (C fI : Addr) : Prop where
  M : Mk K C fI
  cl : Cls K C
  n_number : NoAttr K C "number"
  n_over : NoAttr K C "over"
  kc : PySem.W.kitOne K (.ref C) (.ref C) = some true
  ki : PySem.W.kitOne K (.type "int") (.ref C) = some false
  ha : PySem.W.findIn K (.ref C) "__class__" = some (some (.builtin "object.__class__"))
  hn : PySem.W.specialIn K (.builtin "object.__class__") "__get__" = some (some (.builtin "getset_descriptor.__get__"))
  ht : PySem.W.takesIn K (.builtin "object.__class__") = some true
  hm : PySem.W.mroIn K C (.type "object") = some true
  ii : PySem.W.kitOne K (.type "int") (.type "int") = some true
  ib : PySem.W.kitOne K (.type "int") (.type "bool") = some false
structure Txt (K : PySem.W.Frag) (mg : Str → Option Value) (A : Ad) : Prop where
  F_isint : Fun K "is_int" "is_int" s_isint A.a_isint A.d_isint
  g_isint : mg "is_int" = some (.ref A.a_isint)
  b_isint : Binds K A.d_isint ["value"] []
  F_digits : Fun K "digits" "digits" s_digits A.a_digits A.d_digits
  g_digits : mg "digits" = some (.ref A.a_digits)
  b_digits : Binds K A.d_digits ["number"] []
  F_signeddigits : Fun K "signed_digits" "signed_digits" s_signeddigits A.a_signeddigits A.d_signeddigits
  g_signeddigits : mg "signed_digits" = some (.ref A.a_signeddigits)
  b_signeddigits : Binds K A.d_signeddigits ["number"] []
  F_ratioof : Fun K "ratio_of" "ratio_of" s_ratioof A.a_ratioof A.d_ratioof
  g_ratioof : mg "ratio_of" = some (.ref A.a_ratioof)
  b_ratioof : Binds K A.d_ratioof ["value"] []
  F_penof : Fun K "_law_pen_of" "_law_pen_of" s_penof A.a_penof A.d_penof
  g_penof : mg "_law_pen_of" = some (.ref A.a_penof)
  b_penof : Binds K A.d_penof ["_law_script"] []
  F_draw : Fun K "_law_draw" "_law_draw" s_draw A.a_draw A.d_draw
  g_draw : mg "_law_draw" = some (.ref A.a_draw)
  b_draw : Binds K A.d_draw ["_law_pen", "_law_many"] []
  F_pick : Fun K "_law_pick" "_law_pick" s_pick A.a_pick A.d_pick
  g_pick : mg "_law_pick" = some (.ref A.a_pick)
  b_pick : Binds K A.d_pick ["_law_pen", "_law_items"] []
  F_numberof : Fun K "_law_number_of" "_law_number_of" s_numberof A.a_numberof A.d_numberof
  g_numberof : mg "_law_number_of" = some (.ref A.a_numberof)
  b_numberof : Binds K A.d_numberof ["_law_pen"] []
  F_lowest : Fun K "_law_lowest" "_law_lowest" s_lowest A.a_lowest A.d_lowest
  g_lowest : mg "_law_lowest" = some (.ref A.a_lowest)
  b_lowest : Binds K A.d_lowest ["_law_number", "_law_over"] []
  F_is : Fun K "_law_is" "_law_is" s_is A.a_is A.d_is
  g_is : mg "_law_is" = some (.ref A.a_is)
  b_is : Binds K A.d_is ["_law_told", "_law_number", "_law_over"] []
  F_bad : Fun K "_law_bad" "_law_bad" s_bad A.a_bad A.d_bad
  g_bad : mg "_law_bad" = some (.ref A.a_bad)
  b_bad : Binds K A.d_bad ["_law_call"] []
  F_pair : FunC K "_law_pair" "_law_pair" s_pair A.a_pair A.d_pair A.k_pair
  g_pair : mg "_law_pair" = some (.ref A.a_pair)
  b_pair : Binds K A.d_pair ["_law_one", "_law_other", "_law_a", "_law_b", "_law_c", "_law_d"] []
  F_whole : FunC K "_law_whole" "_law_whole" s_whole A.a_whole A.d_whole A.k_whole
  g_whole : mg "_law_whole" = some (.ref A.a_whole)
  b_whole : Binds K A.d_whole ["_law_one", "_law_a", "_law_b", "_law_n"] []
  F_law : FunC K "law" "law" s_law A.a_law A.d_law A.k_law
  g_law : mg "law" = some (.ref A.a_law)
  b_law : Binds K A.d_law ["_law_script"] []
  B : BaseC K A.cj
  gj : mg "JoinsError" = some (.ref A.cj)
  cj : (PySem.W.clsIn K A.cj).isSome = true
  tj : PySem.W.typeIn K (.ref A.cj) = some (.type "type")
  E_BadOver : Ec K mg A.cj A.c_BadOver A.i_BadOver "BadOver" "BadOver.__init__" s_BadOver A.d_BadOver []
  Ro : Rc K A.c_Ratio A.a_Ratio__init__
  g_Ratio : mg "Ratio" = some (.ref A.c_Ratio)
  F_Ratio__init__ : FunD K "__init__" "Ratio.__init__" (defArgs s_Ratio__init__) (defBody s_Ratio__init__) (defScope s_Ratio__init__) [.int 1] [] A.a_Ratio__init__ A.d_Ratio__init__
  b_init1 : ∃ ds, Vals [.int 1] ds ∧ Binds K A.d_Ratio__init__ ["self", "number", "over"] ds
  b_init2 : Binds K A.d_Ratio__init__ ["self", "number", "over"] []
  F_Ratio__add__ : Fun K "__add__" "Ratio.__add__" s_Ratio__add__ A.a_Ratio__add__ A.d_Ratio__add__
  b_Ratio__add__ : Binds K A.d_Ratio__add__ ["self", "other"] []
  F_Ratio__radd__ : Fun K "__radd__" "Ratio.__radd__" s_Ratio__radd__ A.a_Ratio__radd__ A.d_Ratio__radd__
  b_Ratio__radd__ : Binds K A.d_Ratio__radd__ ["self", "other"] []
  F_Ratio__sub__ : Fun K "__sub__" "Ratio.__sub__" s_Ratio__sub__ A.a_Ratio__sub__ A.d_Ratio__sub__
  b_Ratio__sub__ : Binds K A.d_Ratio__sub__ ["self", "other"] []
  F_Ratio__rsub__ : Fun K "__rsub__" "Ratio.__rsub__" s_Ratio__rsub__ A.a_Ratio__rsub__ A.d_Ratio__rsub__
  b_Ratio__rsub__ : Binds K A.d_Ratio__rsub__ ["self", "other"] []
  F_Ratio__mul__ : Fun K "__mul__" "Ratio.__mul__" s_Ratio__mul__ A.a_Ratio__mul__ A.d_Ratio__mul__
  b_Ratio__mul__ : Binds K A.d_Ratio__mul__ ["self", "other"] []
  F_Ratio__rmul__ : Fun K "__rmul__" "Ratio.__rmul__" s_Ratio__rmul__ A.a_Ratio__rmul__ A.d_Ratio__rmul__
  b_Ratio__rmul__ : Binds K A.d_Ratio__rmul__ ["self", "other"] []
  F_Ratio__neg__ : Fun K "__neg__" "Ratio.__neg__" s_Ratio__neg__ A.a_Ratio__neg__ A.d_Ratio__neg__
  b_Ratio__neg__ : Binds K A.d_Ratio__neg__ ["self"] []
  F_Ratio__abs__ : Fun K "__abs__" "Ratio.__abs__" s_Ratio__abs__ A.a_Ratio__abs__ A.d_Ratio__abs__
  b_Ratio__abs__ : Binds K A.d_Ratio__abs__ ["self"] []
  F_Ratio__eq__ : Fun K "__eq__" "Ratio.__eq__" s_Ratio__eq__ A.a_Ratio__eq__ A.d_Ratio__eq__
  b_Ratio__eq__ : Binds K A.d_Ratio__eq__ ["self", "other"] []
  F_Ratio__str__ : Fun K "__str__" "Ratio.__str__" s_Ratio__str__ A.a_Ratio__str__ A.d_Ratio__str__
  b_Ratio__str__ : Binds K A.d_Ratio__str__ ["self"] []
  F_Ratiois_less : Fun K "is_less" "Ratio.is_less" s_Ratiois_less A.a_Ratiois_less A.d_Ratiois_less
  b_Ratiois_less : Binds K A.d_Ratiois_less ["self", "other"] []
  F_Ratiodivided : Fun K "divided" "Ratio.divided" s_Ratiodivided A.a_Ratiodivided A.d_Ratiodivided
  b_Ratiodivided : Binds K A.d_Ratiodivided ["self", "other"] []
  z_gcd : mg "gcd" = some (.builtin "math.gcd")
  o_add : BinC K A.c_Ratio A.a_Ratio__add__ A.a_Ratio__radd__ "__add__" "__radd__"
  o_sub : BinC K A.c_Ratio A.a_Ratio__sub__ A.a_Ratio__rsub__ "__sub__" "__rsub__"
  o_mul : BinC K A.c_Ratio A.a_Ratio__mul__ A.a_Ratio__rmul__ "__mul__" "__rmul__"
  o_neg : PySem.W.findIn K (.ref A.c_Ratio) "__neg__" = some (some (.ref A.a_Ratio__neg__))
  n_neg : PySem.W.isFn K (.ref A.a_Ratio__neg__) = true
  o_abs : PySem.W.findIn K (.ref A.c_Ratio) "__abs__" = some (some (.ref A.a_Ratio__abs__))
  n_abs : PySem.W.isFn K (.ref A.a_Ratio__abs__) = true
  o_eq : PySem.W.findIn K (.ref A.c_Ratio) "__eq__" = some (some (.ref A.a_Ratio__eq__))
  n_eq : PySem.W.isFn K (.ref A.a_Ratio__eq__) = true
  o_str : PySem.W.findIn K (.ref A.c_Ratio) "__str__" = some (some (.ref A.a_Ratio__str__))
  n_str : PySem.W.isFn K (.ref A.a_Ratio__str__) = true
  o_ne : PySem.W.findIn K (.ref A.c_Ratio) "__ne__" = some (some (.builtin "object.__ne__"))
  o_sub0 : PySem.W.subIn K (.ref A.c_Ratio) (.type "object") = some true
  nfc : PySem.W.notFirst K A.c_Ratio (.ref A.c_Ratio) = true
  nfi : PySem.W.notFirst K A.c_Ratio (.type "int") = true
  M_is_less : Meth K A.c_Ratio "is_less" A.a_Ratiois_less
  M_divided : Meth K A.c_Ratio "divided" A.a_Ratiodivided
  p1 : A.p_pair ≠ A.p_whole
  p2 : A.p_pair ≠ A.p_law
  p3 : A.p_whole ≠ A.p_law
  k_BLOCK_DIGITS : ∃ t, mg "BLOCK_DIGITS" = some (.int (64) t)
  k_BLOCK : ∃ t, mg "BLOCK" = some (.int (10000000000000000000000000000000000000000000000000000000000000000) t)
  z_NotImplemented : mg "NotImplemented" = none
  z_ValueError : mg "ValueError" = none
  z_abs : mg "abs" = none
  z_all : mg "all" = none
  z_bool : mg "bool" = none
  z_divmod : mg "divmod" = none
  z_int : mg "int" = none
  z_isinstance : mg "isinstance" = none
  z_len : mg "len" = none
  z_list : mg "list" = none
  z_range : mg "range" = none
  z_reversed : mg "reversed" = none
  z_str : mg "str" = none
end Z

set_option Elab.async false
set_option linter.all false
set_option maxRecDepth 100000
set_option maxHeartbeats 8000000
/-! Ratio's making -/
namespace Z
open PySem L2 XV RT
theorem passX {X : Cx} : Passes (L2.CX X.prog X.w) X (fun _ _ _ => False) := fun _ _ _ _ _ _ _ h => by
  obtain ⟨_, _, _, _, _, _, _, _, _, _, _, _, e⟩ := h
  exact e.elim
/-- // by any divisor but 0 -/
theorem op_fdivX {X : Cx} : OpR X (binaryOp .FloorDiv) (rI (fun _ j => j ≠ 0 ∧ j.natAbs.log2 < 9000) fun i j => .int (i.fdiv j)) := opI fun _ _ _ _ _ _ _ hc q => PyProof.Rows.floordiv_int hc.1 q (.inl (PyProof.noPylong_of_log2 hc.2))
theorem log_lt {n k : Nat} (h : n < 2 ^ k) (hk : 0 < k) : n.log2 < k := by
  by_cases e : n = 0
  · subst e; simpa using hk
  · exact (Nat.log2_lt e).mpr h
def But (d : Addr) (H H' : Hp) : Prop := ∀ x o, x ≠ d → H x = some o → H' x = some o
theorem But.upd {d : Addr} {H H' : Hp} {o : HO} (a : But d H H') : But d H (upd H' d o) := fun x u n h => by rw [upd_ne n]; exact a x u n h
/-- a Ratio at a -/
def RatAt (H : Hp) (C a : Addr) (p q : Int) : Prop := ∃ dx, H a = some (.ins C dx [("number", .int p), ("over", .int q)])
theorem RatAt.same {H G : Hp} {C a : Addr} {p q : Int} (h : RatAt H C a p q) (s : Same H G) : RatAt G C a p q := let ⟨dx, e⟩ := h; ⟨dx, s _ _ e⟩
def spIs : Sp := fun vs H Q _ => ∃ i : Int, vs = [.int i] ∧ Q (.bl true) H
/-- Ratio's __init__: cB is the class BadOver -/
def spRInit (C cB : Addr) : Sp := fun vs H Q E => ∃ (x dx : Addr) (n d : Int), vs = [.ref x, .int n, .int d] ∧ H x = some (.ins C dx []) ∧ n.natAbs < 2 ^ 8000 ∧ d.natAbs < 2 ^ 8000 ∧
  (d ≠ 0 → ∀ H', But x H H' → H' x = some (.ins C dx [("number", .int (low n d).1), ("over", .int (low n d).2)]) → Q .non H') ∧ (d = 0 → ∀ H', Same H H' → E (.ref cB) none H')
theorem put1 (u : V) : putF "number" u [] = [(("number" : Str), u)] := by kernel_rfl
theorem put2 (u v : V) : putF "over" v [(("number" : Str), u)] = [(("number" : Str), u), ("over", v)] := by kernel_rfl
section
variable {P : Program} {w : World} {K : PySem.W.Frag} {mg : Str → Option Value} {base : Heap} {A : Ad}
theorem sc_isint : FnScope ["value"] ["value"] (defScope s_isint) := ⟨rfl, rfl, rfl, by decide +kernel, rfl, by decide +kernel, by decide +kernel⟩
theorem ok_isint (T : Txt K mg A) : FnOk P w K mg base CX0 1 A.a_isint A.d_isint ["value"] spIs := by
  refine T.F_isint.ok sc_isint (fun vs H Q E h => ?_) (fun cdv Ar outer s H vs Q E hr h => ?_)
  · obtain ⟨i, rfl, _⟩ := h; rfl
  · obtain ⟨i, rfl, kq⟩ := h
    refine ⟨_, (pss_one (ps_ret (pe_and (pe_callB call_isi (by rfl) T.z_isinstance (by decide +kernel) (pa_cons (pv 0) (pa_cons (pe_bltn (v := .ty "int") (by rfl) T.z_int (by decide +kernel) rfl) pa_nil))) (pe_one (pe_not (pe_callB call_isi (by rfl) T.z_isinstance (by decide +kernel) (pa_cons (pv 0) (pa_cons (pe_bltn (v := .ty "bool") (by rfl) T.z_bool (by decide +kernel) rfl) pa_nil)))))))), ?_⟩
    refine ⟨_, rfl, .int i, .ty "int", .type "int", .type "int", true, rfl, .ty "int", .base (.int i), T.Ro.ii, ?_⟩
    refine ⟨true, rfl, iteT ?_⟩
    exact ⟨_, rfl, .int i, .ty "bool", .type "int", .type "bool", false, rfl, .ty "bool", .base (.int i), T.Ro.ib, _, rfl, kq⟩
/-- BadOver() keeps its object as it was made -/
def spBad (C : Addr) : Sp := fun vs H Q _ => ∃ a, vs = [.ref a] ∧ H a = some (exo a C none) ∧ ∀ G, Same H G → Q .non G
theorem sc_Ratio__init__ : FnScope ["self", "number", "over", "shared"] ["self", "number", "over"] (defScope s_Ratio__init__) := ⟨rfl, rfl, rfl, by decide +kernel, rfl, by decide +kernel, by decide +kernel⟩
theorem ok_init (T : Txt K mg A) (G_BadOver : FnOk P w K mg base (L2.CX P w) 1 A.i_BadOver A.d_BadOver ["self"] (spBad A.c_BadOver)) : FnOk P w K mg base (L2.CX P w) 3 A.a_Ratio__init__ A.d_Ratio__init__ ["self", "number", "over"] (spRInit A.c_Ratio A.c_BadOver) := by
  have G_isint := ok_isint (P := P) (w := w) (base := base) T
  have Ro := T.Ro
  refine T.F_Ratio__init__.ok sc_Ratio__init__ (fun vs H Q E h => ?_) (fun cdv Ar outer s H vs Q E hr h => ?_)
  · obtain ⟨x, dx, n, d, rfl, _⟩ := h; rfl
  · obtain ⟨x, dx, n, d, rfl, hx, hn, hd, kq, ke⟩ := h
    refine ⟨_, (pss_cons (ps_if (PW.pt (pw_or (pt_not (pt_val (pe_call G_isint (hr.mono (by decide)) (by rfl) T.g_isint T.F_isint.kp T.b_isint .nil pass0 (pa_cons (pv 2) pa_nil)))) (pw_or1 (pt_cmpR op_eq (pv 2) pe_int (nomark _))))) (pss_one (ps_raise rfl (takes_of rfl rfl rfl rfl) (pmk_oex0 T.E_BadOver.E G_BadOver (hr.mono (by decide)) T.E_BadOver.b passX rfl (by rfl) T.E_BadOver.g)))
        pss_nil)
      (pss_cons (ps_set (i := 3) sc_Ratio__init__.nd rfl (Or.inl rfl) (pe_callBfun cr_gcd (by rfl) T.z_gcd (pa_cons (pv 1) (pa_cons (pv 2) pa_nil))))
      (pss_cons (ps_if (pt_cmpR op_lt (pv 2) pe_int (nomark _)) (pss_one (ps_set (i := 3) sc_Ratio__init__.nd rfl (Or.inl rfl) (pe_un un_neg (pv 3))))
        pss_nil)
      (pss_cons (ps_fld (pv 0) (pe_op op_fdivX (pv 1) (pv 3)) rfl)
      (pss_one (ps_fld (pv 0) (pe_op op_fdivX (pv 2) (pv 3)) rfl)))))), ?_⟩
    by_cases d0 : d = 0
    · subst d0
      refine ⟨_, rfl, 0, rfl, true, rfl, iteF ⟨_, rfl, rfl, _, rfl, iteT (fun e ne => ⟨ne, e, rfl, upd_same, fun G2 sG => ⟨rfl, e, rfl, sG _ _ upd_same, ne, ke rfl _ fun b o h => ?_⟩⟩)⟩⟩
      have be : b ≠ e := ne_of_none h ne
      rw [delH_ne be]
      exact sG b o (by rw [upd_ne be]; exact h)
    · refine ⟨_, rfl, d, rfl, true, rfl, iteF ⟨_, rfl, rfl, _, rfl, ?_⟩⟩
      rw [show decide (V.int d = V.int 0) = false from decide_eq_false fun z => d0 (by injection z)]
      refine iteF ?_
      refine ⟨_, rfl, _, rfl, n, d, rfl, ?_⟩
      have hg : (Nat.gcd n.natAbs d.natAbs : Nat) = Int.gcd n d := rfl
      rw [hg]
      have g0 : 0 < Int.gcd n d := Nat.pos_of_ne_zero fun e => d0 (Int.gcd_eq_zero_iff.mp e).2
      have gl : Int.gcd n d < 2 ^ 8000 := Nat.lt_of_le_of_lt (Nat.le_of_dvd (by omega) (Nat.gcd_dvd_right n.natAbs d.natAbs)) hd
      have lp := low_prog (n := n) d0
      refine ⟨_, rfl, d, 0, rfl, rfl, _, rfl, ?_⟩
      by_cases c : d < 0
      · rw [show decide (d < 0) = true from decide_eq_true c]
        refine iteT ⟨_, rfl, _, rfl, ?_⟩
        have f1 : n.fdiv (-(Int.gcd n d : Int)) = (low n d).1 := by rw [Int.fdiv_eq_ediv_of_dvd (Int.neg_dvd.mpr (Int.gcd_dvd_left ..)), lp, if_pos c]
        have f2 : d.fdiv (-(Int.gcd n d : Int)) = (low n d).2 := by rw [Int.fdiv_eq_ediv_of_dvd (Int.neg_dvd.mpr (Int.gcd_dvd_right ..)), lp, if_pos c]
        have gn : (-(Int.gcd n d : Int)) ≠ 0 ∧ (-(Int.gcd n d : Int)).natAbs.log2 < 9000 := ⟨by omega, Nat.lt_of_lt_of_le (log_lt (k := 8000) (by rw [Int.natAbs_neg, Int.natAbs_natCast]; exact gl) (by decide)) (by decide)⟩
        refine ⟨_, rfl, _, rfl, _, _, rfl, rfl, gn, _, rfl, x, _, dx, _, rfl, hx, Ro.cl, Ro.n_number, (by show 0 < 1000; decide), ?_⟩
        rw [put1]
        dsimp only
        rw [f1]
        refine ⟨_, rfl, _, rfl, _, _, rfl, rfl, gn, _, rfl, x, _, dx, _, rfl, upd_same, Ro.cl, Ro.n_over, (by show 1 < 1000; decide), ?_⟩
        rw [put2]
        dsimp only
        rw [f2]
        exact kq d0 _ (But.upd (But.upd (fun _ _ _ e => e))) upd_same
      · rw [show decide (d < 0) = false from decide_eq_false c]
        refine iteF ?_
        have f1 : n.fdiv (Int.gcd n d : Int) = (low n d).1 := by rw [Int.fdiv_eq_ediv_of_dvd (Int.gcd_dvd_left ..), lp, if_neg c]
        have f2 : d.fdiv (Int.gcd n d : Int) = (low n d).2 := by rw [Int.fdiv_eq_ediv_of_dvd (Int.gcd_dvd_right ..), lp, if_neg c]
        have gn : (Int.gcd n d : Int) ≠ 0 ∧ (Int.gcd n d : Int).natAbs.log2 < 9000 := ⟨by omega, Nat.lt_of_lt_of_le (log_lt (k := 8000) (by rw [Int.natAbs_natCast]; exact gl) (by decide)) (by decide)⟩
        refine ⟨_, rfl, _, rfl, _, _, rfl, rfl, gn, _, rfl, x, _, dx, _, rfl, hx, Ro.cl, Ro.n_number, (by show 0 < 1000; decide), ?_⟩
        rw [put1]
        dsimp only
        rw [f1]
        refine ⟨_, rfl, _, rfl, _, _, rfl, rfl, gn, _, rfl, x, _, dx, _, rfl, upd_same, Ro.cl, Ro.n_over, (by show 1 < 1000; decide), ?_⟩
        rw [put2]
        dsimp only
        rw [f2]
        exact kq d0 _ (But.upd (But.upd (fun _ _ _ e => e))) upd_same

end
end Z

set_option Elab.async false
set_option linter.all false
set_option maxRecDepth 100000
set_option maxHeartbeats 8000000
/-! Ratio's operators -/
namespace Z
open PySem L2 XV RT
def Sz (i : Int) : Prop := i.natAbs < 2 ^ 2000
theorem Sz.mul {i j : Int} (a : Sz i) (b : Sz j) : CMulW i j := wide_mul a b (by decide) (by decide) (by decide)
theorem Sz.prod {i j : Int} (a : Sz i) (b : Sz j) : (i * j).natAbs < 2 ^ 4000 := by
  rw [Int.natAbs_mul, show (4000 : Nat) = 2000 + 2000 from rfl, Nat.pow_add]
  exact Nat.mul_lt_mul'' a b
theorem Sz.big {i : Int} (a : Sz i) : i.natAbs < 2 ^ 8000 := Nat.lt_of_lt_of_le a (Nat.pow_le_pow_right (by decide) (by decide))
theorem big4 {i : Int} (a : i.natAbs < 2 ^ 4000) : i.natAbs < 2 ^ 8000 := Nat.lt_of_lt_of_le a (Nat.pow_le_pow_right (by decide) (by decide))
theorem bigS {i j : Int} (a : i.natAbs < 2 ^ 4000) (b : j.natAbs < 2 ^ 4000) : (i + j).natAbs < 2 ^ 8000 := by
  have h : (2 : Nat) ^ 4000 + 2 ^ 4000 ≤ 2 ^ 8000 := by
    rw [← Nat.two_mul, Nat.mul_comm, ← Nat.pow_succ]
    exact Nat.pow_le_pow_right (by decide) (by decide)
  generalize (2 : Nat) ^ 4000 = P at *
  generalize (2 : Nat) ^ 8000 = R at *
  omega
theorem bigD {i j : Int} (a : i.natAbs < 2 ^ 4000) (b : j.natAbs < 2 ^ 4000) : (i - j).natAbs < 2 ^ 8000 := by
  rw [Int.sub_eq_add_neg]
  exact bigS a (by rw [Int.natAbs_neg]; exact b)
theorem low_one (i : Int) : low i 1 = (i, 1) := by
  unfold low
  rw [if_neg (by decide)]
  simp
/-- a Ratio, or an int -/
def Rv (H : Hp) (C : Addr) (v : V) (p q : Int) : Prop := (∃ a, v = .ref a ∧ RatAt H C a p q) ∨ (v = .int p ∧ q = 1)
theorem RatAt.ty {K : PySem.W.Frag} {C fI a : Addr} {H : Hp} {p q : Int} (R : Rc K C fI) (h : RatAt H C a p q) : TyX K H (.ref a) (.ref C) := let ⟨_, e⟩ := h; .base (.ins e R.cl R.ha R.hn R.ht R.hm)
theorem lk_number (p q : Int) : [(("number" : Str), V.int p), ("over", .int q)].lookup ("number" : Str) = some (V.int p) := by kernel_rfl
theorem lk_over (p q : Int) : [(("number" : Str), V.int p), ("over", .int q)].lookup ("over" : Str) = some (V.int q) := by kernel_rfl
theorem make_rat {C cB : Addr} {H1 : Hp} {n d : Int} {Qd : Addr → Hp → Prop} {E : XK} (hn : n.natAbs < 2 ^ 8000) (hd : d.natAbs < 2 ^ 8000) (d0 : d ≠ 0) (q : ∀ x G, H1 x = none → Same H1 G → RatAt G C x (low n d).1 (low n d).2 → Qd x G) :
    ∀ x dx, H1 x = none → H1 dx = none → dx ≠ x → spRInit C cB [.ref x, .int n, .int d] (upd (upd H1 dx (.own x)) x (.ins C dx [])) (fun v H2 => v = .non ∧ Qd x H2) E := fun x dx nx ndx ne =>
  ⟨x, dx, n, d, rfl, upd_same, hn, hd, fun _ G bt hx => ⟨rfl, q x G nx (fun b o e => bt b o (ne_of_none e nx) (by rw [upd_ne (ne_of_none e nx), upd_ne (ne_of_none e ndx)]; exact e)) ⟨dx, hx⟩⟩, fun z => absurd z d0⟩
def spRatio (C : Addr) : Sp := fun vs H Q _ => ∃ (v : V) (p q : Int), vs = [v] ∧ Rv H C v p q ∧ p.natAbs < 2 ^ 8000 ∧ ∀ x G, Same H G → RatAt G C x p q → Q (.ref x) G
/-- a op b: f tells the number and the over -/
def spBin (C : Addr) (f : Int → Int → Int → Int → Int × Int) : Sp := fun vs H Q _ => ∃ (a : Addr) (v : V) (p q r s : Int), vs = [.ref a, v] ∧ RatAt H C a p q ∧ Rv H C v r s ∧ Sz p ∧ Sz q ∧ Sz r ∧ Sz s ∧ q ≠ 0 ∧ s ≠ 0 ∧
  ∀ x G, Same H G → RatAt G C x (low (f p q r s).1 (f p q r s).2).1 (low (f p q r s).1 (f p q r s).2).2 → Q (.ref x) G
/-- an int op a -/
def spRef (C : Addr) (f : Int → Int → Int → Int) : Sp := fun vs H Q _ => ∃ (a : Addr) (p q i : Int), vs = [.ref a, .int i] ∧ RatAt H C a p q ∧ Sz p ∧ Sz q ∧ Sz i ∧ q ≠ 0 ∧ ∀ x G, Same H G → RatAt G C x (low (f p q i) q).1 (low (f p q i) q).2 → Q (.ref x) G
def spUn (C : Addr) (f : Int → Int) : Sp := fun vs H Q _ => ∃ (a : Addr) (p q : Int), vs = [.ref a] ∧ RatAt H C a p q ∧ Sz p ∧ Sz q ∧ q ≠ 0 ∧ ∀ x G, Same H G → RatAt G C x (low (f p) q).1 (low (f p) q).2 → Q (.ref x) G
section
variable {P : Program} {w : World} {K : PySem.W.Frag} {mg : Str → Option Value} {base : Heap} {A : Ad}
abbrev InitOk (P : Program) (w : World) (K : PySem.W.Frag) (mg : Str → Option Value) (base : Heap) (A : Ad) : Prop := FnOk P w K mg base (L2.CX P w) 3 A.a_Ratio__init__ A.d_Ratio__init__ ["self", "number", "over"] (spRInit A.c_Ratio A.c_BadOver)
theorem sc_ratioof : FnScope ["value"] ["value"] (defScope s_ratioof) := ⟨rfl, rfl, rfl, by decide +kernel, rfl, by decide +kernel, by decide +kernel⟩
theorem ok_ratioof (T : Txt K mg A) (G_init : InitOk P w K mg base A) : FnOk P w K mg base (L2.CX P w) 5 A.a_ratioof A.d_ratioof ["value"] (spRatio A.c_Ratio) := by
  have G_isint := ok_isint (P := P) (w := w) (base := base) T
  have Ro := T.Ro
  refine T.F_ratioof.okX sc_ratioof (fun vs H Q E h => ?_) (fun cdv Ar outer s H vs Q E hr h => ?_)
  · obtain ⟨v, p, q, rfl, _⟩ := h; rfl
  · obtain ⟨v, p, q, rfl, hv, hp, kq⟩ := h
    refine ⟨_, (pss_cons (ps_if (pt_val (pe_callB call_isi (by rfl) T.z_isinstance (by decide +kernel) (pa_cons (pv 0) (pa_cons (pe_glob (v := .ref _) rfl T.g_Ratio rfl) pa_nil)))) (pss_one (ps_ret (pv 0)))
        pss_nil)
      (pss_cons (ps_if (pt_val (pe_call G_isint (hr.mono (by decide)) (by rfl) T.g_isint T.F_isint.kp T.b_isint .nil pass0 (pa_cons (pv 0) pa_nil))) (pss_one (ps_ret (pe_make T.Ro.M G_init (hr.mono (by decide)) (by rfl) T.g_Ratio (Classical.choose_spec T.b_init1).2 (Classical.choose_spec T.b_init1).1 passX (pa_cons (pv 0) pa_nil))))
        pss_nil)
      (pss_one (ps_ret pe_non)))), ?_⟩
    rcases hv with ⟨a, rfl, ha⟩ | ⟨rfl, rfl⟩
    · refine ⟨_, rfl, .ref a, .ref A.c_Ratio, .ref A.c_Ratio, .ref A.c_Ratio, true, rfl, .own _, ha.ty Ro, Ro.kc, true, rfl, iteT ?_⟩
      exact ⟨_, rfl, kq a H (Same.refl H) ha⟩
    · refine ⟨_, rfl, .int p, .ref A.c_Ratio, .type "int", .ref A.c_Ratio, false, rfl, .own _, .base (.int p), Ro.ki, false, rfl, iteF ?_⟩
      refine ⟨_, rfl, p, rfl, true, rfl, iteT ?_⟩
      refine ⟨_, rfl, make_rat hp (by decide) (by decide) (fun x G _ sG hx => ?_)⟩
      rw [low_one] at hx
      exact kq x G sG hx
theorem sc_Ratio__add__ : FnScope ["self", "other", "more"] ["self", "other"] (defScope s_Ratio__add__) := ⟨rfl, rfl, rfl, by decide +kernel, rfl, by decide +kernel, by decide +kernel⟩
theorem ok_Ratio__add__ (T : Txt K mg A) (G_init : InitOk P w K mg base A) : FnOk P w K mg base (L2.CX P w) 6 A.a_Ratio__add__ A.d_Ratio__add__ ["self", "other"] (spBin A.c_Ratio fun p q r s => (p * s + r * q, q * s)) := by
  have G_ratioof := ok_ratioof T G_init
  have Ro := T.Ro
  refine T.F_Ratio__add__.okX sc_Ratio__add__ (fun vs H Q E h => ?_) (fun cdv Ar outer s H vs Q E hr h => ?_)
  · obtain ⟨a, v, p, q, r, s, rfl, _⟩ := h; rfl
  · obtain ⟨a, v, p, q, r, u, rfl, ha, hv, zp, zq, zr, zs, q0, s0, kq⟩ := h
    refine ⟨_, (pss_cons (ps_set (i := 2) sc_Ratio__add__.nd rfl (Or.inl rfl) (pe_call G_ratioof (hr.mono (by decide)) (by rfl) T.g_ratioof T.F_ratioof.kp T.b_ratioof .nil passX (pa_cons (pv 1) pa_nil)))
      (pss_cons (ps_if (pt_cmpR op_isN (pv 2) pe_non (nomark _)) (pss_one ps_never)
        pss_nil)
      (pss_one (ps_ret (pe_make T.Ro.M G_init (hr.mono (by decide)) (by rfl) T.g_Ratio T.b_init2 .nil passX (pa_cons (pe_op op_add (pe_op op_mulW (pe_fld (pv 0) rfl) (pe_fld (pv 2) rfl)) (pe_op op_mulW (pe_fld (pv 2) rfl) (pe_fld (pv 0) rfl))) (pa_cons (pe_op op_mulW (pe_fld (pv 0) rfl) (pe_fld (pv 2) rfl)) pa_nil))))))), ?_⟩
    refine ⟨_, rfl, v, r, u, rfl, hv, zr.big, fun b G s1 hb => ?_⟩
    refine ⟨_, rfl, rfl, _, rfl, iteF ?_⟩
    obtain ⟨dx, e1⟩ := ha.same s1
    obtain ⟨dy, e2⟩ := hb
    refine ⟨_, rfl, a, _, dx, _, _, rfl, e1, Ro.cl, Ro.n_number, lk_number _ _, _, rfl, b, _, dy, _, _, rfl, e2, Ro.cl, Ro.n_over, lk_over _ _, _, _, rfl, rfl, zp.mul zs, _, rfl, b, _, dy, _, _, rfl, e2, Ro.cl, Ro.n_number, lk_number _ _, _, rfl, a, _, dx, _, _, rfl, e1, Ro.cl, Ro.n_over, lk_over _ _, _, _, rfl, rfl, zr.mul zq, _, _, rfl, rfl, _, rfl, a, _, dx, _, _, rfl, e1, Ro.cl, Ro.n_over, lk_over _ _, _, rfl, b, _, dy, _, _, rfl, e2, Ro.cl, Ro.n_over, lk_over _ _, _, _, rfl, rfl, zq.mul zs, make_rat (bigS (zp.prod zs) (zr.prod zq)) (big4 (zq.prod zs)) (Int.mul_ne_zero q0 s0) (fun x G2 _ s2 hx => ?_)⟩
    exact kq x G2 (s1.trans s2) hx
theorem sc_Ratio__sub__ : FnScope ["self", "other", "less"] ["self", "other"] (defScope s_Ratio__sub__) := ⟨rfl, rfl, rfl, by decide +kernel, rfl, by decide +kernel, by decide +kernel⟩
theorem ok_Ratio__sub__ (T : Txt K mg A) (G_init : InitOk P w K mg base A) : FnOk P w K mg base (L2.CX P w) 6 A.a_Ratio__sub__ A.d_Ratio__sub__ ["self", "other"] (spBin A.c_Ratio fun p q r s => (p * s - r * q, q * s)) := by
  have G_ratioof := ok_ratioof T G_init
  have Ro := T.Ro
  refine T.F_Ratio__sub__.okX sc_Ratio__sub__ (fun vs H Q E h => ?_) (fun cdv Ar outer s H vs Q E hr h => ?_)
  · obtain ⟨a, v, p, q, r, s, rfl, _⟩ := h; rfl
  · obtain ⟨a, v, p, q, r, u, rfl, ha, hv, zp, zq, zr, zs, q0, s0, kq⟩ := h
    refine ⟨_, (pss_cons (ps_set (i := 2) sc_Ratio__sub__.nd rfl (Or.inl rfl) (pe_call G_ratioof (hr.mono (by decide)) (by rfl) T.g_ratioof T.F_ratioof.kp T.b_ratioof .nil passX (pa_cons (pv 1) pa_nil)))
      (pss_cons (ps_if (pt_cmpR op_isN (pv 2) pe_non (nomark _)) (pss_one ps_never)
        pss_nil)
      (pss_one (ps_ret (pe_make T.Ro.M G_init (hr.mono (by decide)) (by rfl) T.g_Ratio T.b_init2 .nil passX (pa_cons (pe_op op_sub (pe_op op_mulW (pe_fld (pv 0) rfl) (pe_fld (pv 2) rfl)) (pe_op op_mulW (pe_fld (pv 2) rfl) (pe_fld (pv 0) rfl))) (pa_cons (pe_op op_mulW (pe_fld (pv 0) rfl) (pe_fld (pv 2) rfl)) pa_nil))))))), ?_⟩
    refine ⟨_, rfl, v, r, u, rfl, hv, zr.big, fun b G s1 hb => ?_⟩
    refine ⟨_, rfl, rfl, _, rfl, iteF ?_⟩
    obtain ⟨dx, e1⟩ := ha.same s1
    obtain ⟨dy, e2⟩ := hb
    refine ⟨_, rfl, a, _, dx, _, _, rfl, e1, Ro.cl, Ro.n_number, lk_number _ _, _, rfl, b, _, dy, _, _, rfl, e2, Ro.cl, Ro.n_over, lk_over _ _, _, _, rfl, rfl, zp.mul zs, _, rfl, b, _, dy, _, _, rfl, e2, Ro.cl, Ro.n_number, lk_number _ _, _, rfl, a, _, dx, _, _, rfl, e1, Ro.cl, Ro.n_over, lk_over _ _, _, _, rfl, rfl, zr.mul zq, _, _, rfl, rfl, _, rfl, a, _, dx, _, _, rfl, e1, Ro.cl, Ro.n_over, lk_over _ _, _, rfl, b, _, dy, _, _, rfl, e2, Ro.cl, Ro.n_over, lk_over _ _, _, _, rfl, rfl, zq.mul zs, make_rat (bigD (zp.prod zs) (zr.prod zq)) (big4 (zq.prod zs)) (Int.mul_ne_zero q0 s0) (fun x G2 _ s2 hx => ?_)⟩
    exact kq x G2 (s1.trans s2) hx
theorem sc_Ratio__mul__ : FnScope ["self", "other", "by"] ["self", "other"] (defScope s_Ratio__mul__) := ⟨rfl, rfl, rfl, by decide +kernel, rfl, by decide +kernel, by decide +kernel⟩
theorem ok_Ratio__mul__ (T : Txt K mg A) (G_init : InitOk P w K mg base A) : FnOk P w K mg base (L2.CX P w) 6 A.a_Ratio__mul__ A.d_Ratio__mul__ ["self", "other"] (spBin A.c_Ratio fun p q r s => (p * r, q * s)) := by
  have G_ratioof := ok_ratioof T G_init
  have Ro := T.Ro
  refine T.F_Ratio__mul__.okX sc_Ratio__mul__ (fun vs H Q E h => ?_) (fun cdv Ar outer s H vs Q E hr h => ?_)
  · obtain ⟨a, v, p, q, r, s, rfl, _⟩ := h; rfl
  · obtain ⟨a, v, p, q, r, u, rfl, ha, hv, zp, zq, zr, zs, q0, s0, kq⟩ := h
    refine ⟨_, (pss_cons (ps_set (i := 2) sc_Ratio__mul__.nd rfl (Or.inl rfl) (pe_call G_ratioof (hr.mono (by decide)) (by rfl) T.g_ratioof T.F_ratioof.kp T.b_ratioof .nil passX (pa_cons (pv 1) pa_nil)))
      (pss_cons (ps_if (pt_cmpR op_isN (pv 2) pe_non (nomark _)) (pss_one ps_never)
        pss_nil)
      (pss_one (ps_ret (pe_make T.Ro.M G_init (hr.mono (by decide)) (by rfl) T.g_Ratio T.b_init2 .nil passX (pa_cons (pe_op op_mulW (pe_fld (pv 0) rfl) (pe_fld (pv 2) rfl)) (pa_cons (pe_op op_mulW (pe_fld (pv 0) rfl) (pe_fld (pv 2) rfl)) pa_nil))))))), ?_⟩
    refine ⟨_, rfl, v, r, u, rfl, hv, zr.big, fun b G s1 hb => ?_⟩
    refine ⟨_, rfl, rfl, _, rfl, iteF ?_⟩
    obtain ⟨dx, e1⟩ := ha.same s1
    obtain ⟨dy, e2⟩ := hb
    refine ⟨_, rfl, a, _, dx, _, _, rfl, e1, Ro.cl, Ro.n_number, lk_number _ _, _, rfl, b, _, dy, _, _, rfl, e2, Ro.cl, Ro.n_number, lk_number _ _, _, _, rfl, rfl, zp.mul zr, _, rfl, a, _, dx, _, _, rfl, e1, Ro.cl, Ro.n_over, lk_over _ _, _, rfl, b, _, dy, _, _, rfl, e2, Ro.cl, Ro.n_over, lk_over _ _, _, _, rfl, rfl, zq.mul zs, make_rat (big4 (zp.prod zr)) (big4 (zq.prod zs)) (Int.mul_ne_zero q0 s0) (fun x G2 _ s2 hx => ?_)⟩
    exact kq x G2 (s1.trans s2) hx
end
end Z

set_option Elab.async false
set_option linter.all false
set_option maxRecDepth 100000
set_option maxHeartbeats 8000000
/-! Ratio's other defs -/
namespace Z
open PySem L2 XV RT
theorem Sz.up {i : Int} (a : Sz i) : i.natAbs < 2 ^ 4000 := Nat.lt_of_lt_of_le a (Nat.pow_le_pow_right (by decide) (by decide))
def spEqR (C : Addr) : Sp := fun vs H Q _ => ∃ (a : Addr) (v : V) (p q r s : Int), vs = [.ref a, v] ∧ RatAt H C a p q ∧ ((Rv H C v r s ∧ (∃ b, v = .ref b) ∧ Q (.bl (decide (p = r) && decide (q = s))) H) ∨ (v = .int r ∧ Q (.bl false) H))
def spLess (C : Addr) : Sp := fun vs H Q _ => ∃ (a : Addr) (v : V) (p q r s : Int), vs = [.ref a, v] ∧ RatAt H C a p q ∧ Rv H C v r s ∧ Sz p ∧ Sz q ∧ Sz r ∧ Sz s ∧ ∀ G, Same H G → Q (.bl (decide (p * s < r * q))) G
def spDiv (C cB : Addr) : Sp := fun vs H Q E => ∃ (a : Addr) (v : V) (p q r s : Int), vs = [.ref a, v] ∧ RatAt H C a p q ∧ Rv H C v r s ∧ Sz p ∧ Sz q ∧ Sz r ∧ Sz s ∧ q ≠ 0 ∧ s ≠ 0 ∧
  (r ≠ 0 → ∀ x G, Same H G → RatAt G C x (low (p * s) (q * r)).1 (low (p * s) (q * r)).2 → Q (.ref x) G) ∧ (r = 0 → ∀ G, Same H G → E (.ref cB) none G)
section
variable {P : Program} {w : World} {K : PySem.W.Frag} {mg : Str → Option Value} {base : Heap} {A : Ad}
theorem sc_Ratio__radd__ : FnScope ["self", "other"] ["self", "other"] (defScope s_Ratio__radd__) := ⟨rfl, rfl, rfl, by decide +kernel, rfl, by decide +kernel, by decide +kernel⟩
theorem ok_Ratio__radd__ (T : Txt K mg A) (G_init : InitOk P w K mg base A) : FnOk P w K mg base (L2.CX P w) 5 A.a_Ratio__radd__ A.d_Ratio__radd__ ["self", "other"] (spRef A.c_Ratio fun p q i => i * q + p) := by
  have G_isint := ok_isint (P := P) (w := w) (base := base) T
  have Ro := T.Ro
  refine T.F_Ratio__radd__.okX sc_Ratio__radd__ (fun vs H Q E h => ?_) (fun cdv Ar outer s H vs Q E hr h => ?_)
  · obtain ⟨a, p, q, i, rfl, _⟩ := h; rfl
  · obtain ⟨a, p, q, i, rfl, ha, zp, zq, zi, q0, kq⟩ := h
    refine ⟨_, (pss_cons (ps_if (pt_not (pt_val (pe_call G_isint (hr.mono (by decide)) (by rfl) T.g_isint T.F_isint.kp T.b_isint .nil pass0 (pa_cons (pv 1) pa_nil)))) (pss_one ps_never)
        pss_nil)
      (pss_one (ps_ret (pe_make T.Ro.M G_init (hr.mono (by decide)) (by rfl) T.g_Ratio T.b_init2 .nil passX (pa_cons (pe_op op_add (pe_op op_mulW (pv 1) (pe_fld (pv 0) rfl)) (pe_fld (pv 0) rfl)) (pa_cons (pe_fld (pv 0) rfl) pa_nil)))))), ?_⟩
    obtain ⟨dx, e1⟩ := ha
    refine ⟨_, rfl, i, rfl, true, rfl, iteF ?_⟩
    refine ⟨_, rfl, _, rfl, a, _, dx, _, _, rfl, e1, Ro.cl, Ro.n_over, lk_over _ _, _, _, rfl, rfl, zi.mul zq, _, rfl, a, _, dx, _, _, rfl, e1, Ro.cl, Ro.n_number, lk_number _ _, _, _, rfl, rfl, _, rfl, a, _, dx, _, _, rfl, e1, Ro.cl, Ro.n_over, lk_over _ _, make_rat (bigS (zi.prod zq) zp.up) zq.big q0 (fun x G2 _ s2 hx => ?_)⟩
    exact kq x G2 s2 hx
theorem sc_Ratio__rsub__ : FnScope ["self", "other"] ["self", "other"] (defScope s_Ratio__rsub__) := ⟨rfl, rfl, rfl, by decide +kernel, rfl, by decide +kernel, by decide +kernel⟩
theorem ok_Ratio__rsub__ (T : Txt K mg A) (G_init : InitOk P w K mg base A) : FnOk P w K mg base (L2.CX P w) 5 A.a_Ratio__rsub__ A.d_Ratio__rsub__ ["self", "other"] (spRef A.c_Ratio fun p q i => i * q - p) := by
  have G_isint := ok_isint (P := P) (w := w) (base := base) T
  have Ro := T.Ro
  refine T.F_Ratio__rsub__.okX sc_Ratio__rsub__ (fun vs H Q E h => ?_) (fun cdv Ar outer s H vs Q E hr h => ?_)
  · obtain ⟨a, p, q, i, rfl, _⟩ := h; rfl
  · obtain ⟨a, p, q, i, rfl, ha, zp, zq, zi, q0, kq⟩ := h
    refine ⟨_, (pss_cons (ps_if (pt_not (pt_val (pe_call G_isint (hr.mono (by decide)) (by rfl) T.g_isint T.F_isint.kp T.b_isint .nil pass0 (pa_cons (pv 1) pa_nil)))) (pss_one ps_never)
        pss_nil)
      (pss_one (ps_ret (pe_make T.Ro.M G_init (hr.mono (by decide)) (by rfl) T.g_Ratio T.b_init2 .nil passX (pa_cons (pe_op op_sub (pe_op op_mulW (pv 1) (pe_fld (pv 0) rfl)) (pe_fld (pv 0) rfl)) (pa_cons (pe_fld (pv 0) rfl) pa_nil)))))), ?_⟩
    obtain ⟨dx, e1⟩ := ha
    refine ⟨_, rfl, i, rfl, true, rfl, iteF ?_⟩
    refine ⟨_, rfl, _, rfl, a, _, dx, _, _, rfl, e1, Ro.cl, Ro.n_over, lk_over _ _, _, _, rfl, rfl, zi.mul zq, _, rfl, a, _, dx, _, _, rfl, e1, Ro.cl, Ro.n_number, lk_number _ _, _, _, rfl, rfl, _, rfl, a, _, dx, _, _, rfl, e1, Ro.cl, Ro.n_over, lk_over _ _, make_rat (bigD (zi.prod zq) zp.up) zq.big q0 (fun x G2 _ s2 hx => ?_)⟩
    exact kq x G2 s2 hx
theorem sc_Ratio__rmul__ : FnScope ["self", "other"] ["self", "other"] (defScope s_Ratio__rmul__) := ⟨rfl, rfl, rfl, by decide +kernel, rfl, by decide +kernel, by decide +kernel⟩
theorem ok_Ratio__rmul__ (T : Txt K mg A) (G_init : InitOk P w K mg base A) : FnOk P w K mg base (L2.CX P w) 5 A.a_Ratio__rmul__ A.d_Ratio__rmul__ ["self", "other"] (spRef A.c_Ratio fun p q i => i * p) := by
  have G_isint := ok_isint (P := P) (w := w) (base := base) T
  have Ro := T.Ro
  refine T.F_Ratio__rmul__.okX sc_Ratio__rmul__ (fun vs H Q E h => ?_) (fun cdv Ar outer s H vs Q E hr h => ?_)
  · obtain ⟨a, p, q, i, rfl, _⟩ := h; rfl
  · obtain ⟨a, p, q, i, rfl, ha, zp, zq, zi, q0, kq⟩ := h
    refine ⟨_, (pss_cons (ps_if (pt_not (pt_val (pe_call G_isint (hr.mono (by decide)) (by rfl) T.g_isint T.F_isint.kp T.b_isint .nil pass0 (pa_cons (pv 1) pa_nil)))) (pss_one ps_never)
        pss_nil)
      (pss_one (ps_ret (pe_make T.Ro.M G_init (hr.mono (by decide)) (by rfl) T.g_Ratio T.b_init2 .nil passX (pa_cons (pe_op op_mulW (pv 1) (pe_fld (pv 0) rfl)) (pa_cons (pe_fld (pv 0) rfl) pa_nil)))))), ?_⟩
    obtain ⟨dx, e1⟩ := ha
    refine ⟨_, rfl, i, rfl, true, rfl, iteF ?_⟩
    refine ⟨_, rfl, _, rfl, a, _, dx, _, _, rfl, e1, Ro.cl, Ro.n_number, lk_number _ _, _, _, rfl, rfl, zi.mul zp, _, rfl, a, _, dx, _, _, rfl, e1, Ro.cl, Ro.n_over, lk_over _ _, make_rat (big4 (zi.prod zp)) zq.big q0 (fun x G2 _ s2 hx => ?_)⟩
    exact kq x G2 s2 hx
theorem sc_Ratio__neg__ : FnScope ["self"] ["self"] (defScope s_Ratio__neg__) := ⟨rfl, rfl, rfl, by decide +kernel, rfl, by decide +kernel, by decide +kernel⟩
theorem ok_Ratio__neg__ (T : Txt K mg A) (G_init : InitOk P w K mg base A) : FnOk P w K mg base (L2.CX P w) 5 A.a_Ratio__neg__ A.d_Ratio__neg__ ["self"] (spUn A.c_Ratio fun p => -p) := by
  have Ro := T.Ro
  refine T.F_Ratio__neg__.okX sc_Ratio__neg__ (fun vs H Q E h => ?_) (fun cdv Ar outer s H vs Q E hr h => ?_)
  · obtain ⟨a, p, q, rfl, _⟩ := h; rfl
  · obtain ⟨a, p, q, rfl, ha, zp, zq, q0, kq⟩ := h
    refine ⟨_, (pss_one (ps_ret (pe_make T.Ro.M G_init (hr.mono (by decide)) (by rfl) T.g_Ratio T.b_init2 .nil passX (pa_cons (pe_un un_neg (pe_fld (pv 0) rfl)) (pa_cons (pe_fld (pv 0) rfl) pa_nil))))), ?_⟩
    obtain ⟨dx, e1⟩ := ha
    refine ⟨_, rfl, a, _, dx, _, _, rfl, e1, Ro.cl, Ro.n_number, lk_number _ _, _, rfl, _, rfl, a, _, dx, _, _, rfl, e1, Ro.cl, Ro.n_over, lk_over _ _, make_rat (by rw [Int.natAbs_neg]; exact zp.big) zq.big q0 (fun x G2 _ s2 hx => ?_)⟩
    exact kq x G2 s2 hx
theorem sc_Ratio__abs__ : FnScope ["self"] ["self"] (defScope s_Ratio__abs__) := ⟨rfl, rfl, rfl, by decide +kernel, rfl, by decide +kernel, by decide +kernel⟩
theorem ok_Ratio__abs__ (T : Txt K mg A) (G_init : InitOk P w K mg base A) : FnOk P w K mg base (L2.CX P w) 5 A.a_Ratio__abs__ A.d_Ratio__abs__ ["self"] (spUn A.c_Ratio fun p => if p < 0 then -p else p) := by
  have Ro := T.Ro
  refine T.F_Ratio__abs__.okX sc_Ratio__abs__ (fun vs H Q E h => ?_) (fun cdv Ar outer s H vs Q E hr h => ?_)
  · obtain ⟨a, p, q, rfl, _⟩ := h; rfl
  · obtain ⟨a, p, q, rfl, ha, zp, zq, q0, kq⟩ := h
    refine ⟨_, (pss_one (ps_ret (pe_make T.Ro.M G_init (hr.mono (by decide)) (by rfl) T.g_Ratio T.b_init2 .nil passX (pa_cons (pe_callB call_abs (by rfl) T.z_abs (by decide +kernel) (pa_cons (pe_fld (pv 0) rfl) pa_nil)) (pa_cons (pe_fld (pv 0) rfl) pa_nil))))), ?_⟩
    obtain ⟨dx, e1⟩ := ha
    refine ⟨_, rfl, a, _, dx, _, _, rfl, e1, Ro.cl, Ro.n_number, lk_number _ _, _, rfl, _, rfl, a, _, dx, _, _, rfl, e1, Ro.cl, Ro.n_over, lk_over _ _, make_rat (by have := zp.big; generalize (2 : Nat) ^ 8000 = R at *; split <;> omega) zq.big q0 (fun x G2 _ s2 hx => ?_)⟩
    exact kq x G2 s2 hx
theorem sc_Ratio__eq__ : FnScope ["self", "other"] ["self", "other"] (defScope s_Ratio__eq__) := ⟨rfl, rfl, rfl, by decide +kernel, rfl, by decide +kernel, by decide +kernel⟩
theorem ok_Ratio__eq__ (T : Txt K mg A) : FnOk P w K mg base CX0 1 A.a_Ratio__eq__ A.d_Ratio__eq__ ["self", "other"] (spEqR A.c_Ratio) := by
  have Ro := T.Ro
  refine T.F_Ratio__eq__.ok sc_Ratio__eq__ (fun vs H Q E h => ?_) (fun cdv Ar outer s H vs Q E hr h => ?_)
  · obtain ⟨a, v, p, q, r, s, rfl, _⟩ := h; rfl
  · obtain ⟨a, v, p, q, r, u, rfl, ⟨dx, e1⟩, h⟩ := h
    refine ⟨_, (pss_one (ps_ret (pe_and (pe_callB call_isi (by rfl) T.z_isinstance (by decide +kernel) (pa_cons (pv 1) (pa_cons (pe_glob (v := .ref _) rfl T.g_Ratio rfl) pa_nil))) (pe_and (pe_cmpR op_eq (pe_fld (pv 0) rfl) (pe_fld (pv 1) rfl) (nomark _)) (pe_one (pe_cmpR op_eq (pe_fld (pv 0) rfl) (pe_fld (pv 1) rfl) (nomark _))))))), ?_⟩
    rcases h with ⟨hv, ⟨b, rfl⟩, kq⟩ | ⟨rfl, kq⟩
    · obtain ⟨dy, e2⟩ : RatAt H A.c_Ratio b r u := by
        rcases hv with ⟨b', e, h⟩ | ⟨e, _⟩
        · cases e; exact h
        · cases e
      refine ⟨_, rfl, .ref b, .ref A.c_Ratio, .ref A.c_Ratio, .ref A.c_Ratio, true, rfl, .own _, RatAt.ty Ro ⟨dy, e2⟩, Ro.kc, true, rfl, iteT ?_⟩
      refine ⟨_, rfl, a, _, dx, _, _, rfl, e1, Ro.cl, Ro.n_number, lk_number _ _, _, rfl, b, _, dy, _, _, rfl, e2, Ro.cl, Ro.n_number, lk_number _ _, rfl, _, rfl, ?_⟩
      by_cases c : p = r
      · rw [show decide (V.int p = V.int r) = true from decide_eq_true (by rw [c])]
        refine iteT ⟨_, rfl, a, _, dx, _, _, rfl, e1, Ro.cl, Ro.n_over, lk_over _ _, _, rfl, b, _, dy, _, _, rfl, e2, Ro.cl, Ro.n_over, lk_over _ _, rfl, ?_⟩
        rw [decide_eq_true c, Bool.true_and] at kq
        have e : decide (V.int q = V.int u) = decide (q = u) := by simp
        rw [e]
        exact kq
      · rw [show decide (V.int p = V.int r) = false from decide_eq_false fun z => c (by injection z)]
        rw [decide_eq_false c, Bool.false_and] at kq
        exact iteF kq
    · exact ⟨_, rfl, .int r, .ref A.c_Ratio, .type "int", .ref A.c_Ratio, false, rfl, .own _, .base (.int r), Ro.ki, false, rfl, iteF kq⟩
theorem sc_Ratiois_less : FnScope ["self", "other", "than"] ["self", "other"] (defScope s_Ratiois_less) := ⟨rfl, rfl, rfl, by decide +kernel, rfl, by decide +kernel, by decide +kernel⟩
theorem ok_Ratiois_less (T : Txt K mg A) (G_init : InitOk P w K mg base A) : FnOk P w K mg base (L2.CX P w) 6 A.a_Ratiois_less A.d_Ratiois_less ["self", "other"] (spLess A.c_Ratio) := by
  have G_ratioof := ok_ratioof T G_init
  have Ro := T.Ro
  refine T.F_Ratiois_less.okX sc_Ratiois_less (fun vs H Q E h => ?_) (fun cdv Ar outer s H vs Q E hr h => ?_)
  · obtain ⟨a, v, p, q, r, s, rfl, _⟩ := h; rfl
  · obtain ⟨a, v, p, q, r, u, rfl, ha, hv, zp, zq, zr, zs, kq⟩ := h
    refine ⟨_, (pss_cons (ps_set (i := 2) sc_Ratiois_less.nd rfl (Or.inl rfl) (pe_call G_ratioof (hr.mono (by decide)) (by rfl) T.g_ratioof T.F_ratioof.kp T.b_ratioof .nil passX (pa_cons (pv 1) pa_nil)))
      (pss_one (ps_ret (pe_cmpR op_lt (pe_op op_mulW (pe_fld (pv 0) rfl) (pe_fld (pv 2) rfl)) (pe_op op_mulW (pe_fld (pv 2) rfl) (pe_fld (pv 0) rfl)) (nomark _))))), ?_⟩
    refine ⟨_, rfl, v, r, u, rfl, hv, zr.big, fun b G s1 hb => ?_⟩
    obtain ⟨dx, e1⟩ := ha.same s1
    obtain ⟨dy, e2⟩ := hb
    exact ⟨_, rfl, a, _, dx, _, _, rfl, e1, Ro.cl, Ro.n_number, lk_number _ _, _, rfl, b, _, dy, _, _, rfl, e2, Ro.cl, Ro.n_over, lk_over _ _, _, _, rfl, rfl, zp.mul zs, _, rfl, b, _, dy, _, _, rfl, e2, Ro.cl, Ro.n_number, lk_number _ _, _, rfl, a, _, dx, _, _, rfl, e1, Ro.cl, Ro.n_over, lk_over _ _, _, _, rfl, rfl, zr.mul zq, _, _, rfl, rfl, kq G s1⟩
theorem sc_Ratiodivided : FnScope ["self", "other", "by"] ["self", "other"] (defScope s_Ratiodivided) := ⟨rfl, rfl, rfl, by decide +kernel, rfl, by decide +kernel, by decide +kernel⟩
theorem ok_Ratiodivided (T : Txt K mg A) (G_BadOver : FnOk P w K mg base (L2.CX P w) 1 A.i_BadOver A.d_BadOver ["self"] (spBad A.c_BadOver)) : FnOk P w K mg base (L2.CX P w) 6 A.a_Ratiodivided A.d_Ratiodivided ["self", "other"] (spDiv A.c_Ratio A.c_BadOver) := by
  have G_init := ok_init T G_BadOver
  have G_ratioof := ok_ratioof T G_init
  have Ro := T.Ro
  refine T.F_Ratiodivided.okX sc_Ratiodivided (fun vs H Q E h => ?_) (fun cdv Ar outer s H vs Q E hr h => ?_)
  · obtain ⟨a, v, p, q, r, s, rfl, _⟩ := h; rfl
  · obtain ⟨a, v, p, q, r, u, rfl, ha, hv, zp, zq, zr, zs, q0, s0, kq, ke⟩ := h
    refine ⟨_, (pss_cons (ps_set (i := 2) sc_Ratiodivided.nd rfl (Or.inl rfl) (pe_call G_ratioof (hr.mono (by decide)) (by rfl) T.g_ratioof T.F_ratioof.kp T.b_ratioof .nil passX (pa_cons (pv 1) pa_nil)))
      (pss_cons (ps_if (PW.pt (pw_or (pt_cmpR op_isN (pv 2) pe_non (nomark _)) (pw_or1 (pt_cmpR op_eq (pe_fld (pv 2) rfl) pe_int (nomark _))))) (pss_one (ps_raise rfl (takes_of rfl rfl rfl rfl) (pmk_oex0 T.E_BadOver.E G_BadOver (hr.mono (by decide)) T.E_BadOver.b passX rfl (by rfl) T.E_BadOver.g)))
        pss_nil)
      (pss_one (ps_ret (pe_make T.Ro.M G_init (hr.mono (by decide)) (by rfl) T.g_Ratio T.b_init2 .nil passX (pa_cons (pe_op op_mulW (pe_fld (pv 0) rfl) (pe_fld (pv 2) rfl)) (pa_cons (pe_op op_mulW (pe_fld (pv 0) rfl) (pe_fld (pv 2) rfl)) pa_nil))))))), ?_⟩
    refine ⟨_, rfl, v, r, u, rfl, hv, zr.big, fun b G s1 hb => ?_⟩
    obtain ⟨dx, e1⟩ := ha.same s1
    obtain ⟨dy, e2⟩ := hb
    refine ⟨_, rfl, rfl, _, rfl, iteF ⟨_, rfl, b, _, dy, _, _, rfl, e2, Ro.cl, Ro.n_number, lk_number _ _, rfl, _, rfl, ?_⟩⟩
    by_cases r0 : r = 0
    · subst r0
      refine iteT (fun e ne => ⟨s1.free ne, e, rfl, upd_same, fun G2 sG => ⟨rfl, e, rfl, sG _ _ upd_same, s1.free ne, ke rfl _ fun b' o h => ?_⟩⟩)
      have be : b' ≠ e := ne_of_none (s1 _ _ h) ne
      rw [delH_ne be]
      exact sG b' o (by rw [upd_ne be]; exact s1 _ _ h)
    · rw [show decide (V.int r = V.int 0) = false from decide_eq_false fun z => r0 (by injection z)]
      refine iteF ?_
      refine ⟨_, rfl, a, _, dx, _, _, rfl, e1, Ro.cl, Ro.n_number, lk_number _ _, _, rfl, b, _, dy, _, _, rfl, e2, Ro.cl, Ro.n_over, lk_over _ _, _, _, rfl, rfl, zp.mul zs, _, rfl, a, _, dx, _, _, rfl, e1, Ro.cl, Ro.n_over, lk_over _ _, _, rfl, b, _, dy, _, _, rfl, e2, Ro.cl, Ro.n_number, lk_number _ _, _, _, rfl, rfl, zq.mul zr, make_rat (big4 (zp.prod zs)) (big4 (zq.prod zr)) (Int.mul_ne_zero q0 r0) (fun x G2 _ s2 hx => ?_)⟩
      exact kq r0 x G2 (s1.trans s2) hx
end
end Z

set_option Elab.async false
set_option linter.all false
set_option maxRecDepth 100000
set_option maxHeartbeats 8000000
/-! the law's own lowest terms -/
namespace Z
open PySem L2 XV RT
def spLowest : Sp := fun vs H Q _ => ∃ n d : Int, vs = [.int n, .int d] ∧ d ≠ 0 ∧ d.natAbs < 2 ^ 8000 ∧ ∀ t G, H t = none → Same H G → G t = some (.tup [.int (low n d).1, .int (low n d).2]) → Q (.ref t) G
section
variable {P : Program} {w : World} {K : PySem.W.Frag} {mg : Str → Option Value} {base : Heap} {A : Ad}
theorem sc_lowest : FnScope ["_law_number", "_law_over", "_law_one", "_law_other", "_law_sign"] ["_law_number", "_law_over"] (defScope s_lowest) := ⟨rfl, rfl, rfl, by decide +kernel, rfl, by decide +kernel, by decide +kernel⟩
theorem ok_lowest (T : Txt K mg A) : FnOk P w K mg base CX0 1 A.a_lowest A.d_lowest ["_law_number", "_law_over"] spLowest := by
  refine T.F_lowest.ok sc_lowest (fun vs H Q E h => ?_) (fun cdv Ar outer s H vs Q E hr h => ?_)
  · obtain ⟨n, d, rfl, _⟩ := h; rfl
  · obtain ⟨n, d, rfl, d0, hd, kq⟩ := h
    refine ⟨_, (pss_cons (ps_par (i := 2) (j := 3) (by rfl) sc_lowest.nd rfl rfl (by decide) rfl rfl (pa_cons (pe_callB call_abs (by rfl) T.z_abs (by decide +kernel) (pa_cons (pv 0) pa_nil)) (pa_cons (pe_callB call_abs (by rfl) T.z_abs (by decide +kernel) (pa_cons (pv 1) pa_nil)) pa_nil)) (by rfl))
      (pss_cons (ps_while PassesOwn.never (pt_cmpR op_gt (pv 3) pe_int (nomark _))
         (pss_one (ps_par (i := 2) (j := 3) (by rfl) sc_lowest.nd rfl rfl (by decide) rfl rfl (pa_cons (pv 3) (pa_cons (pe_op op_mod (pe_callTy call_int1 (by rfl) T.z_int (by decide +kernel) (pa_cons (pv 2) pa_nil)) (pv 3)) pa_nil)) (by rfl))))
      (pss_cons (ps_set (i := 4) sc_lowest.nd rfl (Or.inl rfl) (pe_ifExp (pt_cmpR op_lt (pv 1) pe_int (nomark _)) (pe_un un_neg pe_int) pe_int))
      (pss_one (ps_ret (pe_tup (pa_cons (pe_op op_fdivX (pe_op op_mul (pv 4) (pv 0)) (pv 2)) (pa_cons (pe_op op_fdivX (pe_op op_mul (pv 4) (pv 1)) (pv 2)) pa_nil)))))))), ?_⟩
    have ab : ∀ z : Int, (if z < 0 then -z else z) = (z.natAbs : Int) := fun z => by split <;> omega
    refine ⟨_, rfl, _, rfl, _, rfl, _, rfl, _, _, rfl, ?_⟩
    rw [ab, ab]
    refine ⟨fun m σ G => (∃ (x y : Nat) (z : Option V), σ = [some (.int n), some (.int d), some (.int (x : Int)), some (.int (y : Int)), z] ∧ Nat.gcd x y = Int.gcd n d ∧ m = y) ∧ G = H, ⟨_, ⟨n.natAbs, d.natAbs, _, rfl, rfl, rfl⟩, rfl⟩, ?_⟩
    rintro m σ G ⟨⟨x, y, z, rfl, hg, rfl⟩, rfl⟩
    refine ⟨_, rfl, _, _, rfl, rfl, _, rfl, ?_⟩
    by_cases c : (0 : Int) < (m : Int)
    · rw [decide_eq_true c]
      refine iteT ⟨fun σ' G' => (∃ (x' y' : Nat) (z : Option V), σ' = [some (.int n), some (.int d), some (.int (x' : Int)), some (.int (y' : Int)), z] ∧ Nat.gcd x' y' = Int.gcd n d ∧ y' < m) ∧ G' = G, fun σ' G' h => ?_, ?_⟩
      · obtain ⟨⟨x', y', z', rfl, h1, h2⟩, rfl⟩ := h
        exact ⟨y', h2, ⟨x', y', z', rfl, h1, rfl⟩, rfl⟩
      · refine ⟨_, rfl, _, rfl, .inl ⟨_, rfl, _, rfl, _, _, rfl, rfl, c, _, _, rfl, ⟨m, x % m, z, ?_, ?_, Nat.mod_lt _ (by omega)⟩, rfl⟩⟩
        · rfl
        · rw [← hg, Nat.gcd_comm x m, Nat.gcd_rec m x, Nat.gcd_comm]
    · rw [decide_eq_false c]
      have m0 : m = 0 := by omega
      subst m0
      rw [Nat.gcd_zero_right] at hg
      subst hg
      refine iteF ?_
      have g0 : 0 < Int.gcd n d := Nat.pos_of_ne_zero fun e => d0 (Int.gcd_eq_zero_iff.mp e).2
      have gl : Int.gcd n d < 2 ^ 8000 := Nat.lt_of_le_of_lt (Nat.le_of_dvd (by omega) (Nat.gcd_dvd_right n.natAbs d.natAbs)) hd
      have gi : (0 : Int) ≤ (Int.gcd n d : Int) := by omega
      have gn : (Int.gcd n d : Int) ≠ 0 ∧ (Int.gcd n d : Int).natAbs.log2 < 9000 := ⟨by omega, Nat.lt_of_lt_of_le (log_lt (k := 8000) (by rw [Int.natAbs_natCast]; exact gl) (by decide)) (by decide)⟩
      refine ⟨_, rfl, d, 0, rfl, rfl, _, rfl, ?_⟩
      by_cases c2 : d < 0
      · rw [decide_eq_true c2]
        refine iteT ⟨1, rfl, ?_⟩
        refine ⟨_, rfl, _, rfl, _, _, rfl, rfl, .inl ⟨by decide, by decide⟩, _, rfl, _, _, rfl, rfl, gn, _, rfl, _, rfl, _, _, rfl, rfl, .inl ⟨by decide, by decide⟩, _, rfl, _, _, rfl, rfl, gn, (by show 2 ≤ sizeLine; decide), fun t nt => kq t _ nt (fun b u e => by rw [upd_ne (ne_of_none e nt)]; exact e) ?_⟩
        rw [upd_same]
        unfold low
        rw [if_pos c2, ← Int.fdiv_eq_ediv_of_nonneg _ gi, ← Int.fdiv_eq_ediv_of_nonneg _ gi]
      · rw [decide_eq_false c2]
        refine iteF ?_
        refine ⟨_, rfl, _, rfl, _, _, rfl, rfl, .inl ⟨by decide, by decide⟩, _, rfl, _, _, rfl, rfl, gn, _, rfl, _, rfl, _, _, rfl, rfl, .inl ⟨by decide, by decide⟩, _, rfl, _, _, rfl, rfl, gn, (by show 2 ≤ sizeLine; decide), fun t nt => kq t _ nt (fun b u e => by rw [upd_ne (ne_of_none e nt)]; exact e) ?_⟩
        rw [upd_same]
        unfold low
        rw [if_neg c2, ← Int.fdiv_eq_ediv_of_nonneg _ gi, ← Int.fdiv_eq_ediv_of_nonneg _ gi]

end
end Z

set_option Elab.async false
set_option linter.all false
set_option maxRecDepth 100000
set_option maxHeartbeats 8000000
/-! the draws -/
namespace Z
open PySem L2 XV RT
theorem But.of {d : Addr} {H H' : Hp} (s : Same H H') : But d H H' := fun x o _ h => s x o h
theorem But.trans {d : Addr} {H H1 H2 : Hp} (a : But d H H1) (b : But d H1 H2) : But d H H2 := fun x o n h => b x o n (a x o n h)
theorem But.new {d p : Addr} {H H' : Hp} {o : HO} (a : But d H H') (h : H' p = none) (hd : H' d ≠ none) : But d H (L2.upd H' p o) := fun x u n z => by
  have q := a x u n z
  rw [upd_ne (ne_of_none q h)]
  exact q
/-- the pen's dict -/
def penK (l : Addr) (k m : Int) : List (Key × V) := [(.inr "cells", .ref l), (.inr "next", .int k), (.inr "left", .int m)]
theorem pen_merge (l : Addr) (k m : Int) : mergeK [] (penK l k m) = penK l k m := by kernel_rfl
theorem pen_c (l : Addr) (k m : Int) : valV (penK l k m) (Sum.inr "cells" : Key) = some (.ref l) := by kernel_rfl
theorem pen_o (l : Addr) (k m : Int) : valV (penK l k m) (Sum.inr "next" : Key) = some (.int k) := by kernel_rfl
theorem pen_l (l : Addr) (k m : Int) : valV (penK l k m) (Sum.inr "left" : Key) = some (.int m) := by kernel_rfl
theorem put_o (l : Addr) (k m k' : Int) : putK (penK l k m) (Sum.inr "next" : Key) (.int k') = penK l k' m := by kernel_rfl
theorem put_l (l : Addr) (k m m' : Int) : putK (penK l k m) (Sum.inr "left" : Key) (.int m') = penK l k m' := by kernel_rfl
/-- a pen at d: its cells, k of them opened, what is left -/
def Pen (H : Hp) (d l : Addr) (k : Nat) : Prop := ∃ (ns : List Int) (m : Int), H d = some (.dK (penK l (k : Int) m)) ∧ H l = some (.lst (ns.map V.int)) ∧ 0 ≤ m ∧ ns.length ≤ 63
theorem Pen.some {H : Hp} {d l : Addr} {k : Nat} (h : Pen H d l k) : ∃ x, H d = some (.dK ((Sum.inr "cells", V.ref l) :: x)) := by
  obtain ⟨ns, m, h, _⟩ := h
  exact ⟨_, h⟩
theorem Pen.cells {H : Hp} {d l : Addr} {k : Nat} (h : Pen H d l k) : ∃ xs, H l = Option.some (HO.lst xs) := by
  obtain ⟨ns, m, _, h, _⟩ := h
  exact ⟨_, h⟩
theorem Pen.same {H H' : Hp} {d l : Addr} {k : Nat} (h : Pen H d l k) (s : Same H H') : Pen H' d l k := by
  obtain ⟨ns, m, h1, h2, h3⟩ := h
  exact ⟨ns, m, s _ _ h1, s _ _ h2, h3⟩
theorem Pen.upd {H : Hp} {d l p : Addr} {k : Nat} {o : HO} (h : Pen H d l k) (h1 : d ≠ p) (h2 : l ≠ p) : Pen (upd H p o) d l k := by
  obtain ⟨ns, m, e1, e2, e3⟩ := h
  exact ⟨ns, m, by rw [upd_ne h1]; exact e1, by rw [upd_ne h2]; exact e2, e3⟩
theorem mul_l {i j : Int} (h1 : -(2 ^ 64) < i) (h2 : i < 2 ^ 64) : CMul i j := .inl ⟨h1, h2⟩
theorem mul_m {i j p : Int} (h : 0 < p) (hp : p ≤ 2 ^ 64) : CMul (i % p) j :=
  .inl ⟨Int.lt_of_lt_of_le (by decide) (Int.emod_nonneg _ (by omega)), Int.lt_of_lt_of_le (Int.emod_lt_of_pos _ h) hp⟩
theorem dp_ints {K : PySem.W.Frag} {H : Hp} : ∀ ns : List Int, DpAll K H (ns.map V.int) (ns.map PyData.int)
  | [] => .nil
  | n :: ns => .cons (.int n) (dp_ints ns)
theorem lay_ints : ∀ ns : List Int, PyData.canLayAll0 (ns.map PyData.int) = true ∧ PyData.depthAll (ns.map PyData.int) = 0
  | [] => by simp [PyData.canLayAll0, PyData.depthAll]
  | n :: ns => by
    obtain ⟨h1, h2⟩ := lay_ints ns
    simp [PyData.canLayAll0, PyData.canLay0, PyData.depthAll, PyData.depth, h1, h2]
theorem shaped_ints (ns : List Int) : SeqAt.shaped (.list (ns.map PyData.int)) = true := by
  obtain ⟨h1, h2⟩ := lay_ints ns
  simp [SeqAt.shaped, PyData.canLay0, PyData.depth, h1, h2]
theorem abs_nn (z : Int) : 0 ≤ (if z < 0 then -z else z) := by split <;> omega
/-! ### the promises -/
def spPen (K : PySem.W.Frag) : Sp := fun vs H Q _ => ∃ (a : Addr) (ns : List Int), vs = [.ref a] ∧ SqL K H a (ns.map V.int) ∧ ns.length ≤ 63 ∧ ∀ d l H', Pen H' d l 0 → Same H H' → H d = none → Q (.ref d) H'
def spDraw : Sp := fun vs H Q _ => ∃ (d l : Addr) (b : Int) (k : Nat), vs = [.ref d, .int b] ∧ Pen H d l k ∧ 0 < b ∧ b < 1000000 ∧ k ≤ 1000000 ∧ ∀ v H' k', 0 ≤ v → v < b → k' ≤ k + 1 → Pen H' d l k' → But d H H' → Q (.int v) H'
def spPick : Sp := fun vs H Q _ => ∃ (d l p : Addr) (xs : List V) (k : Nat), vs = [.ref d, .ref p] ∧ Pen H d l k ∧ H p = some (.lst xs) ∧ 0 < xs.length ∧ xs.length < 1000 ∧ k ≤ 1000000 ∧
  ∀ v H' k', v ∈ xs → k' ≤ k + 1 → Pen H' d l k' → But d H H' → Q v H'
section
variable {P : Program} {w : World} {K : PySem.W.Frag} {mg : Str → Option Value} {base : Heap} {A : Ad}
theorem sc_penof : FnScope ["_law_script"] ["_law_script"] (defScope s_penof) := ⟨rfl, rfl, rfl, by decide +kernel, rfl, by decide +kernel, by decide +kernel⟩
theorem ok_pen (T : Txt K mg A) : FnOk P w K mg base CX0 1 A.a_penof A.d_penof ["_law_script"] (spPen K) := by
  refine T.F_penof.ok sc_penof (fun vs H Q E h => ?_) (fun cdv A outer s H vs Q E hr h => ?_)
  · obtain ⟨a, ns, rfl, _⟩ := h; rfl
  · obtain ⟨a, ns, rfl, hs, hl, k⟩ := h
    refine ⟨_, (pss_one (ps_ret (pe_disp (pps_cons pe_str (pe_callTy call_list_of (by rfl) T.z_list (by decide +kernel) (pa_cons (pe_slice sl_list (pv 0) po_none (po_some pe_int)) pa_nil)) (pps_cons pe_str pe_int (pps_cons pe_str pe_int pps_nil))) (by rfl) (by rfl) (fun z => by cases z) (by decide)))), ?_⟩
    intro p np
    have s1 : ∀ o, Same H (upd H p o) := fun o b u e => by rw [upd_ne (ne_of_none e np)]; exact e
    refine ⟨_, rfl, 63, rfl, a, _, rfl, (s1 _).seq hs, fun q nq => ⟨q, _, rfl, .inl (SqL.of upd_same), fun l nl => ?_⟩⟩
    have nqp : p ≠ q := ne_of_none upd_same nq
    have nlp : p ≠ l := by
      refine ne_of_none (H := upd (upd H p (.dK [])) q (.lst _)) (o := .dK []) ?_ nl
      rw [upd_ne nqp]; exact upd_same
    refine ⟨?_, penK l 0 0, rfl, (by show 3 ≤ 15; decide), ?_⟩
    · rw [upd_ne nlp, upd_ne nqp]; exact upd_same
    · rw [pen_merge]
      refine k p l _ ⟨(ns.drop (HT.sIx (ns.map V.int).length 0 none)).take (HT.sIx (ns.map V.int).length (ns.map V.int).length (some 63) - HT.sIx (ns.map V.int).length 0 none), 0, upd_same, ?_, Int.le_refl 0, ?_⟩ ?_ np
      · rw [upd_ne nlp.symm, upd_same]
        unfold cutV
        rw [List.map_take, List.map_drop]
      · rw [List.length_take, List.length_drop]; omega
      · intro b u e
        have nb := ne_of_none e np
        have e1 : upd H p (.dK []) b = some u := by rw [upd_ne nb]; exact e
        have nbq := ne_of_none e1 nq
        have e2 : (upd (upd H p (.dK [])) q (.lst (cutV (ns.map V.int) none (some 63)))) b = some u := by rw [upd_ne nbq]; exact e1
        rw [upd_ne nb, upd_ne (ne_of_none e2 nl)]
        exact e2
theorem sc_draw : FnScope ["_law_pen", "_law_many", "_law_digit", "_law_index", "_law_size", "_law_cell", "_law_mixed"] ["_law_pen", "_law_many"] (defScope s_draw) := ⟨rfl, rfl, rfl, by decide +kernel, rfl, by decide +kernel, by decide +kernel⟩
theorem ok_draw (T : Txt K mg A) : FnOk P w K mg base CX0 1 A.a_draw A.d_draw ["_law_pen", "_law_many"] spDraw := by
  refine T.F_draw.ok sc_draw (fun vs H Q E h => ?_) (fun cdv A outer s H vs Q E hr h => ?_)
  · obtain ⟨d, l, b, k, rfl, _⟩ := h; rfl
  · obtain ⟨d, l, b, k, rfl, ⟨ns, m, hd, hc, hm, hn⟩, b0, b1, hk, kq⟩ := h
    have hu := hu_of hr
    have gL := pen_l l k m ▸ DGet.k (k := Sum.inr "left") hd
    have gO := pen_o l k m ▸ DGet.k (k := Sum.inr "next") hd
    have gC := pen_c l k m ▸ DGet.k (k := Sum.inr "cells") hd
    have ndl : l ≠ d := ne_of hc hd (fun z => nomatch z)
    refine ⟨_, (pss_cons (ps_if (pt_cmpR op_gt (pe_dget hu (pv 0) pe_str (fun _ _ => rfl)) pe_int (nomark _)) (pss_cons (ps_set (i := 2) sc_draw.nd rfl (Or.inl rfl) (pe_op op_mod (pe_callTy call_int1 (by rfl) T.z_int (by decide +kernel) (pa_cons (pe_dget hu (pv 0) pe_str (fun _ _ => rfl)) pa_nil)) (pv 1)))
       (pss_cons (ps_dput hu (pv 0) pe_str (pe_op op_fdiv (pe_dget hu (pv 0) pe_str (fun _ _ => rfl)) (pv 1)) rfl)
       (pss_one (ps_ret (pv 2)))))
        pss_nil)
      (pss_cons (ps_par (i := 3) (j := 4) (by rfl) sc_draw.nd rfl rfl (by decide) rfl rfl (pa_cons (pe_dget hu (pv 0) pe_str (fun _ _ => rfl)) (pa_cons (pe_callB call_len_seq (by rfl) T.z_len PySem.boot_len (pa_cons (pe_dget hu (pv 0) pe_str (fun _ _ => rfl)) pa_nil)) pa_nil)) (by rfl))
      (pss_cons (ps_dput hu (pv 0) pe_str (pe_op op_add (pv 3) pe_int) rfl)
      (pss_cons (ps_if (pt_cmpR op_eq (pv 4) pe_int (nomark _)) (pss_one (ps_ret (pe_op op_mod (pe_callTy call_int1 (by rfl) T.z_int (by decide +kernel) (pa_cons (pe_op op_add (pe_op op_mul pe_int (pv 3)) pe_int) pa_nil)) (pv 1))))
        pss_nil)
      (pss_cons (ps_set (i := 5) sc_draw.nd rfl (Or.inl rfl) (pe_ix ix_list (pe_dget hu (pv 0) pe_str (fun _ _ => rfl)) (pe_op op_mod (pe_callTy call_int1 (by rfl) T.z_int (by decide +kernel) (pa_cons (pv 3) pa_nil)) (pv 4)) (fun _ _ => rfl)))
      (pss_cons (ps_if (PW.pt (pw_and (pt_cmpR op_lt (pv 3) (pv 4) (nomark _)) (pw_and1 (pt_cmpR op_ge (pe_callB call_abs (by rfl) T.z_abs (by decide +kernel) (pa_cons (pv 5) pa_nil)) (pe_op op_pow pe_int pe_int) (nomark _))))) (pss_cons (ps_dput hu (pv 0) pe_str (pe_op op_fdiv (pe_op op_sub (pe_callB call_abs (by rfl) T.z_abs (by decide +kernel) (pa_cons (pv 5) pa_nil)) (pe_op op_pow pe_int pe_int)) (pv 1)) rfl)
       (pss_one (ps_ret (pe_op op_mod (pe_callTy call_int1 (by rfl) T.z_int (by decide +kernel) (pa_cons (pe_op op_sub (pe_callB call_abs (by rfl) T.z_abs (by decide +kernel) (pa_cons (pv 5) pa_nil)) (pe_op op_pow pe_int pe_int)) pa_nil)) (pv 1)))))
        pss_nil)
      (pss_cons (ps_set (i := 6) sc_draw.nd rfl (Or.inl rfl) (pe_op op_add (pe_op op_mul (pe_op op_mod (pe_callTy call_int1 (by rfl) T.z_int (by decide +kernel) (pa_cons (pv 5) pa_nil)) pe_int) pe_int) (pe_op op_mul (pe_op op_mul pe_int (pv 3)) (pv 3))))
      (pss_cons (ps_set (i := 6) sc_draw.nd rfl (Or.inl rfl) (pe_op op_mod (pe_callTy call_int1 (by rfl) T.z_int (by decide +kernel) (pa_cons (pe_op op_add (pe_op op_add (pv 6) (pe_op op_mul pe_int (pv 3))) pe_int) pa_nil)) pe_int))
      (pss_cons (ps_set (i := 6) sc_draw.nd rfl (Or.inl rfl) (pe_op op_mod (pe_callTy call_int1 (by rfl) T.z_int (by decide +kernel) (pa_cons (pe_op op_add (pe_op op_add (pe_op op_add (pe_op op_mul (pv 6) (pv 6)) (pe_op op_mul pe_int (pv 6))) (pe_op op_mul pe_int (pv 3))) pe_int) pa_nil)) pe_int))
      (pss_one (ps_ret (pe_op op_mod (pe_callTy call_int1 (by rfl) T.z_int (by decide +kernel) (pa_cons (pe_op op_fdiv (pe_op op_mod (pe_callTy call_int1 (by rfl) T.z_int (by decide +kernel) (pa_cons (pe_op op_mul (pv 6) (pe_op op_add (pv 6) pe_int)) pa_nil)) pe_int) pe_int) pa_nil)) (pv 1))))))))))))), ?_⟩
    refine ⟨_, rfl, d, _, rfl, gL, _, _, rfl, rfl, _, rfl, ite2 (fun c => ?_) (fun c => ?_)⟩
    · refine ⟨_, rfl, d, _, rfl, gL, .inl ⟨_, rfl, _, rfl, _, _, rfl, rfl, b0, ?_⟩⟩
      refine ⟨_, rfl, d, _, rfl, gL, _, rfl, _, _, rfl, rfl, ⟨b0, by omega⟩, _, rfl, d, _, rfl, DPut.k (k := Sum.inr "left") hd (by show 3 < sizeLine; decide), _, rfl, ?_⟩
      refine kq _ _ k (Int.emod_nonneg _ (by omega)) (Int.emod_lt_of_pos _ b0) (by omega) ⟨ns, m / b, ?_, ?_, Int.ediv_nonneg hm (by omega), hn⟩ (But.upd (fun _ _ _ e => e))
      · rw [put_l]; exact upd_same
      · rw [upd_ne ndl]; exact hc
    · refine ⟨_, rfl, d, _, rfl, gO, ?_⟩
      refine ⟨_, rfl, d, _, rfl, gC, l, _, rfl, .inl (SqL.of hc), ?_⟩
      refine ⟨_, _, rfl, _, rfl, _, _, rfl, rfl, _, rfl, d, _, rfl, DPut.k (k := Sum.inr "next") hd (by show 3 < sizeLine; decide), ?_⟩
      rw [put_o]
      have hd1 : upd H d (.dK (penK l ((k : Int) + 1) m)) d = some (.dK (penK l ((k : Int) + 1) m)) := upd_same
      have hc1 : upd H d (.dK (penK l ((k : Int) + 1) m)) l = some (.lst (ns.map V.int)) := by rw [upd_ne ndl]; exact hc
      have bt1 : But d H (upd H d (.dK (penK l ((k : Int) + 1) m))) := But.upd (fun _ _ _ e => e)
      generalize hH1 : upd H d (.dK (penK l ((k : Int) + 1) m)) = H1 at hd1 hc1 bt1 ⊢
      have gC1 := pen_c l ((k : Int) + 1) m ▸ DGet.k (k := Sum.inr "cells") hd1
      have pen1 : Pen H1 d l (k + 1) := ⟨ns, m, hd1, hc1, hm, hn⟩
      refine ⟨_, rfl, rfl, _, rfl, ite2 (fun c2 => ?_) (fun c2 => ?_)⟩
      · refine ⟨_, rfl, _, _, rfl, rfl, mul_l (by decide) (by decide), _, _, rfl, rfl, .inl ⟨_, rfl, _, rfl, _, _, rfl, rfl, b0, ?_⟩⟩
        exact kq _ _ (k + 1) (Int.emod_nonneg _ (by omega)) (Int.emod_lt_of_pos _ b0) (Nat.le_refl _) pen1 bt1
      · have hne : 0 < ns.length := by
          cases ns with
          | nil => exact absurd (decide_eq_true rfl) c2
          | cons _ _ => exact Nat.succ_pos _
        have lz : (0 : Int) < ((ns.map V.int).length : Int) := by rw [List.length_map]; omega
        obtain ⟨j, hj⟩ : ∃ j : Nat, (k : Int) % ((ns.map V.int).length : Int) = (j : Int) := ⟨((k : Int) % ((ns.map V.int).length : Int)).toNat, (Int.toNat_of_nonneg (Int.emod_nonneg _ (by omega))).symm⟩
        have hjl : j < ns.length := by
          have := Int.emod_lt_of_pos (k : Int) lz
          rw [hj, List.length_map] at this
          omega
        have hcell : (ns.map V.int)[j]? = some (V.int ns[j]) := by rw [List.getElem?_map, List.getElem?_eq_getElem hjl]; rfl
        refine ⟨_, rfl, d, _, rfl, gC1, _, rfl, .inl ⟨_, rfl, _, rfl, _, _, rfl, rfl, lz, ?_⟩⟩
        refine ⟨l, _, _, _, rfl, rfl, SqL.of hc1, at_of hj hcell, ?_⟩
        generalize ns[j] = z
        refine ⟨_, rfl, _, rfl, _, _, rfl, rfl, _, rfl, ?_⟩
        refine ite2 (fun _ => ?_) (fun _ => ?_)
        · refine ⟨_, rfl, _, rfl, _, _, rfl, rfl, ⟨by decide, by decide, by decide⟩, _, _, rfl, rfl, _, rfl, ite2 (fun c3 => ?_) (fun _ => ?_)⟩
          · have c4 := of_decide_eq_true c3
            refine ⟨_, rfl, _, rfl, _, _, rfl, rfl, ⟨by decide, by decide, by decide⟩, _, _, rfl, rfl, _, rfl, _, _, rfl, rfl, ⟨b0, by omega⟩, _, rfl, d, _, rfl, DPut.k (k := Sum.inr "left") hd1 (by show 3 < sizeLine; decide), ?_⟩
            refine ⟨_, rfl, _, rfl, _, _, rfl, rfl, ⟨by decide, by decide, by decide⟩, _, _, rfl, rfl, .inl ⟨_, rfl, _, rfl, _, _, rfl, rfl, b0, ?_⟩⟩
            refine kq _ _ (k + 1) (Int.emod_nonneg _ (by omega)) (Int.emod_lt_of_pos _ b0) (Nat.le_refl _) ⟨ns, _, by rw [put_l]; exact upd_same, ?_, Int.ediv_nonneg (Int.sub_nonneg_of_le c4) (by omega), hn⟩ (But.upd bt1)
            rw [upd_ne ndl]; exact hc1
          · exact (by
            refine ⟨_, rfl, .inl ⟨_, rfl, _, _, rfl, rfl, (by decide : (0 : Int) < 4294967197), _, _, rfl, rfl, mul_m (by decide) (by decide), _, rfl, _, _, rfl, rfl, mul_l (by decide) (by decide), _, rfl, _, _, rfl, rfl, mul_l (by omega) (by omega), _, _, rfl, rfl, ?_⟩⟩
            refine ⟨_, rfl, _, rfl, _, _, rfl, rfl, mul_l (by decide) (by decide), _, _, rfl, rfl, _, _, rfl, rfl, .inl ⟨_, rfl, _, _, rfl, rfl, (by decide : (0 : Int) < 4294967189), ?_⟩⟩
            refine ⟨_, rfl, _, rfl, _, _, rfl, rfl, mul_m (by decide) (by decide), _, rfl, _, _, rfl, rfl, mul_l (by decide) (by decide), _, _, rfl, rfl, _, rfl, _, _, rfl, rfl, mul_l (by decide) (by decide), _, _, rfl, rfl, _, _, rfl, rfl, .inl ⟨_, rfl, _, _, rfl, rfl, (by decide : (0 : Int) < 4294967161), ?_⟩⟩
            refine ⟨_, rfl, _, rfl, _, _, rfl, rfl, _, _, rfl, rfl, mul_m (by decide) (by decide), .inl ⟨_, rfl, _, _, rfl, rfl, (by decide : (0 : Int) < 4294967143), _, _, rfl, rfl, ⟨by decide, by decide⟩, .inl ⟨_, rfl, _, rfl, _, _, rfl, rfl, b0, ?_⟩⟩⟩
            exact kq _ _ (k + 1) (Int.emod_nonneg _ (by omega)) (Int.emod_lt_of_pos _ b0) (Nat.le_refl _) pen1 bt1)
        · refine iteF ?_
          exact (by
            refine ⟨_, rfl, .inl ⟨_, rfl, _, _, rfl, rfl, (by decide : (0 : Int) < 4294967197), _, _, rfl, rfl, mul_m (by decide) (by decide), _, rfl, _, _, rfl, rfl, mul_l (by decide) (by decide), _, rfl, _, _, rfl, rfl, mul_l (by omega) (by omega), _, _, rfl, rfl, ?_⟩⟩
            refine ⟨_, rfl, _, rfl, _, _, rfl, rfl, mul_l (by decide) (by decide), _, _, rfl, rfl, _, _, rfl, rfl, .inl ⟨_, rfl, _, _, rfl, rfl, (by decide : (0 : Int) < 4294967189), ?_⟩⟩
            refine ⟨_, rfl, _, rfl, _, _, rfl, rfl, mul_m (by decide) (by decide), _, rfl, _, _, rfl, rfl, mul_l (by decide) (by decide), _, _, rfl, rfl, _, rfl, _, _, rfl, rfl, mul_l (by decide) (by decide), _, _, rfl, rfl, _, _, rfl, rfl, .inl ⟨_, rfl, _, _, rfl, rfl, (by decide : (0 : Int) < 4294967161), ?_⟩⟩
            refine ⟨_, rfl, _, rfl, _, _, rfl, rfl, _, _, rfl, rfl, mul_m (by decide) (by decide), .inl ⟨_, rfl, _, _, rfl, rfl, (by decide : (0 : Int) < 4294967143), _, _, rfl, rfl, ⟨by decide, by decide⟩, .inl ⟨_, rfl, _, rfl, _, _, rfl, rfl, b0, ?_⟩⟩⟩
            exact kq _ _ (k + 1) (Int.emod_nonneg _ (by omega)) (Int.emod_lt_of_pos _ b0) (Nat.le_refl _) pen1 bt1)
end
end Z

set_option Elab.async false
set_option linter.all false
set_option maxRecDepth 100000
set_option maxHeartbeats 8000000
/-! the law's numbers, and whether a Ratio is right -/
namespace Z
open PySem L2 XV RT
def spNum : Sp := fun vs H Q _ => ∃ (d l : Addr) (k : Nat), vs = [.ref d] ∧ Pen H d l k ∧ k ≤ 900000 ∧ ∀ (i : Int) G k', i.natAbs < 2 ^ 140 → k' ≤ k + 5 → Pen G d l k' → But d H G → Q (.int i) G
def spIsR (C : Addr) : Sp := fun vs H Q _ => ∃ (a : Addr) (p q n d : Int), vs = [.ref a, .int n, .int d] ∧ RatAt H C a p q ∧ d ≠ 0 ∧ d.natAbs < 2 ^ 8000 ∧ ∀ G, Same H G → Q (.bl (decide ((p, q) = low n d))) G
theorem eqv_pair (p q r s : Int) : PyData.eqv (.tuple [.int p, .int q]) (.tuple [.int r, .int s]) = decide ((p, q) = (r, s)) := by
  simp only [PyData.eqv, PyData.eqvAll, Bool.and_true, Prod.mk.injEq, Bool.decide_and]
  rfl
theorem shaped_pair (p q : Int) : SeqAt.shaped (.tuple [.int p, .int q]) = true := by simp [SeqAt.shaped, PyData.canLay0, PyData.canLayAll0, PyData.depth, PyData.depthAll]
section
variable {P : Program} {w : World} {K : PySem.W.Frag} {mg : Str → Option Value} {base : Heap} {A : Ad}
theorem sc_pick : FnScope ["_law_pen", "_law_items"] ["_law_pen", "_law_items"] (defScope s_pick) := ⟨rfl, rfl, rfl, by decide +kernel, rfl, by decide +kernel, by decide +kernel⟩
theorem ok_pick (T : Txt K mg A) : FnOk P w K mg base CX0 2 A.a_pick A.d_pick ["_law_pen", "_law_items"] spPick := by
  have G_draw := ok_draw (P := P) (w := w) (base := base) T
  refine T.F_pick.ok sc_pick (fun vs H Q E h => ?_) (fun cdv Ar outer s H vs Q E hr h => ?_)
  · obtain ⟨d, l, p, xs, k, rfl, _⟩ := h; rfl
  · obtain ⟨d, l, p, xs, k, rfl, pen, hp, h0, h1, hk, kq⟩ := h
    refine ⟨_, (pss_one (ps_ret (pe_ix ix_list (pv 1) (pe_call G_draw (hr.mono (by decide)) (by rfl) T.g_draw T.F_draw.kp T.b_draw .nil pass0 (pa_cons (pv 0) (pa_cons (pe_callB call_len_seq (by rfl) T.z_len PySem.boot_len (pa_cons (pv 1) pa_nil)) pa_nil))) (fun _ _ => rfl)))), ?_⟩
    refine ⟨_, rfl, _, rfl, _, rfl, p, xs, rfl, .inl (SqL.of hp), d, l, _, k, rfl, pen, by omega, by omega, hk, fun v G k' v0 v1 kk pen' bt => ?_⟩
    obtain ⟨x, e⟩ := pen.some
    have hp' : G p = some (.lst xs) := bt _ _ (ne_of hp e (fun z => nomatch z)) hp
    have hv : v.toNat < xs.length := by omega
    refine ⟨p, xs, v, xs[v.toNat], rfl, rfl, SqL.of hp', at_of (Int.toNat_of_nonneg v0).symm (List.getElem?_eq_getElem hv), ?_⟩
    exact kq _ _ _ (List.getElem_mem hv) kk pen' bt
theorem sc_is : FnScope ["_law_told", "_law_number", "_law_over"] ["_law_told", "_law_number", "_law_over"] (defScope s_is) := ⟨rfl, rfl, rfl, by decide +kernel, rfl, by decide +kernel, by decide +kernel⟩
theorem ok_is (T : Txt K mg A) : FnOk P w K mg base CX0 2 A.a_is A.d_is ["_law_told", "_law_number", "_law_over"] (spIsR A.c_Ratio) := by
  have G_lowest := ok_lowest (P := P) (w := w) (base := base) T
  have Ro := T.Ro
  refine T.F_is.ok sc_is (fun vs H Q E h => ?_) (fun cdv Ar outer s H vs Q E hr h => ?_)
  · obtain ⟨a, p, q, n, d, rfl, _⟩ := h; rfl
  · obtain ⟨a, p, q, n, d, rfl, ⟨dx, e1⟩, d0, hd, kq⟩ := h
    refine ⟨_, (pss_one (ps_ret (pe_and (pe_callB call_isi (by rfl) T.z_isinstance (by decide +kernel) (pa_cons (pv 0) (pa_cons (pe_glob (v := .ref _) rfl T.g_Ratio rfl) pa_nil))) (pe_one (pe_cmpR (op_eqD hr.units) (pe_tup (pa_cons (pe_fld (pv 0) rfl) (pa_cons (pe_fld (pv 0) rfl) pa_nil))) (pe_call G_lowest (hr.mono (by decide)) (by rfl) T.g_lowest T.F_lowest.kp T.b_lowest .nil pass0 (pa_cons (pv 1) (pa_cons (pv 2) pa_nil))) (nomark _)))))), ?_⟩
    refine ⟨_, rfl, .ref a, .ref A.c_Ratio, .ref A.c_Ratio, .ref A.c_Ratio, true, rfl, .own _, RatAt.ty Ro ⟨dx, e1⟩, Ro.kc, true, rfl, iteT ?_⟩
    refine ⟨_, rfl, a, _, dx, _, _, rfl, e1, Ro.cl, Ro.n_number, lk_number _ _, _, rfl, a, _, dx, _, _, rfl, e1, Ro.cl, Ro.n_over, lk_over _ _, (by show 2 ≤ sizeLine; decide), fun t nt => ?_⟩
    have st : Same H (upd H t (.tup [.int p, .int q])) := fun b u e => by rw [upd_ne (ne_of_none e nt)]; exact e
    have ht : upd H t (.tup [.int p, .int q]) t = some (.tup [.int p, .int q]) := upd_same
    refine ⟨_, rfl, _, rfl, n, d, rfl, d0, hd, fun u G nu sG hu => ?_⟩
    refine ⟨.tuple [.int p, .int q], .tuple [.int (low n d).1, .int (low n d).2], .tup (SqT.of (sG _ _ ht)) (.cons (.int _) (.cons (.int _) .nil)), .tup (SqT.of hu) (.cons (.int _) (.cons (.int _) .nil)), shaped_pair _ _, shaped_pair _ _, ?_⟩
    rw [eqv_pair]
    exact kq G (st.trans sG)
theorem sc_numberof : FnScope ["_law_pen", "_law_menu", "_law_found"] ["_law_pen"] (defScope s_numberof) := ⟨rfl, rfl, rfl, by decide +kernel, rfl, by decide +kernel, by decide +kernel⟩
theorem ok_numberof (T : Txt K mg A) : FnOk P w K mg base CX0 3 A.a_numberof A.d_numberof ["_law_pen"] spNum := by
  have G_draw := ok_draw (P := P) (w := w) (base := base) T
  have G_pick := ok_pick (P := P) (w := w) (base := base) T
  refine T.F_numberof.ok sc_numberof (fun vs H Q E h => ?_) (fun cdv Ar outer s H vs Q E hr h => ?_)
  · obtain ⟨d, l, k, rfl, _⟩ := h; rfl
  · obtain ⟨d, l, k, rfl, pen, hk, kq⟩ := h
    refine ⟨_, (pss_cons (ps_set (i := 1) sc_numberof.nd rfl (Or.inl rfl) (pe_lst (pa_cons (pe_call G_draw (hr.mono (by decide)) (by rfl) T.g_draw T.F_draw.kp T.b_draw .nil pass0 (pa_cons (pv 0) (pa_cons pe_int pa_nil))) (pa_cons (pe_op op_add (pe_op op_mul (pe_call G_draw (hr.mono (by decide)) (by rfl) T.g_draw T.F_draw.kp T.b_draw .nil pass0 (pa_cons (pv 0) (pa_cons pe_int pa_nil))) (pe_op op_pow pe_int pe_int)) pe_int) (pa_cons pe_int (pa_cons (pe_op op_mul (pe_call G_draw (hr.mono (by decide)) (by rfl) T.g_draw T.F_draw.kp T.b_draw .nil pass0 (pa_cons (pv 0) (pa_cons pe_int pa_nil))) (pe_op op_pow pe_int pe_int)) pa_nil))))))
      (pss_cons (ps_set (i := 2) sc_numberof.nd rfl (Or.inl rfl) (pe_call G_pick (hr.mono (by decide)) (by rfl) T.g_pick T.F_pick.kp T.b_pick .nil pass0 (pa_cons (pv 0) (pa_cons (pv 1) pa_nil))))
      (pss_one (ps_ret (pe_ifExp (pt_cmpR op_eq (pe_call G_draw (hr.mono (by decide)) (by rfl) T.g_draw T.F_draw.kp T.b_draw .nil pass0 (pa_cons (pv 0) (pa_cons pe_int pa_nil))) pe_int (nomark _)) (pe_un un_neg (pv 2)) (pv 2)))))), ?_⟩
    refine ⟨_, rfl, d, l, 7, k, rfl, pen, by decide, by decide, by omega, fun v1 G1 k1 v1a v1b hk1 pen1 b1 => ?_⟩
    refine ⟨_, rfl, d, l, 1000, k1, rfl, pen1, by decide, by decide, by omega, fun v2 G2 k2 v2a v2b hk2 pen2 b2 => ?_⟩
    refine ⟨_, _, rfl, rfl, ⟨by decide, by decide, by decide⟩, _, _, rfl, rfl, mul_l (by omega) (by omega), _, _, rfl, rfl, ?_⟩
    refine ⟨_, rfl, d, l, 50, k2, rfl, pen2, by decide, by decide, by omega, fun v3 G3 k3 v3a v3b hk3 pen3 b3 => ?_⟩
    refine ⟨_, _, rfl, rfl, ⟨by decide, by decide, by decide⟩, _, _, rfl, rfl, mul_l (by omega) (by omega), (by show 4 ≤ sizeLine; decide), fun p np => ?_⟩
    obtain ⟨x3, e3⟩ := pen3.some
    obtain ⟨ys, c3⟩ := pen3.cells
    have dp : d ≠ p := ne_of_none e3 np
    have lp : l ≠ p := ne_of_none c3 np
    refine ⟨_, rfl, _, rfl, d, l, p, _, k3, rfl, pen3.upd dp lp, upd_same, (by simp), (by simp), by omega, fun x G5 k5 xm hk5 pen5 b5 => ?_⟩
    have q1 : (10 : Int) ^ Int.toNat 37 = 10000000000000000000000000000000000000 := by decide +kernel
    have q2 : (10 : Int) ^ Int.toNat 20 = 100000000000000000000 := by decide +kernel
    have big : (2 : Nat) ^ 140 = 1393796574908163946345982392040522594123776 := by decide +kernel
    obtain ⟨i, rfl, hi⟩ : ∃ i : Int, x = .int i ∧ i.natAbs < 2 ^ 140 := by
      rw [q1, q2] at xm
      rw [big]
      simp only [List.mem_cons, List.not_mem_nil, or_false] at xm
      rcases xm with rfl | rfl | rfl | rfl
      · exact ⟨_, rfl, by omega⟩
      · exact ⟨_, rfl, by omega⟩
      · exact ⟨_, rfl, by omega⟩
      · exact ⟨_, rfl, by omega⟩
    have b35 : But d H G5 := ((b1.trans b2).trans b3 |>.new np (by rw [e3]; exact fun z => nomatch z)).trans b5
    refine ⟨_, rfl, d, l, 2, k5, rfl, pen5, by decide, by decide, by omega, fun v6 G6 k6 v6a v6b hk6 pen6 b6 => ?_⟩
    refine ⟨rfl, _, rfl, ?_⟩
    by_cases v0 : v6 = 0
    · subst v0
      refine iteT ?_
      refine ⟨_, rfl, ?_⟩
      exact ⟨_, rfl, kq _ _ _ (by omega) (by omega) pen6 (b35.trans b6)⟩
    · rw [show decide (V.int v6 = V.int 0) = false from decide_eq_false fun z => v0 (by injection z)]
      refine iteF ?_
      exact ⟨_, rfl, kq _ _ _ hi (by omega) pen6 (b35.trans b6)⟩
end
end Z

set_option Elab.async false
set_option linter.all false
set_option maxRecDepth 100000
set_option maxHeartbeats 8000000
/-! BadOver.__init__ -/
namespace Z
open PySem L2 XV RT
/-- Base.__init__(self, text) -/
theorem base_step {K : PySem.W.Frag} {C a : Addr} {H : Hp} {σ : List (Option V)} {D : Ends} {tx : Str} (T : OexC K C) (h0 : σ[0]? = some (some (.ref a))) (ha : H a = some (exo a C none)) (q : D.nx σ H) : tDrop (tVeI K (tCons (tVar 0) (tCons (tC (.str tx)) tNil))) D σ H :=
  ⟨_, h0, a, C, _, rfl, (by show 1 ≤ 1000; decide), T, ha, q⟩
section
variable {P : Program} {w : World} {K : PySem.W.Frag} {mg : Str → Option Value} {base : Heap} {A : Ad}
theorem sc_BadOver : FnScope ["self"] ["self"] (defScope s_BadOver) := ⟨rfl, rfl, rfl, by decide +kernel, rfl, by decide +kernel, by decide +kernel⟩
theorem ok_BadOver (T : Txt K mg A) : FnOk P w K mg base (L2.CX P w) 1 A.i_BadOver A.d_BadOver ["self"] (spBad A.c_BadOver) := by
  refine T.E_BadOver.F.okX sc_BadOver (fun vs H Q E h => ?_) (fun cdv A' outer s H vs Q E hr h => ?_)
  · obtain ⟨a, rfl, _⟩ := h; rfl
  · obtain ⟨a, rfl, ha, k⟩ := h
    refine ⟨_, (pss_one (ps_expr (pe_binit T.B (by rfl) T.gj (pa_cons (pv 0) (pa_cons pe_str pa_nil))))), ?_⟩
    exact base_step T.E_BadOver.E.T rfl ha (k H fun _ _ e => e)
theorem ok_rinit (T : Txt K mg A) : FnOk P w K mg base (L2.CX P w) 3 A.a_Ratio__init__ A.d_Ratio__init__ ["self", "number", "over"] (spRInit A.c_Ratio A.c_BadOver) := ok_init T (ok_BadOver T)
end
end Z

set_option Elab.async false
set_option linter.all false
set_option maxRecDepth 100000
set_option maxHeartbeats 8000000
/-! the figures of numbers -/
namespace Z
open PySem L2 XV RT
def spDigits : Sp := fun vs H Q _ => ∃ i : Int, vs = [.int i] ∧ 0 ≤ i ∧ i < 10 ^ 64 ∧ ∀ G, Same H G → Q (.str (toString i)) G
theorem join1_ok {x : Str} (h : x.length ≤ 1921) : JoinOk (Str.ofString "") [x].reverse = true := by
  have e : (Str.ofString "").length = 0 := rfl
  have z : 2000 ≤ sizeLine := by decide
  simp [JoinOk, Builtin.Str.tooLong, e]
  omega
theorem join1 (x : Str) : Txt.join (Str.ofString "") [x].reverse = x := rfl
section
variable {P : Program} {w : World} {K : PySem.W.Frag} {mg : Str → Option Value} {base : Heap} {A : Ad}
theorem sc_digits : FnScope ["number", "blocks", "rest", "low"] ["number"] (defScope s_digits) := ⟨rfl, rfl, rfl, by decide +kernel, rfl, by decide +kernel, by decide +kernel⟩
theorem ok_digits (T : Txt K mg A) : FnOk P w K mg base CX0 1 A.a_digits A.d_digits ["number"] spDigits := by
  refine T.F_digits.ok sc_digits (fun vs H Q E h => ?_) (fun cdv Ar outer s H vs Q E hr h => ?_)
  · obtain ⟨i, rfl, _⟩ := h; rfl
  · obtain ⟨i, rfl, i0, i1, kq⟩ := h
    refine ⟨_, (pss_cons (ps_set (i := 1) sc_digits.nd rfl (Or.inl rfl) (pe_lst pa_nil))
      (pss_cons (ps_set (i := 2) sc_digits.nd rfl (Or.inl rfl) (pv 0))
      (pss_cons (ps_while PassesOwn.never (pt_cmpR op_ge (pv 2) (pe_glob (v := .int 10000000000000000000000000000000000000000000000000000000000000000) rfl (Classical.choose_spec T.k_BLOCK) ⟨_, rfl⟩) (nomark _))
         (pss_cons (ps_asg (pe_callB call_divmod (by rfl) T.z_divmod (by decide +kernel) (pa_cons (pv 2) (pa_cons (pe_glob (v := .int 10000000000000000000000000000000000000000000000000000000000000000) rfl (Classical.choose_spec T.k_BLOCK) ⟨_, rfl⟩) pa_nil))) (pg_tup (by rfl) (pgs_cons (pg_name (i := 2) sc_digits.nd rfl (Or.inl rfl)) (pgs_cons (pg_name (i := 3) sc_digits.nd rfl (Or.inl rfl)) pgs_nil))))
         (pss_one (ps_expr (pe_bm PySem.F.plainAttrs_list PySem.F.slot_list_append PySem.F.type_list_append mt_append (pv 1) (pa_cons (pe_m1 PySem.F.slot_str_zfill PySem.F.type_str_zfill mt_zfill (pe_callTy call_str_int (by rfl) T.z_str (by decide +kernel) (pa_cons (pv 3) pa_nil)) (pe_glob (v := .int 64) rfl (Classical.choose_spec T.k_BLOCK_DIGITS) ⟨_, rfl⟩)) pa_nil))))))
      (pss_cons (ps_expr (pe_bm PySem.F.plainAttrs_list PySem.F.slot_list_append PySem.F.type_list_append mt_append (pv 1) (pa_cons (pe_callTy call_str_int (by rfl) T.z_str (by decide +kernel) (pa_cons (pv 2) pa_nil)) pa_nil)))
      (pss_one (ps_ret (pe_joinRev rfl (by rfl) T.z_reversed pe_str (pv 1)))))))), ?_⟩
    refine ⟨(by decide), fun p np => ⟨_, rfl, ?_⟩⟩
    have h1 : ∀ b u, H b = some u → upd H p (.lst []) b = some u := fun b u e => by rw [upd_ne (ne_of_none e np)]; exact e
    refine ⟨fun m σ G => (m = 0 ∧ σ = [some (.int i), some (.ref p), some (.int i), none]) ∧ G = upd H p (.lst []), ⟨0, ⟨rfl, rfl⟩, rfl⟩, ?_⟩
    rintro m σ G ⟨⟨rfl, rfl⟩, rfl⟩
    refine ⟨_, rfl, _, _, rfl, rfl, _, rfl, ?_⟩
    rw [decide_eq_false (by omega : ¬ ((10000000000000000000000000000000000000000000000000000000000000000 : Int) ≤ i))]
    refine iteF ?_
    have lg : i.natAbs.log2 < 1920 := log_lt (Nat.lt_of_lt_of_le (by omega : i.natAbs < 10 ^ 64) (by decide +kernel)) (by decide)
    refine ⟨_, rfl, .inl ⟨rfl, _, SqL.of upd_same⟩, _, rfl, i, rfl, lg, p, _, _, rfl, rfl, upd_same, (by show 0 < sizeLine; decide), ?_⟩
    refine ⟨Str.ofString "", rfl, _, rfl, p, [Str.ofString (toString i)], rfl, SqL.of upd_same, ?_, ?_⟩
    · have ln := PyProof.Rows.int_text_len_1921 lg
      exact join1_ok (by omega)
    · rw [show Txt.join (Str.ofString "") [Str.ofString (toString i)].reverse = Str.ofString (toString i) from join1 _]
      exact kq _ fun b u e => by rw [upd_ne (ne_of_none e np)]; exact h1 b u e
end
end Z

set_option Elab.async false
set_option linter.all false
set_option maxRecDepth 100000
set_option maxHeartbeats 8000000
/-! the figures of numbers with a sign, and of fractions -/
namespace Z
open PySem L2 XV RT
def spSigned : Sp := fun vs H Q _ => ∃ i : Int, vs = [.int i] ∧ i.natAbs < 10 ^ 64 ∧ ∀ G, Same H G → Q (.str (toString i)) G
theorem dash (b : String) : Str.ofString ("-" ++ b) = Str.empty ++ Str.ofString "-" ++ Str.ofString b := by
  have e : ("-" : String).toByteArray.data.toList = [45] := by decide +kernel
  simp only [Str.ofString, String.toByteArray_append, ByteArray.data_append, Array.toList_append, e]
  have f : cpsOfBytes 0 0 ([45] ++ b.toByteArray.data.toList) = 45 :: cpsOfBytes 0 0 b.toByteArray.data.toList := rfl
  have g : cpsOfBytes 0 0 [45] = [45] := rfl
  rw [f, g]
  have h : ∀ l : List Nat, (⟨(45 :: l).toArray⟩ : Str) = Str.empty ++ ⟨[45].toArray⟩ ++ ⟨l.toArray⟩ := fun l => by
    show (⟨_⟩ : Str) = ⟨(#[] ++ #[45]) ++ l.toArray⟩
    congr 1
    simp
  exact h _
theorem text_neg {i : Int} (h : i < 0) : Str.ofString (toString i) = Str.empty ++ Str.ofString "-" ++ Str.ofString (toString (-i)) := by
  obtain ⟨n, rfl⟩ : ∃ n, i = Int.negSucc n := by
    cases i with
    | ofNat n => exact absurd h (by simp)
    | negSucc n => exact ⟨n, rfl⟩
  have e : toString (Int.negSucc n) = "-" ++ toString (-(Int.negSucc n)) := rfl
  rw [e]
  exact dash _
section
variable {P : Program} {w : World} {K : PySem.W.Frag} {mg : Str → Option Value} {base : Heap} {A : Ad}
theorem sc_signeddigits : FnScope ["number"] ["number"] (defScope s_signeddigits) := ⟨rfl, rfl, rfl, by decide +kernel, rfl, by decide +kernel, by decide +kernel⟩
theorem ok_signeddigits (T : Txt K mg A) : FnOk P w K mg base CX0 2 A.a_signeddigits A.d_signeddigits ["number"] spSigned := by
  have G_digits := ok_digits (P := P) (w := w) (base := base) T
  refine T.F_signeddigits.ok sc_signeddigits (fun vs H Q E h => ?_) (fun cdv Ar outer s H vs Q E hr h => ?_)
  · obtain ⟨i, rfl, _⟩ := h; rfl
  · obtain ⟨i, rfl, i1, kq⟩ := h
    refine ⟨_, (pss_cons (ps_if (pt_cmpR op_lt (pv 0) pe_int (nomark _)) (pss_one (ps_ret (pe_joined (.cons pe_str (.cons (pe_fmt (pe_call G_digits (hr.mono (by decide)) (by rfl) T.g_digits T.F_digits.kp T.b_digits .nil pass0 (pa_cons (pe_un un_neg (pv 0)) pa_nil))) .nil)))))
        pss_nil)
      (pss_one (ps_ret (pe_call G_digits (hr.mono (by decide)) (by rfl) T.g_digits T.F_digits.kp T.b_digits .nil pass0 (pa_cons (pv 0) pa_nil))))), ?_⟩
    refine ⟨_, rfl, _, _, rfl, rfl, _, rfl, ?_⟩
    by_cases c : i < 0
    · rw [decide_eq_true c]
      refine iteT ?_
      have lg : (-i).natAbs.log2 < 1920 := log_lt (Nat.lt_of_lt_of_le (by omega : (-i).natAbs < 10 ^ 64) (by decide +kernel)) (by decide)
      have ln := PyProof.Rows.int_text_len_1921 lg
      have z : 2000 ≤ sizeLine := by decide
      refine ⟨_, rfl, by decide, _, rfl, _, rfl, -i, rfl, by omega, by omega, fun G sG => .inl ⟨_, rfl, by omega, _, rfl, ?_, ?_⟩⟩
      · rw [← text_neg c]
        have := PyProof.Rows.int_text_len_1921 (i := i) (by rw [← Int.natAbs_neg]; exact lg)
        omega
      · show Q _ _
        rw [← text_neg c]
        exact kq G sG
    · rw [decide_eq_false c]
      exact iteF ⟨_, rfl, i, rfl, by omega, by omega, kq⟩
def spTxt (C : Addr) : Sp := fun vs H Q _ => ∃ (a : Addr) (p q : Int), vs = [.ref a] ∧ RatAt H C a p q ∧ p.natAbs < 10 ^ 64 ∧ 0 < q ∧ q < 10 ^ 64 ∧ ∀ G, Same H G → Q (.str (if q = 1 then Str.ofString (toString p) else Str.ofString (toString p) ++ Str.ofString "/" ++ Str.ofString (toString q))) G

theorem sc_Ratio__str__ : FnScope ["self"] ["self"] (defScope s_Ratio__str__) := ⟨rfl, rfl, rfl, by decide +kernel, rfl, by decide +kernel, by decide +kernel⟩
theorem ok_str (T : Txt K mg A) : FnOk P w K mg base CX0 3 A.a_Ratio__str__ A.d_Ratio__str__ ["self"] (spTxt A.c_Ratio) := by
  have G_digits := ok_digits (P := P) (w := w) (base := base) T
  have G_signeddigits := ok_signeddigits (P := P) (w := w) (base := base) T
  have Ro := T.Ro
  refine T.F_Ratio__str__.ok sc_Ratio__str__ (fun vs H Q E h => ?_) (fun cdv Ar outer s H vs Q E hr h => ?_)
  · obtain ⟨a, p, q, rfl, _⟩ := h; rfl
  · obtain ⟨a, p, q, rfl, ⟨dx, e1⟩, hp, q0, hq, kq⟩ := h
    refine ⟨_, (pss_cons (ps_if (pt_cmpR op_eq (pe_fld (pv 0) rfl) pe_int (nomark _)) (pss_one (ps_ret (pe_joined1 (pe_fmt (pe_call G_signeddigits (hr.mono (by decide)) (by rfl) T.g_signeddigits T.F_signeddigits.kp T.b_signeddigits .nil pass0 (pa_cons (pe_fld (pv 0) rfl) pa_nil))))))
        pss_nil)
      (pss_one (ps_ret (pe_joined (.cons (pe_fmt (pe_call G_signeddigits (hr.mono (by decide)) (by rfl) T.g_signeddigits T.F_signeddigits.kp T.b_signeddigits .nil pass0 (pa_cons (pe_fld (pv 0) rfl) pa_nil))) (.cons pe_str (.cons (pe_fmt (pe_call G_digits (hr.mono (by decide)) (by rfl) T.g_digits T.F_digits.kp T.b_digits .nil pass0 (pa_cons (pe_fld (pv 0) rfl) pa_nil))) .nil))))))), ?_⟩
    refine ⟨_, rfl, a, _, dx, _, _, rfl, e1, Ro.cl, Ro.n_over, lk_over _ _, rfl, _, rfl, ?_⟩
    have la : ∀ x y : Str, (x ++ y).length = x.length + y.length := fun x y => Array.size_append
    have lz : ∀ x : Str, Str.empty ++ x = x := fun x => by
      show (⟨#[] ++ x.cps⟩ : Str) = x
      rw [Array.empty_append]
    have lo : (Str.ofString "/").length = 1 := rfl
    have z : 10000 ≤ sizeLine := by decide
    have lg : ∀ i : Int, i.natAbs < 10 ^ 64 → (Str.ofString (toString i)).length ≤ 1921 := fun i h => PyProof.Rows.int_text_len_1921 (log_lt (Nat.lt_of_lt_of_le h (by decide +kernel)) (by decide))
    have lp := lg p hp
    have lq := lg q (by omega)
    by_cases c : q = 1
    · subst c
      refine iteT ?_
      refine ⟨_, rfl, a, _, dx, _, _, rfl, e1, Ro.cl, Ro.n_number, lk_number _ _, p, rfl, hp, fun G sG => .inl ⟨_, rfl, by omega, ?_⟩⟩
      exact kq G sG
    · rw [show decide (V.int q = V.int 1) = false from decide_eq_false fun z => c (by injection z)]
      refine iteF ?_
      refine ⟨_, rfl, a, _, dx, _, _, rfl, e1, Ro.cl, Ro.n_number, lk_number _ _, p, rfl, hp, fun G sG => .inl ⟨_, rfl, by omega, _, rfl, by rw [lz]; omega, _, rfl, by rw [lz, la]; omega, ?_⟩⟩
      have e2 := sG _ _ e1
      refine ⟨_, rfl, a, _, dx, _, _, rfl, e2, Ro.cl, Ro.n_over, lk_over _ _, q, rfl, by omega, hq, fun G2 sG2 => .inl ⟨_, rfl, by omega, _, rfl, by rw [lz, la, la]; omega, ?_⟩⟩
      rw [lz]
      have := kq G2 (sG.trans sG2)
      rw [if_neg c] at this
      exact this
end
end Z

set_option Elab.async false
set_option linter.all false
set_option maxRecDepth 100000
set_option maxHeartbeats 8000000
/-! the law's own defs: _law_bad, _law_pair -/
namespace Z
open PySem L2 XV RT LamX
abbrev qL (q : Str) : Str := (PyProof.Rows.envOfC q (defScope s_law) 0 0 .none).qual ++ "<lambda>"
/-- the tables that lambdas are kept in -/
def TL (A : Ad) : List (Addr × Str) := [(A.p_pair, qL "_law_pair"), (A.p_whole, qL "_law_whole"), (A.p_law, qL "law")]
abbrev nilS (sp : Sp) : Sp := fun vs H Q E => sp (vs ++ []) H Q E
/-- what _law_bad makes of the lambda that it gets -/
def TBad (CB : Addr) : (XK → Hp → VK → Prop) → Hp → VK → Prop := fun tl H Q => ∀ (E : XK) (Qn : VK), (∀ H', Q (.bl true) H' → E (.ref CB) none H') → (∀ v H', Q (.bl false) H' → Qn v H') → tl E H Qn
theorem exm_Ec {K : PySem.W.Frag} {mg : Str → Option Value} {cj C fI : Addr} {x qual : Str} {st : Stmt} {fd : FuncData} {fs : List Str} (E : Ec K mg cj C fI x qual st fd fs) : PySem.W.exmOne K (.ref C) (.ref C) = some true := by
  have s1 : PySem.W.subIn K (.ref C) (.ref C) = some true := by
    obtain ⟨cd, h1, h2⟩ := E.m
    show PySem.W.mroIn K C (.ref C) = some true
    unfold PySem.W.mroIn
    rw [h1, Option.bind_some, h2]
    simp
  exact PySem.W.exm_ref E.R.sb E.R.hd E.ty s1
theorem kit_Ec {K : PySem.W.Frag} {mg : Str → Option Value} {cj C fI : Addr} {x qual : Str} {st : Stmt} {fd : FuncData} {fs : List Str} (E : Ec K mg cj C fI x qual st fd fs) (hj : (PySem.W.clsIn K cj).isSome = true) (tj : PySem.W.typeIn K (.ref cj) = some (.type "type")) : PySem.W.kitOne K (.ref C) (.ref cj) = some true := by
  have s1 : PySem.W.subIn K (.ref C) (.ref cj) = some true := by
    obtain ⟨cd, h1, h2⟩ := E.m
    show PySem.W.mroIn K C (.ref cj) = some true
    unfold PySem.W.mroIn
    rw [h1, Option.bind_some, h2]
    simp
  unfold PySem.W.kitOne
  split
  · rfl
  · show (if ((PySem.W.clsIn K cj).isSome && PySem.W.typeIn K (.ref cj) == some (.type "type")) = true then PySem.W.subIn K (.ref C) (.ref cj) else none) = some true
    rw [hj, tj, if_pos (by simp)]
    exact s1
theorem RatAt.ext {H G : Hp} {C a : Addr} {p q : Int} (h : RatAt H C a p q) (s : ExtN H G) : RatAt G C a p q := let ⟨dx, e⟩ := h; ⟨dx, s _ _ e (fun _ z => nomatch z)⟩
theorem Rv.same {H G : Hp} {C : Addr} {v : V} {p q : Int} (h : Rv H C v p q) (s : Same H G) : Rv G C v p q := h.elim (fun ⟨a, e, r⟩ => .inl ⟨a, e, r.same s⟩) .inr
def Bz (k : Nat) (i : Int) : Prop := i.natAbs < 2 ^ k
theorem Bz.mul {j k : Nat} {a b : Int} (x : Bz j a) (y : Bz k b) : Bz (j + k) (a * b) := by
  unfold Bz at *
  rw [Int.natAbs_mul, Nat.pow_add]
  exact Nat.mul_lt_mul'' x y
theorem Bz.mono {j k : Nat} {a : Int} (x : Bz j a) (h : j ≤ k) : Bz k a := Nat.lt_of_lt_of_le x (Nat.pow_le_pow_right (by decide) h)
theorem Bz.sz {j : Nat} {a : Int} (x : Bz j a) (h : j ≤ 2000 := by decide) : Sz a := x.mono h
theorem Bz.add {k : Nat} {a b : Int} (x : Bz k a) (y : Bz k b) : Bz (k + 1) (a + b) := by
  unfold Bz at *
  rw [Nat.pow_succ]
  omega
theorem Bz.sub {k : Nat} {a b : Int} (x : Bz k a) (y : Bz k b) : Bz (k + 1) (a - b) := by
  unfold Bz at *
  rw [Nat.pow_succ]
  omega
theorem Bz.neg {k : Nat} {a : Int} (x : Bz k a) : Bz k (-a) := by
  unfold Bz at *
  rw [Int.natAbs_neg]; exact x
theorem Bz.abs {k : Nat} {a : Int} (x : Bz k a) : Bz k (if a < 0 then -a else a) := by
  split
  · exact x.neg
  · exact x
theorem Bz.big {k : Nat} {a : Int} (x : Bz k a) (h : k ≤ 8000 := by decide) : a.natAbs < 2 ^ 8000 := x.mono h
theorem Bz.le {k : Nat} {a b : Int} (x : Bz k a) (h : b.natAbs ≤ a.natAbs) : Bz k b := Nat.lt_of_le_of_lt h x
def spIsT (C : Addr) : Sp := fun vs H Q _ => ∃ (a : Addr) (p q n d : Int), vs = [.ref a, .int n, .int d] ∧ RatAt H C a p q ∧ d ≠ 0 ∧ d.natAbs < 2 ^ 8000 ∧ (p, q) = low n d ∧ ∀ G, Same H G → Q (.bl true) G
theorem isT (C : Addr) : ∀ vs H Q E, spIsT C vs H Q E → spIsR C vs H Q E := fun vs H Q E ⟨a, p, q, n, d, e, h, d0, hd, eq, k⟩ => ⟨a, p, q, n, d, e, h, d0, hd, fun G s => by rw [decide_eq_true eq]; exact k G s⟩
def spEqT (C : Addr) : Sp := fun vs H Q _ => ∃ (a : Addr) (v : V) (p q : Int) (b : Bool), vs = [.ref a, v] ∧ RatAt H C a p q ∧ ((∃ y r s, v = .ref y ∧ RatAt H C y r s ∧ b = (decide (p = r) && decide (q = s))) ∨ (∃ i, v = .int i ∧ b = false)) ∧ Q (.bl b) H
theorem eqT (C : Addr) : ∀ vs H Q E, spEqT C vs H Q E → spEqR C vs H Q E := fun vs H Q E ⟨a, v, p, q, b, e, h, hv, k⟩ => by
  rcases hv with ⟨y, r, s, rfl, hy, rfl⟩ | ⟨i, rfl, rfl⟩
  · exact ⟨a, _, p, q, r, s, e, h, .inl ⟨.inl ⟨y, rfl, hy⟩, ⟨y, rfl⟩, k⟩⟩
  · exact ⟨a, _, p, q, i, 1, e, h, .inr ⟨rfl, k⟩⟩
def spLessT (C : Addr) : Sp := fun vs H Q _ => ∃ (a : Addr) (v : V) (p q r s : Int) (b : Bool), vs = [.ref a, v] ∧ RatAt H C a p q ∧ Rv H C v r s ∧ Sz p ∧ Sz q ∧ Sz r ∧ Sz s ∧ b = decide (p * s < r * q) ∧ ∀ G, Same H G → Q (.bl b) G
theorem lessT (C : Addr) : ∀ vs H Q E, spLessT C vs H Q E → spLess C vs H Q E := fun vs H Q E ⟨a, v, p, q, r, s, b, e, h, hv, z1, z2, z3, z4, eb, k⟩ => ⟨a, v, p, q, r, s, e, h, hv, z1, z2, z3, z4, by rw [← eb]; exact k⟩
section
variable {P : Program} {w : World} {K : PySem.W.Frag} {mg : Str → Option Value} {base : Heap} {A : Ad}
theorem sc_bad : FnScope ["_law_call", "_law_told", "e"] ["_law_call"] (defScope s_bad) := ⟨rfl, rfl, rfl, by decide +kernel, rfl, by decide +kernel, by decide +kernel⟩
theorem bad_gives {X : Cx} {cdv : Value} {q : Str} (T : Txt X.K X.mg A) : GivesS X ["_law_call", "_law_told", "e"] "_law_bad" (defScope s_bad) A.a_bad cdv (defBody s_bad) "_law_call" q (TBad A.c_BadOver) := by
  intro f c' s H Q tl act hc h
  refine ⟨_, (pss_cons (ps_set (i := 1) sc_bad.nd rfl (Or.inl rfl) pe_bl)
    (pss_cons (ps_try_as (i := 2) (c := .ref A.c_BadOver) (tb := fun W D σ H => σ[0]? = some (some (.ref f)) ∧ H c' = some (CodeO c' q) ∧ tl (WE W σ) H (fun _ H' => D.nx σ H')) rfl rfl sc_bad.nd rfl rfl ⟨rfl, by decide, .inl T.E_BadOver.g⟩ takes_none5
        (fun W pn xe tk _ => pss_one (ps_expr (act W pn xe _ _ tk)))
        (fun a oe cls d pn hz hf => pss_one (ps_set (i := 1) sc_bad.nd rfl (Or.inl rfl) (pe_callB (call_isZ hz hf) (by rfl) T.z_isinstance (by decide +kernel) (pa_cons (pv 2) (pa_cons (pe_glob (v := .ref _) rfl T.gj rfl) pa_nil))))))
    (pss_one (ps_ret (pv 1))))), ?_⟩
  refine ⟨rfl, hc, h _ _ (fun H' q => ?_) (fun v H' q => ?_)⟩
  · exact ⟨true, exm_Ec T.E_BadOver, fun _ a na => ⟨_, rfl, A.c_BadOver, .ref A.cj, .ref A.cj, true, rfl, rfl, T.E_BadOver.R, .inl rfl, .own _, kit_Ec T.E_BadOver T.cj T.tj, _, rfl, q⟩, fun z => nomatch z⟩
  · exact ⟨_, rfl, q⟩
theorem tl_pair : (A.p_pair, qL "_law_pair") ∈ TL A := by unfold TL; simp
theorem tl_whole : (A.p_whole, qL "_law_whole") ∈ TL A := by unfold TL; simp
theorem tl_law : (A.p_law, qL "law") ∈ TL A := by unfold TL; simp
theorem tlu_pair (T : Txt K mg A) : ∀ p ∈ TL A, p.1 = A.p_pair → p.2 = qL "_law_pair" := by
  intro p hp
  unfold TL at hp
  simp only [List.mem_cons, List.not_mem_nil, or_false] at hp
  rcases hp with rfl | rfl | rfl
  · exact fun _ => rfl
  · exact fun z => (T.p1 z.symm).elim
  · exact fun z => (T.p2 z.symm).elim
theorem tlu_whole (T : Txt K mg A) : ∀ p ∈ TL A, p.1 = A.p_whole → p.2 = qL "_law_whole" := by
  intro p hp
  unfold TL at hp
  simp only [List.mem_cons, List.not_mem_nil, or_false] at hp
  rcases hp with rfl | rfl | rfl
  · exact fun z => (T.p1 z).elim
  · exact fun _ => rfl
  · exact fun z => (T.p3 z.symm).elim
theorem tlu_law (T : Txt K mg A) : ∀ p ∈ TL A, p.1 = A.p_law → p.2 = qL "law" := by
  intro p hp
  unfold TL at hp
  simp only [List.mem_cons, List.not_mem_nil, or_false] at hp
  rcases hp with rfl | rfl | rfl
  · exact fun z => (T.p2 z).elim
  · exact fun z => (T.p3 z).elim
  · exact fun _ => rfl
theorem sc_pair : FnScope ["_law_one", "_law_other", "_law_a", "_law_b", "_law_c", "_law_d", "_law_less", "_law_refused"] ["_law_one", "_law_other", "_law_a", "_law_b", "_law_c", "_law_d"] (defScope s_pair) := ⟨rfl, rfl, rfl, by decide +kernel, rfl, by decide +kernel, by decide +kernel⟩
theorem lk_less (p q : Int) : [(("number" : Str), V.int p), ("over", .int q)].lookup ("is_less" : Str) = none := by kernel_rfl
theorem lk_div (p q : Int) : [(("number" : Str), V.int p), ("over", .int q)].lookup ("divided" : Str) = none := by kernel_rfl
theorem sz0 : Sz 0 := (show Bz 0 0 by unfold Bz; decide).sz
theorem sz1 : Sz 1 := (show Bz 1 1 by unfold Bz; decide).sz
theorem low_bz1 {k : Nat} {n d : Int} (x : Bz k n) : Bz k (low n d).1 := x.le (low_le1 n d)
theorem low_bz2 {k : Nat} {n d : Int} (x : Bz k d) : Bz k (low n d).2 := x.le (low_le2 n d)
def spPair (A : Ad) : Sp := fun vs H Q _ => ∃ (x y : Addr) (a b c d : Int), vs = [.ref x, .ref y, .int a, .int b, .int c, .int d] ∧ RatAt H A.c_Ratio x (low a b).1 (low a b).2 ∧ RatAt H A.c_Ratio y (low c d).1 (low c d).2 ∧ b ≠ 0 ∧ d ≠ 0 ∧
  Bz 140 a ∧ Bz 140 b ∧ Bz 140 c ∧ Bz 140 d ∧ Tabs (TL A) H ∧ ∀ G, ExtN H G → Tabs (TL A) G → Q (.bl true) G
theorem ok_pair (T : Txt K mg A) (TB : TabB base mg A.k_pair A.p_pair) : FnOk P w K mg base CX0 9 A.a_pair A.d_pair ["_law_one", "_law_other", "_law_a", "_law_b", "_law_c", "_law_d"] (spPair A) := by
  have G_BadOver := ok_BadOver (P := P) (w := w) (base := base) T
  have G_init := ok_rinit (P := P) (w := w) (base := base) T
  have G_is := (ok_is (P := P) (w := w) (base := base) T).imp (isT A.c_Ratio)
  have G___add__ := ok_Ratio__add__ T G_init
  have G___sub__ := ok_Ratio__sub__ T G_init
  have G___mul__ := ok_Ratio__mul__ T G_init
  have G___neg__ := ok_Ratio__neg__ T G_init
  have G___abs__ := ok_Ratio__abs__ T G_init
  have G___eq__ := (ok_Ratio__eq__ (P := P) (w := w) (base := base) T).imp (eqT A.c_Ratio)
  have G_is_less := (ok_Ratiois_less T G_init).imp (lessT A.c_Ratio)
  have G_divided := ok_Ratiodivided T G_BadOver
  have Ro := T.Ro
  refine T.F_pair.ok sc_pair (fun vs H Q E h => ?_) (fun Ar outer s H vs Q E hr h => ?_)
  · obtain ⟨x, y, a, b, c, d, rfl, _⟩ := h; rfl
  · obtain ⟨x, y, a, b, c, d, rfl, hx, hy, b0, d0, za, zb, zc, zd, tb, kq⟩ := h
    refine ⟨_, (pss_cons (ps_if (PW.pt (pw_or (pt_not (pt_val (pe_call G_is (hr.mono (by decide)) (by rfl) T.g_is T.F_is.kp T.b_is .nil pass0 (pa_cons (pv 0) (pa_cons (pv 2) (pa_cons (pv 3) pa_nil)))))) (pw_or1 (pt_not (pt_val (pe_call G_is (hr.mono (by decide)) (by rfl) T.g_is T.F_is.kp T.b_is .nil pass0 (pa_cons (pe_op (op_addI T.o_add (show FnR _ _ _ _ _ _ 6 _ (nilS (spBin A.c_Ratio fun p q r s => (p * s + r * q, q * s))) from G___add__.raw T.b_Ratio__add__ .nil) (hr.mono (by decide)) passX) (pv 0) (pv 1)) (pa_cons (pe_op op_add (pe_op op_mulW (pv 2) (pv 5)) (pe_op op_mulW (pv 4) (pv 3))) (pa_cons (pe_op op_mulW (pv 3) (pv 5)) pa_nil))))))))) (pss_one (ps_ret pe_bl))
        pss_nil)
      (pss_cons (ps_if (PW.pt (pw_or (pt_not (pt_val (pe_call G_is (hr.mono (by decide)) (by rfl) T.g_is T.F_is.kp T.b_is .nil pass0 (pa_cons (pe_op (op_subI T.o_sub (show FnR _ _ _ _ _ _ 6 _ (nilS (spBin A.c_Ratio fun p q r s => (p * s - r * q, q * s))) from G___sub__.raw T.b_Ratio__sub__ .nil) (hr.mono (by decide)) passX) (pv 0) (pv 1)) (pa_cons (pe_op op_sub (pe_op op_mulW (pv 2) (pv 5)) (pe_op op_mulW (pv 4) (pv 3))) (pa_cons (pe_op op_mulW (pv 3) (pv 5)) pa_nil)))))) (pw_or1 (pt_not (pt_val (pe_call G_is (hr.mono (by decide)) (by rfl) T.g_is T.F_is.kp T.b_is .nil pass0 (pa_cons (pe_op (op_mulI T.o_mul (show FnR _ _ _ _ _ _ 6 _ (nilS (spBin A.c_Ratio fun p q r s => (p * r, q * s))) from G___mul__.raw T.b_Ratio__mul__ .nil) (hr.mono (by decide)) passX) (pv 0) (pv 1)) (pa_cons (pe_op op_mulW (pv 2) (pv 4)) (pa_cons (pe_op op_mulW (pv 3) (pv 5)) pa_nil))))))))) (pss_one (ps_ret pe_bl))
        pss_nil)
      (pss_cons (ps_if (PW.pt (pw_or (pt_not (pt_val (pe_call G_is (hr.mono (by decide)) (by rfl) T.g_is T.F_is.kp T.b_is .nil pass0 (pa_cons (pe_un (un_negI T.o_neg T.n_neg (show FnR _ _ _ _ _ _ 5 _ (nilS (spUn A.c_Ratio fun p => -p)) from G___neg__.raw T.b_Ratio__neg__ .nil) (hr.mono (by decide)) passX) (pv 0)) (pa_cons (pe_un un_neg (pv 2)) (pa_cons (pv 3) pa_nil)))))) (pw_or (pt_not (pt_val (pe_call G_is (hr.mono (by decide)) (by rfl) T.g_is T.F_is.kp T.b_is .nil pass0 (pa_cons (pe_callB (call_absI T.o_abs T.n_abs (show FnR _ _ _ _ _ _ 5 _ (nilS (spUn A.c_Ratio fun p => if p < 0 then -p else p)) from G___abs__.raw T.b_Ratio__abs__ .nil) (hr.mono (by decide)) passX) (by rfl) T.z_abs (by decide +kernel) (pa_cons (pv 0) pa_nil)) (pa_cons (pe_callB call_abs (by rfl) T.z_abs (by decide +kernel) (pa_cons (pv 2) pa_nil)) (pa_cons (pe_callB call_abs (by rfl) T.z_abs (by decide +kernel) (pa_cons (pv 3) pa_nil)) pa_nil)))))) (pw_or1 (pt_cmpR op_ne (pe_cmpR (op_eqI T.o_eq T.n_eq (show FnR _ _ _ _ _ _ 1 _ (nilS (spEqT A.c_Ratio)) from G___eq__.raw T.b_Ratio__eq__ .nil) (hr.mono (by decide)) pass0) (pv 0) (pv 1) (nomark _)) (pe_cmpR op_eq (pe_op op_mulW (pv 2) (pv 5)) (pe_op op_mulW (pv 4) (pv 3)) (nomark _)) (nomark _)))))) (pss_one (ps_ret pe_bl))
        pss_nil)
      (pss_cons (ps_set (i := 6) sc_pair.nd rfl (Or.inl rfl) (pe_cmpR op_lt (pe_op op_mulW (pe_op op_mulW (pe_op op_mulW (pv 2) (pv 3)) (pv 5)) (pv 5)) (pe_op op_mulW (pe_op op_mulW (pe_op op_mulW (pv 4) (pv 5)) (pv 3)) (pv 3)) (nomark _)))
      (pss_cons (ps_if (PW.pt (pw_or (PW.pt (pw_and (pt_cmpR op_notBl (pe_meth (pv 0) T.Ro.cl T.M_is_less G_is_less (hr.mono (by decide)) T.b_Ratiois_less .nil passX (pa_cons (pv 1) pa_nil)) pe_bl (nomark _)) (pw_and1 (pt_val (pv 6))))) (pw_or1 (PW.pt (pw_and (pt_cmpR op_notBl (pe_meth (pv 0) T.Ro.cl T.M_is_less G_is_less (hr.mono (by decide)) T.b_Ratiois_less .nil passX (pa_cons (pv 1) pa_nil)) pe_bl (nomark _)) (pw_and1 (pt_not (pt_val (pv 6))))))))) (pss_one (ps_ret pe_bl))
        pss_nil)
      (pss_cons (ps_if (pt_cmpR op_eq (pv 4) pe_int (nomark _)) (pss_cons (ps_set (i := 7) sc_pair.nd rfl (Or.inl rfl) (pe_lamcallS (k := 6) (T := TL A) (Ng := ["_law_call", "_law_told", "e"]) (TT := TBad A.c_BadOver) T.F_bad (by rfl) T.g_bad T.b_bad sc_bad rfl (Or.inl rfl) (fun cdv => bad_gives T) TB rfl tl_pair (tlu_pair T) (hr.mono (by decide)) (lamS_by (show lamSB (defScope s_pair) _ = true by decide +kernel)) rfl (fun _ _ _ _ _ => rfl) (fun Ar2 ou2 s2 H2 E2 f2 c2 hr2 => (pe_meth (pv 0) T.Ro.cl T.M_divided G_divided (hr2.mono (by decide)) T.b_Ratiodivided .nil (passes_call (takes_of rfl rfl rfl rfl) (fun _ _ _ _ h => h)) (pa_cons (pv 1) pa_nil)))))
       (pss_one (ps_ret (pe_and (pv 7) (pe_one (pe_lamcallS (k := 6) (T := TL A) (Ng := ["_law_call", "_law_told", "e"]) (TT := TBad A.c_BadOver) T.F_bad (by rfl) T.g_bad T.b_bad sc_bad rfl (Or.inl rfl) (fun cdv => bad_gives T) TB rfl tl_pair (tlu_pair T) (hr.mono (by decide)) (lamS_by (show lamSB (defScope s_pair) _ = true by decide +kernel)) rfl (fun _ _ _ _ _ => rfl) (fun Ar2 ou2 s2 H2 E2 f2 c2 hr2 => (pe_meth (pv 0) T.Ro.cl T.M_divided G_divided (hr2.mono (by decide)) T.b_Ratiodivided .nil (passes_call (takes_of rfl rfl rfl rfl) (fun _ _ _ _ h => h)) (pa_cons pe_int pa_nil)))))))))
        pss_nil)
      (pss_one (ps_ret (pe_call G_is (hr.mono (by decide)) (by rfl) T.g_is T.F_is.kp T.b_is .nil pass0 (pa_cons (pe_meth (pv 0) T.Ro.cl T.M_divided G_divided (hr.mono (by decide)) T.b_Ratiodivided .nil passX (pa_cons (pv 1) pa_nil)) (pa_cons (pe_op op_mulW (pv 2) (pv 5)) (pa_cons (pe_op op_mulW (pv 3) (pv 4)) pa_nil)))))))))))), ?_⟩
    have lx := low_lo (n := a) b0
    have ly := low_lo (n := c) d0
    have xe : ((low a b).1, (low a b).2) = low a b := rfl
    have ye : ((low c d).1, (low c d).2) = low c d := rfl
    have zp : Bz 140 (low a b).1 := low_bz1 za
    have zq : Bz 140 (low a b).2 := low_bz2 zb
    have zr : Bz 140 (low c d).1 := low_bz1 zc
    have zs : Bz 140 (low c d).2 := low_bz2 zd
    generalize hp : (low a b).1 = p at *
    generalize hq : (low a b).2 = q at *
    generalize hr' : (low c d).1 = r at *
    generalize hs : (low c d).2 = u at *
    have q0 := lx.ne
    have u0 := ly.ne
    have ad := za.mul zd
    have cb := zc.mul zb
    have bd := zb.mul zd
    refine ⟨_, rfl, _, rfl, _, rfl, _, _, _, _, _, rfl, hx, b0, zb.big, xe, fun G1 s1 => ⟨true, rfl, iteF ?_⟩⟩
    refine ⟨_, rfl, _, rfl, _, _, _, rfl, (hx.same s1).choose_spec, .inl ⟨_, _, _, rfl, (hy.same s1).choose_spec⟩, _, _, p, q, r, u, rfl, hx.same s1, .inl ⟨_, rfl, hy.same s1⟩, zp.sz, zq.sz, zr.sz, zs.sz, q0, u0, fun z1 G2 s2 h1 => ?_⟩
    refine ⟨_, rfl, _, rfl, _, _, rfl, rfl, za.sz.mul zd.sz, _, rfl, _, rfl, _, _, rfl, rfl, zc.sz.mul zb.sz, _, _, rfl, rfl, _, rfl, _, rfl, _, _, rfl, rfl, zb.sz.mul zd.sz, _, _, _, _, _, rfl, h1, Int.mul_ne_zero b0 d0, bd.big, low_add b0 d0 lx ly, fun G3 s3 => ⟨true, rfl, iteF ?_⟩⟩
    have S3 := (s1.trans s2).trans s3
    refine ⟨_, rfl, _, rfl, _, _, _, rfl, (hx.same S3).choose_spec, .inl ⟨_, _, _, rfl, (hy.same S3).choose_spec⟩, _, _, p, q, r, u, rfl, hx.same S3, .inl ⟨_, rfl, hy.same S3⟩, zp.sz, zq.sz, zr.sz, zs.sz, q0, u0, fun z2 G4 s4 h2 => ?_⟩
    refine ⟨_, rfl, _, rfl, _, _, rfl, rfl, za.sz.mul zd.sz, _, rfl, _, rfl, _, _, rfl, rfl, zc.sz.mul zb.sz, _, _, rfl, rfl, _, rfl, _, rfl, _, _, rfl, rfl, zb.sz.mul zd.sz, _, _, _, _, _, rfl, h2, Int.mul_ne_zero b0 d0, bd.big, low_sub b0 d0 lx ly, fun G5 s5 => ⟨true, rfl, iteF ?_⟩⟩
    have S5 := (S3.trans s4).trans s5
    refine ⟨_, rfl, _, rfl, _, _, _, rfl, (hx.same S5).choose_spec, .inl ⟨_, _, _, rfl, (hy.same S5).choose_spec⟩, _, _, p, q, r, u, rfl, hx.same S5, .inl ⟨_, rfl, hy.same S5⟩, zp.sz, zq.sz, zr.sz, zs.sz, q0, u0, fun z3 G6 s6 h3 => ?_⟩
    refine ⟨_, rfl, _, rfl, _, _, rfl, rfl, za.sz.mul zc.sz, _, rfl, _, rfl, _, _, rfl, rfl, zb.sz.mul zd.sz, _, _, _, _, _, rfl, h3, Int.mul_ne_zero b0 d0, bd.big, low_mul b0 d0 lx ly, fun G7 s7 => ⟨true, rfl, iteF ?_⟩⟩
    have S7 := (S5.trans s6).trans s7
    refine ⟨_, rfl, _, _, _, rfl, (hx.same S7).choose_spec, _, p, q, rfl, hx.same S7, zp.sz, zq.sz, q0, fun z4 G8 s8 h4 => ?_⟩
    refine ⟨_, rfl, _, rfl, _, rfl, _, _, _, _, _, rfl, h4, b0, zb.big, low_neg b0 lx, fun G9 s9 => ⟨true, rfl, iteF ?_⟩⟩
    have S9 := (S7.trans s8).trans s9
    refine ⟨_, rfl, _, _, _, rfl, (hx.same S9).choose_spec, _, p, q, rfl, hx.same S9, zp.sz, zq.sz, q0, fun z5 G10 s10 h5 => ?_⟩
    refine ⟨_, rfl, _, rfl, _, rfl, _, rfl, _, _, _, _, _, rfl, h5, by split <;> omega, zb.abs.big, low_abs b0 lx, fun G11 s11 => ⟨true, rfl, iteF ?_⟩⟩
    have S11 := (S9.trans s10).trans s11
    have eb : decide (V.int (a * d) = V.int (c * b)) = (decide (p = r) && decide (q = u)) := by
      rw [Bool.eq_iff_iff]
      simp only [decide_eq_true_eq, Bool.and_eq_true, V.int.injEq]
      exact (low_iff b0 d0 xe ye).symm
    refine ⟨_, rfl, _, rfl, _, _, _, .ref A.c_Ratio, rfl, (hx.same S11).choose_spec, .inl ⟨_, _, _, _, rfl, (hy.same S11).choose_spec, rfl⟩, T.nfc, _, _, p, q, _, rfl, hx.same S11, .inl ⟨_, r, u, rfl, hy.same S11, eb⟩, ?_⟩
    refine ⟨_, rfl, _, rfl, _, _, rfl, rfl, za.sz.mul zd.sz, _, rfl, _, rfl, _, _, rfl, rfl, zc.sz.mul zb.sz, rfl, rfl, _, rfl, ?_⟩
    rw [show (!decide (V.bl (decide (V.int (a * d) = V.int (c * b))) = V.bl (decide ((fun i j => V.int (i * j)) a d = (fun i j => V.int (i * j)) c b)))) = false from by simp]
    refine iteF ?_
    refine ⟨_, rfl, _, rfl, _, _, rfl, rfl, za.sz.mul zb.sz, _, rfl, _, _, rfl, rfl, (za.mul zb).sz.mul zd.sz, _, rfl, _, _, rfl, rfl, ((za.mul zb).mul zd).sz.mul zd.sz, _, rfl, _, rfl, _, _, rfl, rfl, zc.sz.mul zd.sz, _, rfl, _, _, rfl, rfl, (zc.mul zd).sz.mul zb.sz, _, rfl, _, _, rfl, rfl, ((zc.mul zd).mul zb).sz.mul zb.sz, _, _, rfl, rfl, ?_⟩
    by_cases hl : a * b * d * d < c * d * b * b
    · have el : true = decide (p * u < r * q) := (decide_eq_true ((low_lt b0 d0 lx ly).mpr hl)).symm
      refine ⟨_, rfl, _, _, _, rfl, (hx.same S11).choose_spec, lk_less _ _, _, rfl, _, _, p, q, r, u, true, rfl, hx.same S11, .inl ⟨_, rfl, hy.same S11⟩, zp.sz, zq.sz, zr.sz, zs.sz, el, fun G12 s12 => ?_⟩
      refine ⟨_, _, rfl, rfl, _, rfl, iteF ?_⟩
      have S12 := S11.trans s12
      refine ⟨_, rfl, _, _, _, rfl, (hx.same S12).choose_spec, lk_less _ _, _, rfl, _, _, p, q, r, u, true, rfl, hx.same S12, .inl ⟨_, rfl, hy.same S12⟩, zp.sz, zq.sz, zr.sz, zs.sz, el, fun G13 s13 => ?_⟩
      refine ⟨_, _, rfl, rfl, _, rfl, iteT ⟨_, rfl, _, rfl, ?_⟩⟩
      have S13 := S12.trans s13
      rw [decide_eq_true hl]
      refine iteF ?_
      refine ⟨_, rfl, rfl, _, rfl, ?_⟩
      by_cases hc : c = 0
      · rw [show decide (V.int c = V.int 0) = true from decide_eq_true (by rw [hc])]
        have r0 := (low_zero d0 ly).mpr hc
        refine iteT ⟨tb.ext S13, fun H1 e1 T1 E1 Qn hE hQ => ?_⟩
        have X1 := (ExtN.of S13).trans e1
        refine ⟨_, rfl, _, _, _, rfl, (hx.ext X1).choose_spec, lk_div _ _, _, rfl, _, _, p, q, r, u, rfl, hx.ext X1, .inl ⟨_, rfl, hy.ext X1⟩, zp.sz, zq.sz, zr.sz, zs.sz, q0, u0, fun z => absurd r0 z, fun _ G20 s20 => hE G20 ?_⟩
        have X2 := X1.trans (ExtN.of s20)
        refine ⟨_, rfl, true, rfl, iteT ⟨T1.ext s20, fun H2 e2 T2 E2 Qn2 hE2 hQ2 => ?_⟩⟩
        have X3 := X2.trans e2
        exact ⟨_, rfl, _, _, _, rfl, (hx.ext X3).choose_spec, lk_div _ _, _, _, p, q, 0, 1, rfl, hx.ext X3, .inr ⟨rfl, rfl⟩, zp.sz, zq.sz, sz0, sz1, q0, by decide, fun z => absurd rfl z, fun _ G21 s21 => hE2 G21 (kq G21 (X3.trans (ExtN.of s21)) (T2.ext s21))⟩
      · rw [show decide (V.int c = V.int 0) = false from decide_eq_false fun z => hc (by injection z)]
        have r0 : r ≠ 0 := fun z => hc ((low_zero d0 ly).mp z)
        refine iteF ⟨_, rfl, _, _, _, rfl, (hx.same S13).choose_spec, lk_div _ _, _, rfl, _, _, p, q, r, u, rfl, hx.same S13, .inl ⟨_, rfl, hy.same S13⟩, zp.sz, zq.sz, zr.sz, zs.sz, q0, u0, fun _ z6 G14 s14 h6 => ?_, fun z => absurd z r0⟩
        exact ⟨_, rfl, _, rfl, _, _, rfl, rfl, za.sz.mul zd.sz, _, rfl, _, rfl, _, _, rfl, rfl, zb.sz.mul zc.sz, _, _, _, _, _, rfl, h6, Int.mul_ne_zero b0 hc, (zb.mul zc).big, low_div b0 hc r0 lx ly, fun G15 s15 => kq G15 (ExtN.of ((S13.trans s14).trans s15)) (tb.ext ((S13.trans s14).trans s15))⟩
    · have el : false = decide (p * u < r * q) := (decide_eq_false fun z => hl ((low_lt b0 d0 lx ly).mp z)).symm
      refine ⟨_, rfl, _, _, _, rfl, (hx.same S11).choose_spec, lk_less _ _, _, rfl, _, _, p, q, r, u, false, rfl, hx.same S11, .inl ⟨_, rfl, hy.same S11⟩, zp.sz, zq.sz, zr.sz, zs.sz, el, fun G12 s12 => ?_⟩
      refine ⟨_, _, rfl, rfl, _, rfl, iteT ⟨_, rfl, _, rfl, ?_⟩⟩
      have S12 := S11.trans s12
      rw [decide_eq_false hl]
      refine iteF ?_
      refine ⟨_, rfl, _, _, _, rfl, (hx.same S12).choose_spec, lk_less _ _, _, rfl, _, _, p, q, r, u, false, rfl, hx.same S12, .inl ⟨_, rfl, hy.same S12⟩, zp.sz, zq.sz, zr.sz, zs.sz, el, fun G13 s13 => ?_⟩
      refine ⟨_, _, rfl, rfl, _, rfl, iteF ?_⟩
      have S13 := S12.trans s13
      refine iteF ?_
      refine ⟨_, rfl, rfl, _, rfl, ?_⟩
      by_cases hc : c = 0
      · rw [show decide (V.int c = V.int 0) = true from decide_eq_true (by rw [hc])]
        have r0 := (low_zero d0 ly).mpr hc
        refine iteT ⟨tb.ext S13, fun H1 e1 T1 E1 Qn hE hQ => ?_⟩
        have X1 := (ExtN.of S13).trans e1
        refine ⟨_, rfl, _, _, _, rfl, (hx.ext X1).choose_spec, lk_div _ _, _, rfl, _, _, p, q, r, u, rfl, hx.ext X1, .inl ⟨_, rfl, hy.ext X1⟩, zp.sz, zq.sz, zr.sz, zs.sz, q0, u0, fun z => absurd r0 z, fun _ G20 s20 => hE G20 ?_⟩
        have X2 := X1.trans (ExtN.of s20)
        refine ⟨_, rfl, true, rfl, iteT ⟨T1.ext s20, fun H2 e2 T2 E2 Qn2 hE2 hQ2 => ?_⟩⟩
        have X3 := X2.trans e2
        exact ⟨_, rfl, _, _, _, rfl, (hx.ext X3).choose_spec, lk_div _ _, _, _, p, q, 0, 1, rfl, hx.ext X3, .inr ⟨rfl, rfl⟩, zp.sz, zq.sz, sz0, sz1, q0, by decide, fun z => absurd rfl z, fun _ G21 s21 => hE2 G21 (kq G21 (X3.trans (ExtN.of s21)) (T2.ext s21))⟩
      · rw [show decide (V.int c = V.int 0) = false from decide_eq_false fun z => hc (by injection z)]
        have r0 : r ≠ 0 := fun z => hc ((low_zero d0 ly).mp z)
        refine iteF ⟨_, rfl, _, _, _, rfl, (hx.same S13).choose_spec, lk_div _ _, _, rfl, _, _, p, q, r, u, rfl, hx.same S13, .inl ⟨_, rfl, hy.same S13⟩, zp.sz, zq.sz, zr.sz, zs.sz, q0, u0, fun _ z6 G14 s14 h6 => ?_, fun z => absurd z r0⟩
        exact ⟨_, rfl, _, rfl, _, _, rfl, rfl, za.sz.mul zd.sz, _, rfl, _, rfl, _, _, rfl, rfl, zb.sz.mul zc.sz, _, _, _, _, _, rfl, h6, Int.mul_ne_zero b0 hc, (zb.mul zc).big, low_div b0 hc r0 lx ly, fun G15 s15 => kq G15 (ExtN.of ((S13.trans s14).trans s15)) (tb.ext ((S13.trans s14).trans s15))⟩
end
end Z

set_option Elab.async false
set_option linter.all false
set_option maxRecDepth 100000
set_option maxHeartbeats 8000000
/-! the law's own defs: _law_whole -/
namespace Z
open PySem L2 XV RT LamX
section
variable {P : Program} {w : World} {K : PySem.W.Frag} {mg : Str → Option Value} {base : Heap} {A : Ad}
theorem sc_whole : FnScope ["_law_one", "_law_a", "_law_b", "_law_n", "_law_told", "_law_due", "_law_less", "_law_at"] ["_law_one", "_law_a", "_law_b", "_law_n"] (defScope s_whole) := ⟨rfl, rfl, rfl, by decide +kernel, rfl, by decide +kernel, by decide +kernel⟩
def spWhole (A : Ad) : Sp := fun vs H Q _ => ∃ (x : Addr) (a b n : Int), vs = [.ref x, .int a, .int b, .int n] ∧ RatAt H A.c_Ratio x (low a b).1 (low a b).2 ∧ b ≠ 0 ∧
  Bz 140 a ∧ Bz 140 b ∧ Bz 140 n ∧ Tabs (TL A) H ∧ ∀ G, ExtN H G → Tabs (TL A) G → Q (.bl true) G
theorem ok_whole (T : Txt K mg A) (TB : TabB base mg A.k_whole A.p_whole) : FnOk P w K mg base CX0 9 A.a_whole A.d_whole ["_law_one", "_law_a", "_law_b", "_law_n"] (spWhole A) := by
  have G_BadOver := ok_BadOver (P := P) (w := w) (base := base) T
  have G_init := ok_rinit (P := P) (w := w) (base := base) T
  have G_is := (ok_is (P := P) (w := w) (base := base) T).imp (isT A.c_Ratio)
  have G___add__ := ok_Ratio__add__ T G_init
  have G___sub__ := ok_Ratio__sub__ T G_init
  have G___mul__ := ok_Ratio__mul__ T G_init
  have G___radd__ := ok_Ratio__radd__ T G_init
  have G___rsub__ := ok_Ratio__rsub__ T G_init
  have G___rmul__ := ok_Ratio__rmul__ T G_init
  have G___eq__ := (ok_Ratio__eq__ (P := P) (w := w) (base := base) T).imp (eqT A.c_Ratio)
  have G_is_less := (ok_Ratiois_less T G_init).imp (lessT A.c_Ratio)
  have G_divided := ok_Ratiodivided T G_BadOver
  have Ro := T.Ro
  refine T.F_whole.ok sc_whole (fun vs H Q E h => ?_) (fun Ar outer s H vs Q E hr h => ?_)
  · obtain ⟨x, a, b, n, rfl, _⟩ := h; rfl
  · obtain ⟨x, a, b, n, rfl, hx, b0, za, zb, zn, tb, kq⟩ := h
    refine ⟨_, (pss_cons (ps_set (i := 4) sc_whole.nd rfl (Or.inr rfl) (pe_lst (pa_cons (pe_op (op_addI T.o_add (show FnR _ _ _ _ _ _ 6 _ (nilS (spBin A.c_Ratio fun p q r s => (p * s + r * q, q * s))) from G___add__.raw T.b_Ratio__add__ .nil) (hr.mono (by decide)) passX) (pv 0) (pv 3)) (pa_cons (pe_op (op_addR T.o_add (show FnR _ _ _ _ _ _ 5 _ (nilS (spRef A.c_Ratio fun p q i => i * q + p)) from G___radd__.raw T.b_Ratio__radd__ .nil) (hr.mono (by decide)) passX) (pv 3) (pv 0)) (pa_cons (pe_op (op_subI T.o_sub (show FnR _ _ _ _ _ _ 6 _ (nilS (spBin A.c_Ratio fun p q r s => (p * s - r * q, q * s))) from G___sub__.raw T.b_Ratio__sub__ .nil) (hr.mono (by decide)) passX) (pv 0) (pv 3)) (pa_cons (pe_op (op_subR T.o_sub (show FnR _ _ _ _ _ _ 5 _ (nilS (spRef A.c_Ratio fun p q i => i * q - p)) from G___rsub__.raw T.b_Ratio__rsub__ .nil) (hr.mono (by decide)) passX) (pv 3) (pv 0)) (pa_cons (pe_op (op_mulI T.o_mul (show FnR _ _ _ _ _ _ 6 _ (nilS (spBin A.c_Ratio fun p q r s => (p * r, q * s))) from G___mul__.raw T.b_Ratio__mul__ .nil) (hr.mono (by decide)) passX) (pv 0) (pv 3)) (pa_cons (pe_op (op_mulR T.o_mul (show FnR _ _ _ _ _ _ 5 _ (nilS (spRef A.c_Ratio fun p q i => i * p)) from G___rmul__.raw T.b_Ratio__rmul__ .nil) (hr.mono (by decide)) passX) (pv 3) (pv 0)) pa_nil))))))))
      (pss_cons (ps_set (i := 5) sc_whole.nd rfl (Or.inr rfl) (pe_lst (pa_cons (pe_tup (pa_cons (pe_op op_add (pv 1) (pe_op op_mulW (pv 3) (pv 2))) (pa_cons (pv 2) pa_nil))) (pa_cons (pe_tup (pa_cons (pe_op op_add (pv 1) (pe_op op_mulW (pv 3) (pv 2))) (pa_cons (pv 2) pa_nil))) (pa_cons (pe_tup (pa_cons (pe_op op_sub (pv 1) (pe_op op_mulW (pv 3) (pv 2))) (pa_cons (pv 2) pa_nil))) (pa_cons (pe_tup (pa_cons (pe_op op_sub (pe_op op_mulW (pv 3) (pv 2)) (pv 1)) (pa_cons (pv 2) pa_nil))) (pa_cons (pe_tup (pa_cons (pe_op op_mulW (pv 1) (pv 3)) (pa_cons (pv 2) pa_nil))) (pa_cons (pe_tup (pa_cons (pe_op op_mulW (pv 1) (pv 3)) (pa_cons (pv 2) pa_nil))) pa_nil))))))))
      (pss_cons (ps_if (PW.pt (pw_or (pt_not (pt_val (pe_callB (cr_all rfl) (by rfl) T.z_all (by decide +kernel) (pa_cons (pe_lc (own := [("_law_at", 7)]) (by rfl) sc_whole.nd (pi_range1 (by rfl) T.z_range (pa_cons pe_int pa_nil)) (blkOk_by (own := [("_law_at", 7)]) (N := ["_law_one", "_law_a", "_law_b", "_law_n", "_law_told", "_law_due", "_law_less", "_law_at"]) (sc := defScope s_whole) (by decide +kernel)) (fun _ _ _ _ _ => (pg_name (i := 7) sc_whole.nd rfl (Or.inl rfl))) (fun _ _ _ _ _ => pts_nil) (fun _ _ _ _ _ => (pe_call G_is (hr.mono (by decide)) (by rfl) T.g_is T.F_is.kp T.b_is .nil pass0 (pa_cons (pe_ix (r := rIxL K) ix_list (pv 4) (pv 7) (fun _ _ => rfl)) (pa_cons (pe_ix (r := rIxT K) ix_tup (pe_ix (r := rIxL K) ix_list (pv 5) (pv 7) (fun _ _ => rfl)) pe_int (fun _ _ => rfl)) (pa_cons (pe_ix (r := rIxT K) ix_tup (pe_ix (r := rIxL K) ix_list (pv 5) (pv 7) (fun _ _ => rfl)) pe_int (fun _ _ => rfl)) pa_nil)))))) pa_nil)))) (pw_or1 (pt_cmpR (op_eqI T.o_eq T.n_eq (show FnR _ _ _ _ _ _ 1 _ (nilS (spEqT A.c_Ratio)) from G___eq__.raw T.b_Ratio__eq__ .nil) (hr.mono (by decide)) pass0) (pv 0) (pv 3) (nomark _))))) (pss_one (ps_ret pe_bl))
        pss_nil)
      (pss_cons (ps_set (i := 6) sc_whole.nd rfl (Or.inl rfl) (pe_cmpR op_lt (pe_op op_mulW (pv 1) (pv 2)) (pe_op op_mulW (pe_op op_mulW (pv 3) (pv 2)) (pv 2)) (nomark _)))
      (pss_cons (ps_if (PW.pt (pw_or (PW.pt (pw_and (pt_cmpR op_notBl (pe_meth (pv 0) T.Ro.cl T.M_is_less G_is_less (hr.mono (by decide)) T.b_Ratiois_less .nil passX (pa_cons (pv 3) pa_nil)) pe_bl (nomark _)) (pw_and1 (pt_val (pv 6))))) (pw_or1 (PW.pt (pw_and (pt_cmpR op_notBl (pe_meth (pv 0) T.Ro.cl T.M_is_less G_is_less (hr.mono (by decide)) T.b_Ratiois_less .nil passX (pa_cons (pv 3) pa_nil)) pe_bl (nomark _)) (pw_and1 (pt_not (pt_val (pv 6))))))))) (pss_one (ps_ret pe_bl))
        pss_nil)
      (pss_one (ps_ret (pe_ifExp (pt_cmpR op_eq (pv 3) pe_int (nomark _)) (pe_lamcallS (k := 6) (T := TL A) (Ng := ["_law_call", "_law_told", "e"]) (TT := TBad A.c_BadOver) T.F_bad (by rfl) T.g_bad T.b_bad sc_bad rfl (Or.inl rfl) (fun cdv => bad_gives T) TB rfl tl_whole (tlu_whole T) (hr.mono (by decide)) (lamS_by (show lamSB (defScope s_whole) _ = true by decide +kernel)) rfl (fun _ _ _ _ _ => rfl) (fun Ar2 ou2 s2 H2 E2 f2 c2 hr2 => (pe_meth (pv 0) T.Ro.cl T.M_divided G_divided (hr2.mono (by decide)) T.b_Ratiodivided .nil (passes_call (takes_of rfl rfl rfl rfl) (fun _ _ _ _ h => h)) (pa_cons (pv 3) pa_nil)))) (pe_call G_is (hr.mono (by decide)) (by rfl) T.g_is T.F_is.kp T.b_is .nil pass0 (pa_cons (pe_meth (pv 0) T.Ro.cl T.M_divided G_divided (hr.mono (by decide)) T.b_Ratiodivided .nil passX (pa_cons (pv 3) pa_nil)) (pa_cons (pv 1) (pa_cons (pe_op op_mulW (pv 2) (pv 3)) pa_nil)))))))))))), ?_⟩
    have lx := low_lo (n := a) b0
    have zp : Bz 140 (low a b).1 := low_bz1 za
    have zq : Bz 140 (low a b).2 := low_bz2 zb
    generalize hp : (low a b).1 = p at *
    generalize hq : (low a b).2 = q at *
    have q0 := lx.ne
    refine ⟨_, rfl, _, rfl, _, _, _, rfl, (hx.same (Same.refl H)).choose_spec, .inr ⟨_, rfl⟩, _, _, p, q, n, 1, rfl, (hx.same (Same.refl H)), .inr ⟨rfl, rfl⟩, zp.sz, zq.sz, zn.sz, sz1, q0, by decide, fun z1 G1 s1 h1 => ?_⟩
    have S1 := (Same.refl H).trans s1
    refine ⟨_, rfl, _, rfl, _, _, _, _, rfl, rfl, (hx.same S1).choose_spec, _, p, q, n, rfl, (hx.same S1), zp.sz, zq.sz, zn.sz, q0, fun z2 G2 s2 h2 => ?_⟩
    have S2 := S1.trans s2
    refine ⟨_, rfl, _, rfl, _, _, _, rfl, (hx.same S2).choose_spec, .inr ⟨_, rfl⟩, _, _, p, q, n, 1, rfl, (hx.same S2), .inr ⟨rfl, rfl⟩, zp.sz, zq.sz, zn.sz, sz1, q0, by decide, fun z3 G3 s3 h3 => ?_⟩
    have S3 := S2.trans s3
    refine ⟨_, rfl, _, rfl, _, _, _, _, rfl, rfl, (hx.same S3).choose_spec, _, p, q, n, rfl, (hx.same S3), zp.sz, zq.sz, zn.sz, q0, fun z4 G4 s4 h4 => ?_⟩
    have S4 := S3.trans s4
    refine ⟨_, rfl, _, rfl, _, _, _, rfl, (hx.same S4).choose_spec, .inr ⟨_, rfl⟩, _, _, p, q, n, 1, rfl, (hx.same S4), .inr ⟨rfl, rfl⟩, zp.sz, zq.sz, zn.sz, sz1, q0, by decide, fun z5 G5 s5 h5 => ?_⟩
    have S5 := S4.trans s5
    refine ⟨_, rfl, _, rfl, _, _, _, _, rfl, rfl, (hx.same S5).choose_spec, _, p, q, n, rfl, (hx.same S5), zp.sz, zq.sz, zn.sz, q0, fun z6 G6 s6 h6 => ?_⟩
    have S6 := S5.trans s6
    refine ⟨(by show 6 ≤ sizeLine; decide), fun l nl => ?_⟩
    have sl : Same G6 (upd G6 l (.lst [.ref z1, .ref z2, .ref z3, .ref z4, .ref z5, .ref z6])) := same_new' nl
    have hl : upd G6 l (.lst [.ref z1, .ref z2, .ref z3, .ref z4, .ref z5, .ref z6]) l = some (.lst [.ref z1, .ref z2, .ref z3, .ref z4, .ref z5, .ref z6]) := upd_same
    generalize upd G6 l (.lst [.ref z1, .ref z2, .ref z3, .ref z4, .ref z5, .ref z6]) = I0 at *
    refine ⟨_, rfl, _, rfl, _, rfl, _, _, rfl, rfl, zn.sz.mul zb.sz, _, _, rfl, rfl, _, rfl, (by show 2 ≤ sizeLine; decide), fun t1 nt1 => ?_⟩
    dsimp only
    have st1 : Same I0 (upd I0 t1 (.tup [.int (a + n * b), .int b])) := same_new' nt1
    have ht1 : upd I0 t1 (.tup [.int (a + n * b), .int b]) t1 = some (.tup [.int (a + n * b), .int b]) := upd_same
    generalize hI1 : upd I0 t1 (.tup [.int (a + n * b), .int b]) = I1 at *
    refine ⟨_, rfl, _, rfl, _, rfl, _, _, rfl, rfl, zn.sz.mul zb.sz, _, _, rfl, rfl, _, rfl, (by show 2 ≤ sizeLine; decide), fun t2 nt2 => ?_⟩
    dsimp only
    have st2 : Same I1 (upd I1 t2 (.tup [.int (a + n * b), .int b])) := same_new' nt2
    have ht2 : upd I1 t2 (.tup [.int (a + n * b), .int b]) t2 = some (.tup [.int (a + n * b), .int b]) := upd_same
    generalize hI2 : upd I1 t2 (.tup [.int (a + n * b), .int b]) = I2 at *
    refine ⟨_, rfl, _, rfl, _, rfl, _, _, rfl, rfl, zn.sz.mul zb.sz, _, _, rfl, rfl, _, rfl, (by show 2 ≤ sizeLine; decide), fun t3 nt3 => ?_⟩
    dsimp only
    have st3 : Same I2 (upd I2 t3 (.tup [.int (a - n * b), .int b])) := same_new' nt3
    have ht3 : upd I2 t3 (.tup [.int (a - n * b), .int b]) t3 = some (.tup [.int (a - n * b), .int b]) := upd_same
    generalize hI3 : upd I2 t3 (.tup [.int (a - n * b), .int b]) = I3 at *
    refine ⟨_, rfl, _, rfl, _, _, rfl, rfl, zn.sz.mul zb.sz, _, rfl, _, _, rfl, rfl, _, rfl, (by show 2 ≤ sizeLine; decide), fun t4 nt4 => ?_⟩
    dsimp only
    have st4 : Same I3 (upd I3 t4 (.tup [.int (n * b - a), .int b])) := same_new' nt4
    have ht4 : upd I3 t4 (.tup [.int (n * b - a), .int b]) t4 = some (.tup [.int (n * b - a), .int b]) := upd_same
    generalize hI4 : upd I3 t4 (.tup [.int (n * b - a), .int b]) = I4 at *
    refine ⟨_, rfl, _, rfl, _, _, rfl, rfl, za.sz.mul zn.sz, _, rfl, (by show 2 ≤ sizeLine; decide), fun t5 nt5 => ?_⟩
    dsimp only
    have st5 : Same I4 (upd I4 t5 (.tup [.int (a * n), .int b])) := same_new' nt5
    have ht5 : upd I4 t5 (.tup [.int (a * n), .int b]) t5 = some (.tup [.int (a * n), .int b]) := upd_same
    generalize hI5 : upd I4 t5 (.tup [.int (a * n), .int b]) = I5 at *
    refine ⟨_, rfl, _, rfl, _, _, rfl, rfl, za.sz.mul zn.sz, _, rfl, (by show 2 ≤ sizeLine; decide), fun t6 nt6 => ?_⟩
    dsimp only
    have st6 : Same I5 (upd I5 t6 (.tup [.int (a * n), .int b])) := same_new' nt6
    have ht6 : upd I5 t6 (.tup [.int (a * n), .int b]) t6 = some (.tup [.int (a * n), .int b]) := upd_same
    generalize hI6 : upd I5 t6 (.tup [.int (a * n), .int b]) = I6 at *
    refine ⟨(by show 6 ≤ sizeLine; decide), fun u nu => ?_⟩
    have su : Same I6 (upd I6 u (.lst [V.ref t1, V.ref t2, V.ref t3, V.ref t4, V.ref t5, V.ref t6])) := same_new' nu
    have hu : upd I6 u (.lst [V.ref t1, V.ref t2, V.ref t3, V.ref t4, V.ref t5, V.ref t6]) u = some (.lst [V.ref t1, V.ref t2, V.ref t3, V.ref t4, V.ref t5, V.ref t6]) := upd_same
    generalize hI7 : upd I6 u (.lst [V.ref t1, V.ref t2, V.ref t3, V.ref t4, V.ref t5, V.ref t6]) = I7 at *
    have U6 := su
    have U5 := st6.trans U6
    have U4 := st5.trans U5
    have U3 := st4.trans U4
    have U2 := st3.trans U3
    have U1 := st2.trans U2
    have U0 := st1.trans U1
    have R6 := sl.trans U0
    have R5 := s6.trans R6
    have R4 := s5.trans R5
    have R3 := s4.trans R4
    have R2 := s3.trans R3
    have R1 := s2.trans R2
    have A7 : Same H I7 := s1.trans R1
    have hl7 := U0 _ _ hl
    have tz : ∀ i : Nat, i < 6 → ∃ (z t : Addr) (p' q' n' : Int), [V.ref z1, .ref z2, .ref z3, .ref z4, .ref z5, .ref z6][i]? = some (.ref z) ∧ [V.ref t1, V.ref t2, V.ref t3, V.ref t4, V.ref t5, V.ref t6][i]? = some (.ref t) ∧ RatAt I7 A.c_Ratio z p' q' ∧ I7 t = some (.tup [.int n', .int b]) ∧ (p', q') = low n' b := fun i hi => match i, hi with
      | 0, _ => ⟨z1, t1, _, _, _, rfl, rfl, h1.same R1, U1 _ _ ht1, li_add b0 lx⟩
      | 1, _ => ⟨z2, t2, _, _, _, rfl, rfl, h2.same R2, U2 _ _ ht2, li_radd b0 lx⟩
      | 2, _ => ⟨z3, t3, _, _, _, rfl, rfl, h3.same R3, U3 _ _ ht3, li_sub b0 lx⟩
      | 3, _ => ⟨z4, t4, _, _, _, rfl, rfl, h4.same R4, U4 _ _ ht4, li_rsub b0 lx⟩
      | 4, _ => ⟨z5, t5, _, _, _, rfl, rfl, h5.same R5, U5 _ _ ht5, li_mul b0 lx⟩
      | 5, _ => ⟨z6, t6, _, _, _, rfl, rfl, h6.same R6, U6 _ _ ht6, li_rmul b0 lx⟩
      | i + 6, h => absurd h (by omega)
    refine ⟨6, rfl, by decide, by decide, fun D hD => lc_range (lo := 0) (n := 6) (fun i G => Same I7 G ∧ G D = some (.lst (List.replicate i (V.bl true)))) ⟨same_new' hD, upd_same⟩ (fun i G hi hP => ?_) (fun G hP => ?_)⟩
    · obtain ⟨sG, gD⟩ := hP
      obtain ⟨z, t, p', q', n', e1, e2, r1, r2, r3⟩ := tz i hi
      have ei : (0 : Int) + (i : Int) = (i : Int) := by omega
      have sz : i < sizeLine := Nat.lt_of_lt_of_le hi (by decide)
      refine ⟨rfl, ?_⟩
      refine ⟨_, rfl, _, rfl, l, _, _, _, rfl, rfl, SqL.of (sG _ _ hl7), at_of ei e1, _, rfl, _, rfl, u, _, _, _, rfl, rfl, SqL.of (sG _ _ hu), at_of ei e2, t, _, _, _, rfl, rfl, SqT.of (sG _ _ r2), at_of rfl rfl, _, rfl, _, rfl, u, _, _, _, rfl, rfl, SqL.of (sG _ _ hu), at_of ei e2, t, _, _, _, rfl, rfl, SqT.of (sG _ _ r2), at_of rfl rfl, _, _, _, _, _, rfl, r1.same sG, b0, zb.big, r3, fun G8 s8 => ?_⟩
      refine ⟨_, s8 _ _ gD, by rw [List.length_replicate]; exact sz, fun b' o e => by rw [upd_ne (ne_of_none e hD)]; exact s8 _ _ (sG _ _ e), ?_⟩
      rw [upd_same, ← List.replicate_succ']
    · obtain ⟨sG, gD⟩ := hP
      refine ⟨D, List.replicate 6 true, rfl, SqL.of gD, true, rfl, iteF ?_⟩
      have SA := A7.trans sG
      refine ⟨_, rfl, _, rfl, _, _, _, .type "int", rfl, (hx.same SA).choose_spec, .inr (.inr ⟨_, rfl, rfl⟩), T.nfi, _, _, p, q, false, rfl, hx.same SA, .inr ⟨_, rfl, rfl⟩, _, rfl, iteF ?_⟩
      refine ⟨_, rfl, _, rfl, _, _, rfl, rfl, za.sz.mul zb.sz, _, rfl, _, rfl, _, _, rfl, rfl, zn.sz.mul zb.sz, _, rfl, _, _, rfl, rfl, (zn.mul zb).sz.mul zb.sz, _, _, rfl, rfl, ?_⟩
      by_cases hl : a * b < n * b * b
      · have el : true = decide (p * 1 < n * q) := (decide_eq_true ((li_lt b0 lx).mpr hl)).symm
        refine ⟨_, rfl, _, _, _, rfl, (hx.same SA).choose_spec, lk_less _ _, _, rfl, _, _, p, q, n, 1, true, rfl, hx.same SA, .inr ⟨rfl, rfl⟩, zp.sz, zq.sz, zn.sz, sz1, el, fun G12 s12 => ?_⟩
        refine ⟨_, _, rfl, rfl, _, rfl, iteF ?_⟩
        have S12 := SA.trans s12
        refine ⟨_, rfl, _, _, _, rfl, (hx.same S12).choose_spec, lk_less _ _, _, rfl, _, _, p, q, n, 1, true, rfl, hx.same S12, .inr ⟨rfl, rfl⟩, zp.sz, zq.sz, zn.sz, sz1, el, fun G13 s13 => ?_⟩
        refine ⟨_, _, rfl, rfl, _, rfl, iteT ⟨_, rfl, _, rfl, ?_⟩⟩
        have S13 := S12.trans s13
        rw [decide_eq_true hl]
        refine iteF ?_
        refine ⟨_, rfl, rfl, _, rfl, ?_⟩
        by_cases hc : n = 0
        · rw [show decide (V.int n = V.int 0) = true from decide_eq_true (by rw [hc])]
          refine iteT ⟨tb.ext S13, fun H1 e1 T1 E1 Qn hE hQ => ?_⟩
          have X1 := (ExtN.of S13).trans e1
          exact ⟨_, rfl, _, _, _, rfl, (hx.ext X1).choose_spec, lk_div _ _, _, rfl, _, _, p, q, n, 1, rfl, hx.ext X1, .inr ⟨rfl, rfl⟩, zp.sz, zq.sz, zn.sz, sz1, q0, by decide, fun z => absurd hc z, fun _ G20 s20 => hE G20 (kq G20 (X1.trans (ExtN.of s20)) (T1.ext s20))⟩
        · rw [show decide (V.int n = V.int 0) = false from decide_eq_false fun z => hc (by injection z)]
          refine iteF ⟨_, rfl, _, _, _, rfl, (hx.same S13).choose_spec, lk_div _ _, _, rfl, _, _, p, q, n, 1, rfl, hx.same S13, .inr ⟨rfl, rfl⟩, zp.sz, zq.sz, zn.sz, sz1, q0, by decide, fun _ z9 G14 s14 h9 => ?_, fun z => absurd z hc⟩
          exact ⟨_, rfl, _, rfl, _, rfl, _, _, rfl, rfl, zb.sz.mul zn.sz, _, _, _, _, _, rfl, h9, Int.mul_ne_zero b0 hc, (zb.mul zn).big, li_div b0 hc lx, fun G15 s15 => kq G15 (ExtN.of ((S13.trans s14).trans s15)) (tb.ext ((S13.trans s14).trans s15))⟩
      · have el : false = decide (p * 1 < n * q) := (decide_eq_false fun z => hl ((li_lt b0 lx).mp z)).symm
        refine ⟨_, rfl, _, _, _, rfl, (hx.same SA).choose_spec, lk_less _ _, _, rfl, _, _, p, q, n, 1, false, rfl, hx.same SA, .inr ⟨rfl, rfl⟩, zp.sz, zq.sz, zn.sz, sz1, el, fun G12 s12 => ?_⟩
        refine ⟨_, _, rfl, rfl, _, rfl, iteT ⟨_, rfl, _, rfl, ?_⟩⟩
        have S12 := SA.trans s12
        rw [decide_eq_false hl]
        refine iteF ?_
        refine ⟨_, rfl, _, _, _, rfl, (hx.same S12).choose_spec, lk_less _ _, _, rfl, _, _, p, q, n, 1, false, rfl, hx.same S12, .inr ⟨rfl, rfl⟩, zp.sz, zq.sz, zn.sz, sz1, el, fun G13 s13 => ?_⟩
        refine ⟨_, _, rfl, rfl, _, rfl, iteF ?_⟩
        have S13 := S12.trans s13
        refine iteF ?_
        refine ⟨_, rfl, rfl, _, rfl, ?_⟩
        by_cases hc : n = 0
        · rw [show decide (V.int n = V.int 0) = true from decide_eq_true (by rw [hc])]
          refine iteT ⟨tb.ext S13, fun H1 e1 T1 E1 Qn hE hQ => ?_⟩
          have X1 := (ExtN.of S13).trans e1
          exact ⟨_, rfl, _, _, _, rfl, (hx.ext X1).choose_spec, lk_div _ _, _, rfl, _, _, p, q, n, 1, rfl, hx.ext X1, .inr ⟨rfl, rfl⟩, zp.sz, zq.sz, zn.sz, sz1, q0, by decide, fun z => absurd hc z, fun _ G20 s20 => hE G20 (kq G20 (X1.trans (ExtN.of s20)) (T1.ext s20))⟩
        · rw [show decide (V.int n = V.int 0) = false from decide_eq_false fun z => hc (by injection z)]
          refine iteF ⟨_, rfl, _, _, _, rfl, (hx.same S13).choose_spec, lk_div _ _, _, rfl, _, _, p, q, n, 1, rfl, hx.same S13, .inr ⟨rfl, rfl⟩, zp.sz, zq.sz, zn.sz, sz1, q0, by decide, fun _ z9 G14 s14 h9 => ?_, fun z => absurd z hc⟩
          exact ⟨_, rfl, _, rfl, _, rfl, _, _, rfl, rfl, zb.sz.mul zn.sz, _, _, _, _, _, rfl, h9, Int.mul_ne_zero b0 hc, (zb.mul zn).big, li_div b0 hc lx, fun G15 s15 => kq G15 (ExtN.of ((S13.trans s14).trans s15)) (tb.ext ((S13.trans s14).trans s15))⟩
end
end Z

set_option Elab.async false
set_option linter.all false
set_option maxRecDepth 100000
set_option maxHeartbeats 8000000
/-! the law -/
namespace Z
open PySem L2 XV RT LamX
theorem _root_.LamX.Tabs.but {T : List (Addr × Str)} {H G : Hp} {d : Addr} {kvs : List (Key × V)} (t : Tabs T H) (hd : H d = some (.dK kvs)) (bt : But d H G) : Tabs T G := fun p hp => by
  obtain ⟨ps, h1, h2, h3⟩ := t p hp
  refine ⟨ps, bt _ _ (ne_of h1 hd (fun z => nomatch z)) h1, h2, fun pos cv hc => ?_⟩
  obtain ⟨c, e1, e2⟩ := h3 pos cv hc
  exact ⟨c, e1, bt _ _ (ne_of e2 hd (fun z => by unfold CodeO at z; cases z)) e2⟩
theorem _root_.LamX.Tabs.pen {T : List (Addr × Str)} {H G : Hp} {d l : Addr} {k : Nat} (t : Tabs T H) (pen : Pen H d l k) (bt : But d H G) : Tabs T G := let ⟨_, e⟩ := pen.some; t.but e bt
theorem Pen.ext {H G : Hp} {d l : Addr} {k : Nat} (h : Pen H d l k) (s : ExtN H G) : Pen G d l k := by
  obtain ⟨ns, m, h1, h2, h3, h4⟩ := h
  exact ⟨ns, m, s _ _ h1 (fun _ z => nomatch z), s _ _ h2 (fun _ z => nomatch z), h3, h4⟩
section
variable {P : Program} {w : World} {K : PySem.W.Frag} {mg : Str → Option Value} {base : Heap} {A : Ad}
theorem sc_law : FnScope ["_law_script", "_law_pen", "_law_turn", "_law_a", "_law_c", "_law_n", "_law_b", "_law_d", "_law_one", "_law_other", "_law_number", "_law_over"] ["_law_script"] (defScope s_law) := ⟨rfl, rfl, rfl, by decide +kernel, rfl, by decide +kernel, by decide +kernel⟩
def spLaw (K : PySem.W.Frag) (A : Ad) : Sp := fun vs H Q _ => ∃ (a : Addr) (ns : List Int), vs = [.ref a] ∧ SqL K H a (ns.map V.int) ∧ ns.length ≤ 63 ∧ Tabs (TL A) H ∧ ∀ H', Q (.bl true) H'
theorem ok_law (T : Txt K mg A) (TB1 : TabB base mg A.k_pair A.p_pair) (TB2 : TabB base mg A.k_whole A.p_whole) (TB : TabB base mg A.k_law A.p_law) : FnOk P w K mg base CX0 10 A.a_law A.d_law ["_law_script"] (spLaw K A) := by
  have G_init := ok_rinit (P := P) (w := w) (base := base) T
  have G_is := (ok_is (P := P) (w := w) (base := base) T).imp (isT A.c_Ratio)
  have G___eq__ := (ok_Ratio__eq__ (P := P) (w := w) (base := base) T).imp (eqT A.c_Ratio)
  have G___str__ := ok_str (P := P) (w := w) (base := base) T
  have G_penof := ok_pen (P := P) (w := w) (base := base) T
  have G_draw := ok_draw (P := P) (w := w) (base := base) T
  have G_numberof := ok_numberof (P := P) (w := w) (base := base) T
  have G_lowest := ok_lowest (P := P) (w := w) (base := base) T
  have G_pair := ok_pair (P := P) (w := w) T TB1
  have G_whole := ok_whole (P := P) (w := w) T TB2
  have Ro := T.Ro
  refine T.F_law.ok sc_law (fun vs H Q E h => ?_) (fun Ar outer s H vs Q E hr h => ?_)
  · obtain ⟨a, ns, rfl, _⟩ := h; rfl
  · obtain ⟨a, ns, rfl, hs, hn, tb, kq⟩ := h
    refine ⟨_, (pss_cons (ps_set (i := 1) sc_law.nd rfl (Or.inl rfl) (pe_call G_penof (hr.mono (by decide)) (by rfl) T.g_penof T.F_penof.kp T.b_penof .nil pass0 (pa_cons (pv 0) pa_nil)))
      (pss_cons (ps_for PassesOwn.never rfl (pi_range1 (by rfl) T.z_range (pa_cons pe_int pa_nil)) (pg_name (i := 2) sc_law.nd rfl (Or.inl rfl))
         (pss_cons (ps_asg (pe_tup (pa_cons (pe_call G_numberof (hr.mono (by decide)) (by rfl) T.g_numberof T.F_numberof.kp T.b_numberof .nil pass0 (pa_cons (pv 1) pa_nil)) (pa_cons (pe_call G_numberof (hr.mono (by decide)) (by rfl) T.g_numberof T.F_numberof.kp T.b_numberof .nil pass0 (pa_cons (pv 1) pa_nil)) (pa_cons (pe_call G_numberof (hr.mono (by decide)) (by rfl) T.g_numberof T.F_numberof.kp T.b_numberof .nil pass0 (pa_cons (pv 1) pa_nil)) pa_nil)))) (pg_tup (by rfl) (pgs_cons (pg_name (i := 3) sc_law.nd rfl (Or.inr rfl)) (pgs_cons (pg_name (i := 4) sc_law.nd rfl (Or.inl rfl)) (pgs_cons (pg_name (i := 5) sc_law.nd rfl (Or.inl rfl)) pgs_nil)))))
         (pss_cons (ps_par (i := 6) (j := 7) (by rfl) sc_law.nd rfl rfl (by decide) rfl rfl (pa_cons (pe_op op_add pe_int (pe_call G_draw (hr.mono (by decide)) (by rfl) T.g_draw T.F_draw.kp T.b_draw .nil pass0 (pa_cons (pv 1) (pa_cons pe_int pa_nil)))) (pa_cons (pe_op op_sub (pe_un un_neg pe_int) (pe_op op_mulW (pe_call G_draw (hr.mono (by decide)) (by rfl) T.g_draw T.F_draw.kp T.b_draw .nil pass0 (pa_cons (pv 1) (pa_cons pe_int pa_nil))) (pe_op op_pow pe_int pe_int))) pa_nil)) (by rfl))
         (pss_cons (ps_par (i := 8) (j := 9) (by rfl) sc_law.nd rfl rfl (by decide) rfl rfl (pa_cons (pe_make T.Ro.M G_init (hr.mono (by decide)) (by rfl) T.g_Ratio T.b_init2 .nil passX (pa_cons (pv 3) (pa_cons (pv 6) pa_nil))) (pa_cons (pe_make T.Ro.M G_init (hr.mono (by decide)) (by rfl) T.g_Ratio T.b_init2 .nil passX (pa_cons (pv 4) (pa_cons (pv 7) pa_nil))) pa_nil)) (by rfl))
         (pss_cons (ps_if (PW.pt (pw_or (pt_not (pt_val (pe_call G_pair (hr.mono (by decide)) (by rfl) T.g_pair T.F_pair.kp T.b_pair .nil pass0 (pa_cons (pv 8) (pa_cons (pv 9) (pa_cons (pv 3) (pa_cons (pv 6) (pa_cons (pv 4) (pa_cons (pv 7) pa_nil))))))))) (pw_or1 (pt_not (pt_val (pe_call G_pair (hr.mono (by decide)) (by rfl) T.g_pair T.F_pair.kp T.b_pair .nil pass0 (pa_cons (pv 9) (pa_cons (pv 8) (pa_cons (pv 4) (pa_cons (pv 7) (pa_cons (pv 3) (pa_cons (pv 6) pa_nil)))))))))))) (pss_one (ps_ret pe_bl))
           pss_nil)
         (pss_cons (ps_if (PW.pt (pw_or (pt_not (pt_val (pe_call G_whole (hr.mono (by decide)) (by rfl) T.g_whole T.F_whole.kp T.b_whole .nil pass0 (pa_cons (pv 8) (pa_cons (pv 3) (pa_cons (pv 6) (pa_cons (pv 5) pa_nil))))))) (pw_or1 (pt_not (pt_val (pe_call G_whole (hr.mono (by decide)) (by rfl) T.g_whole T.F_whole.kp T.b_whole .nil pass0 (pa_cons (pv 9) (pa_cons (pv 4) (pa_cons (pv 7) (pa_cons (pv 5) pa_nil)))))))))) (pss_one (ps_ret pe_bl))
           pss_nil)
         (pss_cons (ps_asg (pe_call G_lowest (hr.mono (by decide)) (by rfl) T.g_lowest T.F_lowest.kp T.b_lowest .nil pass0 (pa_cons (pv 3) (pa_cons (pv 6) pa_nil))) (pg_tup (by rfl) (pgs_cons (pg_name (i := 10) sc_law.nd rfl (Or.inl rfl)) (pgs_cons (pg_name (i := 11) sc_law.nd rfl (Or.inl rfl)) pgs_nil))))
         (pss_cons (ps_if (pt_cmpR op_ne (pe_callTy (call_strI T.o_str T.n_str (show FnR _ _ _ _ _ _ 3 _ (nilS (spTxt A.c_Ratio)) from G___str__.raw T.b_Ratio__str__ .nil) (hr.mono (by decide)) pass0) (by rfl) T.z_str (by decide +kernel) (pa_cons (pv 8) pa_nil)) (pe_ifExp (pt_cmpR op_eq (pv 11) pe_int (nomark _)) (pe_callTy call_str_int (by rfl) T.z_str (by decide +kernel) (pa_cons (pv 10) pa_nil)) (pe_op op_add_str (pe_op op_add_str (pe_callTy call_str_int (by rfl) T.z_str (by decide +kernel) (pa_cons (pv 10) pa_nil)) pe_str) (pe_callTy call_str_int (by rfl) T.z_str (by decide +kernel) (pa_cons (pv 11) pa_nil)))) (nomark _)) (pss_one (ps_ret pe_bl))
           pss_nil)
         (pss_one (ps_if (PW.pt (pw_or (pt_not (pt_val (pe_call G_is (hr.mono (by decide)) (by rfl) T.g_is T.F_is.kp T.b_is .nil pass0 (pa_cons (pe_make T.Ro.M G_init (hr.mono (by decide)) (by rfl) T.g_Ratio (Classical.choose_spec T.b_init1).2 (Classical.choose_spec T.b_init1).1 passX (pa_cons (pv 5) pa_nil)) (pa_cons (pv 5) (pa_cons pe_int pa_nil)))))) (pw_or1 (pt_not (pt_val (pe_lamcallS (k := 6) (T := TL A) (Ng := ["_law_call", "_law_told", "e"]) (TT := TBad A.c_BadOver) T.F_bad (by rfl) T.g_bad T.b_bad sc_bad rfl (Or.inl rfl) (fun cdv => bad_gives T) TB rfl tl_law (tlu_law T) (hr.mono (by decide)) (lamS_by (show lamSB (defScope s_law) _ = true by decide +kernel)) rfl (fun _ _ _ _ _ => rfl) (fun Ar2 ou2 s2 H2 E2 f2 c2 hr2 => (pe_make T.Ro.M G_init (hr2.mono (by decide)) (by rfl) T.g_Ratio T.b_init2 .nil (passes_call (takes_of rfl rfl rfl rfl) (fun _ _ _ _ h => h)) (pa_cons (pv 3) (pa_cons pe_int pa_nil)))))))))) (pss_one (ps_ret pe_bl))
           pss_nil))))))))))
      (pss_one (ps_ret (pe_and (pe_call G_is (hr.mono (by decide)) (by rfl) T.g_is T.F_is.kp T.b_is .nil pass0 (pa_cons (pe_make T.Ro.M G_init (hr.mono (by decide)) (by rfl) T.g_Ratio T.b_init2 .nil passX (pa_cons pe_int (pa_cons (pe_un un_neg pe_int) pa_nil))) (pa_cons pe_int (pa_cons pe_int pa_nil)))) (pe_and (pe_cmpR (op_neI T.o_ne T.o_eq T.n_eq T.o_sub0 (show FnR _ _ _ _ _ _ 1 _ (nilS (spEqT A.c_Ratio)) from G___eq__.raw T.b_Ratio__eq__ .nil) (hr.mono (by decide)) pass0) (pe_make T.Ro.M G_init (hr.mono (by decide)) (by rfl) T.g_Ratio (Classical.choose_spec T.b_init1).2 (Classical.choose_spec T.b_init1).1 passX (pa_cons pe_int pa_nil)) pe_int (nomark _)) (pe_one (pe_not (pe_cmpR (op_eqI T.o_eq T.n_eq (show FnR _ _ _ _ _ _ 1 _ (nilS (spEqT A.c_Ratio)) from G___eq__.raw T.b_Ratio__eq__ .nil) (hr.mono (by decide)) pass0) (pe_make T.Ro.M G_init (hr.mono (by decide)) (by rfl) T.g_Ratio (Classical.choose_spec T.b_init1).2 (Classical.choose_spec T.b_init1).1 passX (pa_cons pe_int pa_nil)) pe_int (nomark _)))))))))), ?_⟩
    refine ⟨_, rfl, a, ns, rfl, hs, hn, fun d l H0 pen0 s0 _ => ?_⟩
    refine ⟨6, rfl, by decide, by decide, ?_⟩
    refine for_range (lo := 0) (n := (6 : Int).toNat) (fun j σ G => (∃ z2 z3 z4 z5 z6 z7 z8 z9 z10 z11, σ = [some (.ref a), some (.ref d), z2, z3, z4, z5, z6, z7, z8, z9, z10, z11]) ∧ (∃ k, k ≤ 30 * j ∧ Pen G d l k) ∧ Tabs (TL A) G) ⟨⟨_, _, _, _, _, _, _, _, _, _, rfl⟩, ⟨0, Nat.le_refl _, pen0⟩, tb.ext s0⟩ (fun j σ G hj hP => ?_) (fun σ G hP => ?_)
    · obtain ⟨⟨z2, z3, z4, z5, z6, z7, z8, z9, z10, z11, rfl⟩, ⟨k, hk, pen⟩, tb⟩ := hP
      have j6 : j < 6 := hj
      refine ⟨_, rfl, d, l, k, rfl, pen, by omega, fun a1 G1 k1 b1 kk1 pen1 bt1 => ?_⟩
      refine ⟨_, rfl, d, l, k1, rfl, pen1, by omega, fun a2 G2 k2 b2 kk2 pen2 bt2 => ?_⟩
      refine ⟨_, rfl, d, l, k2, rfl, pen2, by omega, fun a3 G3 k3 b3 kk3 pen3 bt3 => ?_⟩
      refine ⟨(by show 3 ≤ sizeLine; decide), fun t nt => ?_⟩
      have st : Same G3 (upd G3 t (.tup [V.int a1, V.int a2, V.int a3])) := same_new' nt
      refine ⟨_, _, rfl, SqT.of upd_same, rfl, _, _, rfl, _, _, rfl, _, _, rfl, rfl, ?_⟩
      generalize upd G3 t (.tup [V.int a1, V.int a2, V.int a3]) = G4 at *
      have tb4 := (((tb.pen pen bt1).pen pen1 bt2).pen pen2 bt3).ext st
      have pen4 := pen3.same st
      refine ⟨_, rfl, d, l, 12, k3, rfl, pen4, by decide, by decide, by omega, fun v5 G5 k5 v5a v5b kk5 pen5 bt5 => ⟨_, _, rfl, rfl, ?_⟩⟩
      have q2 : (10 : Int) ^ Int.toNat 20 = 100000000000000000000 := by decide +kernel
      have z20 : Bz 70 ((10 : Int) ^ Int.toNat 20) := by rw [q2]; unfold Bz; decide
      refine ⟨_, rfl, _, rfl, d, l, 9, k5, rfl, pen5, by decide, by decide, by omega, fun v6 G6 k6 v6a v6b kk6 pen6 bt6 => ?_⟩
      have z6 : Bz 4 v6 := by unfold Bz; omega
      refine ⟨_, _, rfl, rfl, ⟨by decide, by decide, by decide⟩, _, _, rfl, rfl, z6.sz.mul z20.sz, _, _, rfl, rfl, _, _, rfl, ?_⟩
      have tb6 := (tb4.pen pen4 bt5).pen pen5 bt6
      rw [q2]
      have hb0 : (1 : Int) + v5 ≠ 0 := by omega
      have zb : Bz 140 (1 + v5) := (show Bz 4 (1 + v5) by unfold Bz; omega).mono (by decide)
      have hd0 : -1 - v6 * 100000000000000000000 ≠ 0 := by omega
      have zd : Bz 140 (-1 - v6 * 100000000000000000000) := (show Bz 80 (-1 - v6 * 100000000000000000000) by unfold Bz; rw [show (2 : Nat) ^ 80 = 1208925819614629174706176 from by decide +kernel]; omega).mono (by decide)
      have za : Bz 140 a1 := b1
      have zc : Bz 140 a2 := b2
      have zn : Bz 140 a3 := b3
      refine ⟨_, rfl, _, rfl, make_rat za.big zb.big hb0 (fun x G7 _ s7 hx => ?_)⟩
      refine ⟨_, rfl, _, rfl, make_rat zc.big zd.big hd0 (fun y G8 _ s8 hy => ?_)⟩
      have hx := hx.same s8
      have tb8 := tb6.ext (s7.trans s8)
      have pen8 := pen6.same (s7.trans s8)
      refine ⟨_, _, rfl, ?_⟩
      refine ⟨_, rfl, _, rfl, _, rfl, _, rfl, _, rfl, _, rfl, x, y, a1, 1 + v5, a2, -1 - v6 * 100000000000000000000, rfl, hx, hy, hb0, hd0, za, zb, zc, zd, tb8, fun G9 e9 tb9 => ⟨true, rfl, iteF ?_⟩⟩
      refine ⟨_, rfl, _, rfl, _, rfl, _, rfl, _, rfl, _, rfl, y, x, a2, -1 - v6 * 100000000000000000000, a1, 1 + v5, rfl, hy.ext e9, hx.ext e9, hd0, hb0, zc, zd, za, zb, tb9, fun G10 e10 tb10 => ⟨true, rfl, iteF ?_⟩⟩
      have E10 := e9.trans e10
      refine ⟨_, rfl, _, rfl, _, rfl, _, rfl, x, a1, 1 + v5, a3, rfl, hx.ext E10, hb0, za, zb, zn, tb10, fun G11 e11 tb11 => ⟨true, rfl, iteF ?_⟩⟩
      have E11 := E10.trans e11
      refine ⟨_, rfl, _, rfl, _, rfl, _, rfl, y, a2, -1 - v6 * 100000000000000000000, a3, rfl, hy.ext E11, hd0, zc, zd, zn, tb11, fun G12 e12 tb12 => ⟨true, rfl, iteF ?_⟩⟩
      have E12 := E11.trans e12
      have hx := hx.ext E12
      have pen12 := pen8.ext E12
      refine ⟨_, rfl, _, rfl, a1, 1 + v5, rfl, hb0, zb.big, fun t2 G13 nt2 s13 ht2 => ⟨_, _, rfl, SqT.of ht2, rfl, _, _, rfl, _, _, rfl, rfl, ?_⟩⟩
      have hx := hx.same s13
      have zp : Bz 140 (low a1 (1 + v5)).1 := low_bz1 za
      have zq : Bz 140 (low a1 (1 + v5)).2 := low_bz2 zb
      have qp := (low_lo (n := a1) hb0).pos
      generalize hp : (low a1 (1 + v5)).1 = p at *
      generalize hq : (low a1 (1 + v5)).2 = q at *
      have t140 : (2 : Nat) ^ 140 < 10 ^ 64 := by decide +kernel
      have p64 : p.natAbs < 10 ^ 64 := Nat.lt_trans zp t140
      have q64 : q.natAbs < 10 ^ 64 := Nat.lt_trans zq t140
      refine ⟨_, rfl, _, _, _, rfl, hx.choose_spec, _, p, q, rfl, hx, p64, qp, by omega, fun G14 s14 => ⟨_, rfl, ?_⟩⟩
      have pl : p.natAbs.log2 < 1920 := log_lt (zp.mono (by decide)) (by decide)
      have ql : q.natAbs.log2 < 1920 := log_lt (zq.mono (by decide)) (by decide)
      refine ⟨_, rfl, rfl, _, rfl, ?_⟩
      have lp := PyProof.Rows.int_text_len_1921 pl
      have lq := PyProof.Rows.int_text_len_1921 ql
      have zl : 10000 ≤ sizeLine := by decide
      have lo : (Str.ofString "/").length = 1 := rfl
      have la : ∀ x y : Str, (x ++ y).length = x.length + y.length := fun x y => Array.size_append
      have nstr : ∀ s : Str, (!decide (V.str s = V.str s)) = false := fun s => by simp
      by_cases q1 : q = 1
      · subst q1
        refine iteT ⟨_, rfl, p, rfl, pl, rfl, _, rfl, ?_⟩
        rw [if_pos rfl, nstr]
        refine iteF ?_
        have pen14 := pen12.same (s13.trans s14)
        have tb14 := tb12.ext (s13.trans s14)
        refine ⟨_, rfl, make_rat zn.big (by decide) (by decide) (fun x4 G15 _ s15 h4 => ?_)⟩
        refine ⟨_, rfl, _, _, _, _, _, rfl, h4, by decide, by decide, rfl, fun G16 s16 => ⟨true, rfl, iteF ?_⟩⟩
        have pen16 := pen14.same (s15.trans s16)
        refine ⟨tb14.ext (s15.trans s16), fun H1 e1 T1 E1 Qn hE hQ => ?_⟩
        refine ⟨_, rfl, fun x5 dx nx ndx ne => ⟨x5, dx, a1, 0, rfl, upd_same, za.big, sz0.big, fun z => absurd rfl z, fun _ G17 s17 => hE G17 ⟨true, rfl, iteF ?_⟩⟩⟩
        have s18 : Same H1 G17 := Same.trans (fun b' o h => by rw [upd_ne (ne_of_none h nx), upd_ne (ne_of_none h ndx)]; exact h) s17
        exact ⟨⟨_, _, _, _, _, _, _, _, _, _, rfl⟩, ⟨k6, by omega, (pen16.ext e1).same s18⟩, T1.ext s18⟩
      · rw [show decide (V.int q = V.int 1) = false from decide_eq_false fun z => q1 (by injection z)]
        refine iteF ⟨_, rfl, p, rfl, pl, _, _, rfl, rfl, by omega, _, rfl, q, rfl, ql, _, _, rfl, rfl, by rw [la]; omega, rfl, _, rfl, ?_⟩
        rw [if_neg q1, nstr]
        refine iteF ?_
        have pen14 := pen12.same (s13.trans s14)
        have tb14 := tb12.ext (s13.trans s14)
        refine ⟨_, rfl, make_rat zn.big (by decide) (by decide) (fun x4 G15 _ s15 h4 => ?_)⟩
        refine ⟨_, rfl, _, _, _, _, _, rfl, h4, by decide, by decide, rfl, fun G16 s16 => ⟨true, rfl, iteF ?_⟩⟩
        have pen16 := pen14.same (s15.trans s16)
        refine ⟨tb14.ext (s15.trans s16), fun H1 e1 T1 E1 Qn hE hQ => ?_⟩
        refine ⟨_, rfl, fun x5 dx nx ndx ne => ⟨x5, dx, a1, 0, rfl, upd_same, za.big, sz0.big, fun z => absurd rfl z, fun _ G17 s17 => hE G17 ⟨true, rfl, iteF ?_⟩⟩⟩
        have s18 : Same H1 G17 := Same.trans (fun b' o h => by rw [upd_ne (ne_of_none h nx), upd_ne (ne_of_none h ndx)]; exact h) s17
        exact ⟨⟨_, _, _, _, _, _, _, _, _, _, rfl⟩, ⟨k6, by omega, (pen16.ext e1).same s18⟩, T1.ext s18⟩
    · refine ⟨_, rfl, make_rat (by decide) (by decide) (by decide) (fun x G1 _ s1 h1 => ?_)⟩
      refine ⟨_, _, _, _, _, rfl, h1, by decide, by decide, by decide, fun G2 s2 => ⟨true, rfl, iteT ?_⟩⟩
      refine make_rat (by decide) (by decide) (by decide) (fun x2 G3 _ s3 h3 => ?_)
      refine ⟨_, _, _, .type "int", rfl, h3.choose_spec, .inr (.inr ⟨_, rfl, rfl⟩), T.nfi, _, _, _, _, false, rfl, h3, .inr ⟨_, rfl, rfl⟩, ⟨false, rfl, true, rfl, iteT ?_⟩⟩
      refine make_rat (by decide) (by decide) (by decide) (fun x4 G5 _ s5 h5 => ?_)
      exact ⟨_, _, _, .type "int", rfl, h5.choose_spec, .inr (.inr ⟨_, rfl, rfl⟩), T.nfi, _, _, _, _, false, rfl, h5, .inr ⟨_, rfl, rfl⟩, _, rfl, kq G5⟩
end
end Z

set_option Elab.async false
set_option linter.all false
set_option maxRecDepth 100000
set_option maxHeartbeats 8000000
/-! what the top has written, gathered -/
namespace Z
open PySem L2 XV RT LamX PyProof.Rows
/-- of a class of the errors: all that is asked of it but its object and its __init__'s -/
def errB (K : PySem.W.Frag) (C fI : Addr) (fs : List Str) : Bool :=
  PySem.W.findIn K (.ref C) "__setattr__" == some (some (.builtin "object.__setattr__")) && PySem.W.subIn K (.ref C) (.type "BaseException") == some true && PySem.W.typeIn K (.ref C) == some (.type "type") && PySem.W.keepIn K (.ref C) &&
  PySem.W.findIn K (.ref C) "__init__" == some (some (.ref fI)) && PySem.W.typeIn K (.ref fI) == some (.type "function") && PySem.W.findIn K (.ref C) "__getattribute__" == some (some (.builtin "BaseException.__getattribute__")) &&
  PySem.W.findIn K (.ref C) "__getattr__" == some none && PySem.W.hasDictIn K C && PySem.W.findIn K (.ref C) "__class__" == some (some (.builtin "object.__class__")) &&
  PySem.W.specialIn K (.builtin "object.__class__") "__get__" == some (some (.builtin "getset_descriptor.__get__")) && PySem.W.takesIn K (.builtin "object.__class__") == some true && PySem.W.mroIn K C (.type "object") == some true &&
  fs.all fun f => PySem.W.findIn K (.ref C) f == some none
theorem ec_mk {K : PySem.W.Frag} {mg : Str → Option Value} {h : Heap} (X : K.In h) (G : h.Ns mainGlobals mg) {cj C fI N : Addr} {x qual nm q : Str} {st : Stmt} {fs : List Str} {bs : List Value} {sn : List Str} {sub : List Value} {ab : Bool} {col : Option Bool} {dd : Option Addr} {m0 m1 m2 m3 m5 : Option Value}
    {oc kV doc pm cd ct : Value} {od an : Option Addr} {sl : Array (Option Value)}
    (aC : PySem.W.nsIn K mainGlobals x = some (some (.ref C)))
    (xL : K.lookup C = some (excClassObj nm q C N bs [.ref cj, .type "ValueError", .type "Exception", .type "BaseException", .type "object"] true sn sub ab col dd m0 m1 m2 m3 m5 "ValueError.__new__"))
    (eB : errB K C fI fs = true)
    (lI : K.lookup fI = some ⟨oc, od, .func (PySem.W.fnOf "__init__" qual (defArgs st) (defBody st) (defScope st) .none kV doc pm an cd ct), sl⟩) (cI : PySem.W.codeIn K cd qual = true) (kI : PySem.W.keepIn K (.ref fI) = true)
    (hb : KBn K (PySem.W.fnOf "__init__" qual (defArgs st) (defBody st) (defScope st) .none kV doc pm an cd ct) ("self" :: fs) (fs.length + 1) [] (fun us _ => us) (fun vs _ => vs))
    (hk : Binds K (PySem.W.fnOf "__init__" qual (defArgs st) (defBody st) (defScope st) .none kV doc pm an cd ct) ("self" :: fs) []) :
    Ec K mg cj C fI x qual st (PySem.W.fnOf "__init__" qual (defArgs st) (defBody st) (defScope st) .none kV doc pm an cd ct) fs := by
  unfold errB at eB
  simp only [Bool.and_eq_true, beq_iff_eq, List.all_eq_true] at eB
  obtain ⟨⟨⟨⟨⟨⟨⟨⟨⟨⟨⟨⟨⟨e1, e2⟩, e3⟩, e4⟩, e5⟩, e6⟩, e7⟩, e8⟩, e9⟩, e10⟩, e11⟩, e12⟩, e13⟩, e14⟩ := eB
  exact { E := ⟨⟨⟨nm, q, N, bs, _, sn, sub, ab, col, dd, m0, m1, m2, m3, m5, xL, by rfl⟩, e1, e2, e3, e4⟩, e5, e6⟩, R := ⟨e7, e8, e2, e9, e10, e11, e12, e13⟩, F := fun_mk lI cI kI, g := PySem.W.mg_of X G aC,
          m := ⟨_, by unfold PySem.W.clsIn; rw [xL] <;> rfl, rfl⟩, ty := e3, b := hb, bb := hk, no := e14 }
/-- of the class Ratio: all that is asked of it -/
def ratioB (K : PySem.W.Frag) (C fI : Addr) : Bool :=
  PySem.W.makesIn K C && PySem.W.findIn K (.ref C) "__init__" == some (some (.ref fI)) && PySem.W.isFn K (.ref fI) && PySem.W.keepIn K (.ref C) &&
  PySem.W.plainGet K C Str.empty && PySem.W.hasDictIn K C && PySem.W.plainOver K C && PySem.W.findIn K (.ref C) "__setattr__" == some (some (.builtin "object.__setattr__")) &&
  PySem.W.findIn K (.ref C) "number" == some none && PySem.W.findIn K (.ref C) "over" == some none &&
  PySem.W.kitOne K (.ref C) (.ref C) == some true && PySem.W.kitOne K (.type "int") (.ref C) == some false &&
  PySem.W.findIn K (.ref C) "__class__" == some (some (.builtin "object.__class__")) && PySem.W.specialIn K (.builtin "object.__class__") "__get__" == some (some (.builtin "getset_descriptor.__get__")) &&
  PySem.W.takesIn K (.builtin "object.__class__") == some true && PySem.W.mroIn K C (.type "object") == some true &&
  PySem.W.kitOne K (.type "int") (.type "int") == some true && PySem.W.kitOne K (.type "int") (.type "bool") == some false
theorem rc_mk {K : PySem.W.Frag} {C fI : Addr} (e : ratioB K C fI = true) : Rc K C fI := by
  unfold ratioB at e
  simp only [Bool.and_eq_true, beq_iff_eq] at e
  obtain ⟨⟨⟨⟨⟨⟨⟨⟨⟨⟨⟨⟨⟨⟨⟨⟨⟨e1, e2⟩, e3⟩, e4⟩, e5⟩, e6⟩, e7⟩, e8⟩, e9⟩, e10⟩, e11⟩, e12⟩, e13⟩, e14⟩, e15⟩, e16⟩, e17⟩, e18⟩ := e
  exact { M := ⟨e1, e2, e3, e4⟩, cl := ⟨e5, e6, e7, e8⟩, n_number := e9, n_over := e10, kc := e11, ki := e12, ha := e13, hn := e14, ht := e15, hm := e16, ii := e17, ib := e18 }
def binB (K : PySem.W.Frag) (C f g : Addr) (nm rm : Str) : Bool :=
  PySem.W.selfFirst K C && PySem.W.findIn K (.ref C) nm == some (some (.ref f)) && PySem.W.isFn K (.ref f) && PySem.W.findIn K (.ref C) rm == some (some (.ref g)) && PySem.W.isFn K (.ref g) &&
  PySem.W.subIn K (.type "int") (.ref C) == some false && PySem.W.subIn K (.ref C) (.type "int") == some false
theorem bin_mk {K : PySem.W.Frag} {C f g : Addr} {nm rm : Str} (e : binB K C f g nm rm = true) : BinC K C f g nm rm := by
  unfold binB at e
  simp only [Bool.and_eq_true, beq_iff_eq] at e
  obtain ⟨⟨⟨⟨⟨⟨e1, e2⟩, e3⟩, e4⟩, e5⟩, e6⟩, e7⟩ := e
  exact ⟨e1, e2, e3, e4, e5, e6, e7⟩

section
variable {l : PySem.W.OpenLaw} {q : Program} {w : World} {K : PySem.W.Frag} {mg : Str → Option Value} {h : Heap} {fa : Addr}
theorem all_mk (TF : TabFact q K h) (X : K.In h) (G : h.Ns mainGlobals mg) (hfa : mg "law" = some (.ref fa))
    {cj : Addr}
    {f_isint : Addr} {oc_isint kV_isint doc_isint pm_isint cd_isint ct_isint : Value} {od_isint an_isint : Option Addr} {sl_isint : Array (Option Value)}
    {f_digits : Addr} {oc_digits kV_digits doc_digits pm_digits cd_digits ct_digits : Value} {od_digits an_digits : Option Addr} {sl_digits : Array (Option Value)}
    {f_signeddigits : Addr} {oc_signeddigits kV_signeddigits doc_signeddigits pm_signeddigits cd_signeddigits ct_signeddigits : Value} {od_signeddigits an_signeddigits : Option Addr} {sl_signeddigits : Array (Option Value)}
    {f_ratioof : Addr} {oc_ratioof kV_ratioof doc_ratioof pm_ratioof cd_ratioof ct_ratioof : Value} {od_ratioof an_ratioof : Option Addr} {sl_ratioof : Array (Option Value)}
    {f_penof : Addr} {oc_penof kV_penof doc_penof pm_penof cd_penof ct_penof : Value} {od_penof an_penof : Option Addr} {sl_penof : Array (Option Value)}
    {f_draw : Addr} {oc_draw kV_draw doc_draw pm_draw cd_draw ct_draw : Value} {od_draw an_draw : Option Addr} {sl_draw : Array (Option Value)}
    {f_pick : Addr} {oc_pick kV_pick doc_pick pm_pick cd_pick ct_pick : Value} {od_pick an_pick : Option Addr} {sl_pick : Array (Option Value)}
    {f_numberof : Addr} {oc_numberof kV_numberof doc_numberof pm_numberof cd_numberof ct_numberof : Value} {od_numberof an_numberof : Option Addr} {sl_numberof : Array (Option Value)}
    {f_lowest : Addr} {oc_lowest kV_lowest doc_lowest pm_lowest cd_lowest ct_lowest : Value} {od_lowest an_lowest : Option Addr} {sl_lowest : Array (Option Value)}
    {f_is : Addr} {oc_is kV_is doc_is pm_is cd_is ct_is : Value} {od_is an_is : Option Addr} {sl_is : Array (Option Value)}
    {f_bad : Addr} {oc_bad kV_bad doc_bad pm_bad cd_bad ct_bad : Value} {od_bad an_bad : Option Addr} {sl_bad : Array (Option Value)}
    {f_pair : Addr} {oc_pair kV_pair doc_pair pm_pair ct_pair : Value} {od_pair an_pair : Option Addr} {sl_pair : Array (Option Value)} {C_pair P_pair : Addr}
    {e1_pair : Value} {e2_pair : Option Addr} {e3_pair : Array Value} {e4_pair : Array (Option Value)}
    {f_whole : Addr} {oc_whole kV_whole doc_whole pm_whole ct_whole : Value} {od_whole an_whole : Option Addr} {sl_whole : Array (Option Value)} {C_whole P_whole : Addr}
    {e1_whole : Value} {e2_whole : Option Addr} {e3_whole : Array Value} {e4_whole : Array (Option Value)}
    {f_law : Addr} {oc_law kV_law doc_law pm_law ct_law : Value} {od_law an_law : Option Addr} {sl_law : Array (Option Value)} {C_law P_law : Addr}
    {e1_law : Value} {e2_law : Option Addr} {e3_law : Array Value} {e4_law : Array (Option Value)}
    {C_BadOver I_BadOver N_BadOver : Addr} {nm_BadOver q_BadOver : Str} {bs_BadOver : List Value} {sn_BadOver : List Str} {sub_BadOver : List Value} {ab_BadOver : Bool} {col_BadOver : Option Bool} {dd_BadOver : Option Addr} {m0_BadOver m1_BadOver m2_BadOver m3_BadOver m5_BadOver : Option Value} {oc_BadOver kV_BadOver doc_BadOver pm_BadOver cd_BadOver ct_BadOver : Value} {od_BadOver an_BadOver : Option Addr} {sl_BadOver : Array (Option Value)}
    {C : Addr}
    {T0 : Addr} {ot : Value} {odt : Option Addr} {tkT : Tok} {nT : Nat} {slt : Array (Option Value)}
    {f_Ratio__init__ : Addr}
    {oc_Ratio__init__ kV_Ratio__init__ doc_Ratio__init__ pm_Ratio__init__ cd_Ratio__init__ ct_Ratio__init__ : Value} {od_Ratio__init__ an_Ratio__init__ : Option Addr} {sl_Ratio__init__ : Array (Option Value)}
    {f_Ratio__add__ : Addr}
    {oc_Ratio__add__ kV_Ratio__add__ doc_Ratio__add__ pm_Ratio__add__ cd_Ratio__add__ ct_Ratio__add__ : Value} {od_Ratio__add__ an_Ratio__add__ : Option Addr} {sl_Ratio__add__ : Array (Option Value)}
    {f_Ratio__radd__ : Addr}
    {oc_Ratio__radd__ kV_Ratio__radd__ doc_Ratio__radd__ pm_Ratio__radd__ cd_Ratio__radd__ ct_Ratio__radd__ : Value} {od_Ratio__radd__ an_Ratio__radd__ : Option Addr} {sl_Ratio__radd__ : Array (Option Value)}
    {f_Ratio__sub__ : Addr}
    {oc_Ratio__sub__ kV_Ratio__sub__ doc_Ratio__sub__ pm_Ratio__sub__ cd_Ratio__sub__ ct_Ratio__sub__ : Value} {od_Ratio__sub__ an_Ratio__sub__ : Option Addr} {sl_Ratio__sub__ : Array (Option Value)}
    {f_Ratio__rsub__ : Addr}
    {oc_Ratio__rsub__ kV_Ratio__rsub__ doc_Ratio__rsub__ pm_Ratio__rsub__ cd_Ratio__rsub__ ct_Ratio__rsub__ : Value} {od_Ratio__rsub__ an_Ratio__rsub__ : Option Addr} {sl_Ratio__rsub__ : Array (Option Value)}
    {f_Ratio__mul__ : Addr}
    {oc_Ratio__mul__ kV_Ratio__mul__ doc_Ratio__mul__ pm_Ratio__mul__ cd_Ratio__mul__ ct_Ratio__mul__ : Value} {od_Ratio__mul__ an_Ratio__mul__ : Option Addr} {sl_Ratio__mul__ : Array (Option Value)}
    {f_Ratio__rmul__ : Addr}
    {oc_Ratio__rmul__ kV_Ratio__rmul__ doc_Ratio__rmul__ pm_Ratio__rmul__ cd_Ratio__rmul__ ct_Ratio__rmul__ : Value} {od_Ratio__rmul__ an_Ratio__rmul__ : Option Addr} {sl_Ratio__rmul__ : Array (Option Value)}
    {f_Ratio__neg__ : Addr}
    {oc_Ratio__neg__ kV_Ratio__neg__ doc_Ratio__neg__ pm_Ratio__neg__ cd_Ratio__neg__ ct_Ratio__neg__ : Value} {od_Ratio__neg__ an_Ratio__neg__ : Option Addr} {sl_Ratio__neg__ : Array (Option Value)}
    {f_Ratio__abs__ : Addr}
    {oc_Ratio__abs__ kV_Ratio__abs__ doc_Ratio__abs__ pm_Ratio__abs__ cd_Ratio__abs__ ct_Ratio__abs__ : Value} {od_Ratio__abs__ an_Ratio__abs__ : Option Addr} {sl_Ratio__abs__ : Array (Option Value)}
    {f_Ratio__eq__ : Addr}
    {oc_Ratio__eq__ kV_Ratio__eq__ doc_Ratio__eq__ pm_Ratio__eq__ cd_Ratio__eq__ ct_Ratio__eq__ : Value} {od_Ratio__eq__ an_Ratio__eq__ : Option Addr} {sl_Ratio__eq__ : Array (Option Value)}
    {f_Ratio__str__ : Addr}
    {oc_Ratio__str__ kV_Ratio__str__ doc_Ratio__str__ pm_Ratio__str__ cd_Ratio__str__ ct_Ratio__str__ : Value} {od_Ratio__str__ an_Ratio__str__ : Option Addr} {sl_Ratio__str__ : Array (Option Value)}
    {f_Ratiois_less : Addr}
    {oc_Ratiois_less kV_Ratiois_less doc_Ratiois_less pm_Ratiois_less cd_Ratiois_less ct_Ratiois_less : Value} {od_Ratiois_less an_Ratiois_less : Option Addr} {sl_Ratiois_less : Array (Option Value)}
    {f_Ratiodivided : Addr}
    {oc_Ratiodivided kV_Ratiodivided doc_Ratiodivided pm_Ratiodivided cd_Ratiodivided ct_Ratiodivided : Value} {od_Ratiodivided an_Ratiodivided : Option Addr} {sl_Ratiodivided : Array (Option Value)}
    {tk_BLOCK_DIGITS : Tok}
    {tk_BLOCK : Tok}
    (a_isint : PySem.W.nsIn K mainGlobals "is_int" = some (some (.ref f_isint)))
    (l_isint : K.lookup f_isint = some ⟨oc_isint, od_isint, .func (PySem.W.fnOf "is_int" "is_int" (defArgs s_isint) (defBody s_isint) (defScope s_isint) .none kV_isint doc_isint pm_isint an_isint cd_isint ct_isint), sl_isint⟩)
    (c_isint : PySem.W.codeIn K cd_isint "is_int" = true)
    (k_isint : PySem.W.keepIn K (.ref f_isint) = true)
    (a_digits : PySem.W.nsIn K mainGlobals "digits" = some (some (.ref f_digits)))
    (l_digits : K.lookup f_digits = some ⟨oc_digits, od_digits, .func (PySem.W.fnOf "digits" "digits" (defArgs s_digits) (defBody s_digits) (defScope s_digits) .none kV_digits doc_digits pm_digits an_digits cd_digits ct_digits), sl_digits⟩)
    (c_digits : PySem.W.codeIn K cd_digits "digits" = true)
    (k_digits : PySem.W.keepIn K (.ref f_digits) = true)
    (a_signeddigits : PySem.W.nsIn K mainGlobals "signed_digits" = some (some (.ref f_signeddigits)))
    (l_signeddigits : K.lookup f_signeddigits = some ⟨oc_signeddigits, od_signeddigits, .func (PySem.W.fnOf "signed_digits" "signed_digits" (defArgs s_signeddigits) (defBody s_signeddigits) (defScope s_signeddigits) .none kV_signeddigits doc_signeddigits pm_signeddigits an_signeddigits cd_signeddigits ct_signeddigits), sl_signeddigits⟩)
    (c_signeddigits : PySem.W.codeIn K cd_signeddigits "signed_digits" = true)
    (k_signeddigits : PySem.W.keepIn K (.ref f_signeddigits) = true)
    (a_ratioof : PySem.W.nsIn K mainGlobals "ratio_of" = some (some (.ref f_ratioof)))
    (l_ratioof : K.lookup f_ratioof = some ⟨oc_ratioof, od_ratioof, .func (PySem.W.fnOf "ratio_of" "ratio_of" (defArgs s_ratioof) (defBody s_ratioof) (defScope s_ratioof) .none kV_ratioof doc_ratioof pm_ratioof an_ratioof cd_ratioof ct_ratioof), sl_ratioof⟩)
    (c_ratioof : PySem.W.codeIn K cd_ratioof "ratio_of" = true)
    (k_ratioof : PySem.W.keepIn K (.ref f_ratioof) = true)
    (a_penof : PySem.W.nsIn K mainGlobals "_law_pen_of" = some (some (.ref f_penof)))
    (l_penof : K.lookup f_penof = some ⟨oc_penof, od_penof, .func (PySem.W.fnOf "_law_pen_of" "_law_pen_of" (defArgs s_penof) (defBody s_penof) (defScope s_penof) .none kV_penof doc_penof pm_penof an_penof cd_penof ct_penof), sl_penof⟩)
    (c_penof : PySem.W.codeIn K cd_penof "_law_pen_of" = true)
    (k_penof : PySem.W.keepIn K (.ref f_penof) = true)
    (a_draw : PySem.W.nsIn K mainGlobals "_law_draw" = some (some (.ref f_draw)))
    (l_draw : K.lookup f_draw = some ⟨oc_draw, od_draw, .func (PySem.W.fnOf "_law_draw" "_law_draw" (defArgs s_draw) (defBody s_draw) (defScope s_draw) .none kV_draw doc_draw pm_draw an_draw cd_draw ct_draw), sl_draw⟩)
    (c_draw : PySem.W.codeIn K cd_draw "_law_draw" = true)
    (k_draw : PySem.W.keepIn K (.ref f_draw) = true)
    (a_pick : PySem.W.nsIn K mainGlobals "_law_pick" = some (some (.ref f_pick)))
    (l_pick : K.lookup f_pick = some ⟨oc_pick, od_pick, .func (PySem.W.fnOf "_law_pick" "_law_pick" (defArgs s_pick) (defBody s_pick) (defScope s_pick) .none kV_pick doc_pick pm_pick an_pick cd_pick ct_pick), sl_pick⟩)
    (c_pick : PySem.W.codeIn K cd_pick "_law_pick" = true)
    (k_pick : PySem.W.keepIn K (.ref f_pick) = true)
    (a_numberof : PySem.W.nsIn K mainGlobals "_law_number_of" = some (some (.ref f_numberof)))
    (l_numberof : K.lookup f_numberof = some ⟨oc_numberof, od_numberof, .func (PySem.W.fnOf "_law_number_of" "_law_number_of" (defArgs s_numberof) (defBody s_numberof) (defScope s_numberof) .none kV_numberof doc_numberof pm_numberof an_numberof cd_numberof ct_numberof), sl_numberof⟩)
    (c_numberof : PySem.W.codeIn K cd_numberof "_law_number_of" = true)
    (k_numberof : PySem.W.keepIn K (.ref f_numberof) = true)
    (a_lowest : PySem.W.nsIn K mainGlobals "_law_lowest" = some (some (.ref f_lowest)))
    (l_lowest : K.lookup f_lowest = some ⟨oc_lowest, od_lowest, .func (PySem.W.fnOf "_law_lowest" "_law_lowest" (defArgs s_lowest) (defBody s_lowest) (defScope s_lowest) .none kV_lowest doc_lowest pm_lowest an_lowest cd_lowest ct_lowest), sl_lowest⟩)
    (c_lowest : PySem.W.codeIn K cd_lowest "_law_lowest" = true)
    (k_lowest : PySem.W.keepIn K (.ref f_lowest) = true)
    (a_is : PySem.W.nsIn K mainGlobals "_law_is" = some (some (.ref f_is)))
    (l_is : K.lookup f_is = some ⟨oc_is, od_is, .func (PySem.W.fnOf "_law_is" "_law_is" (defArgs s_is) (defBody s_is) (defScope s_is) .none kV_is doc_is pm_is an_is cd_is ct_is), sl_is⟩)
    (c_is : PySem.W.codeIn K cd_is "_law_is" = true)
    (k_is : PySem.W.keepIn K (.ref f_is) = true)
    (a_bad : PySem.W.nsIn K mainGlobals "_law_bad" = some (some (.ref f_bad)))
    (l_bad : K.lookup f_bad = some ⟨oc_bad, od_bad, .func (PySem.W.fnOf "_law_bad" "_law_bad" (defArgs s_bad) (defBody s_bad) (defScope s_bad) .none kV_bad doc_bad pm_bad an_bad cd_bad ct_bad), sl_bad⟩)
    (c_bad : PySem.W.codeIn K cd_bad "_law_bad" = true)
    (k_bad : PySem.W.keepIn K (.ref f_bad) = true)
    (a_pair : PySem.W.nsIn K mainGlobals "_law_pair" = some (some (.ref f_pair)))
    (l_pair : K.lookup f_pair = some ⟨oc_pair, od_pair, .func (PySem.W.fnOf "_law_pair" "_law_pair" (defArgs s_pair) (defBody s_pair) (defScope s_pair) .none kV_pair doc_pair pm_pair an_pair (.ref C_pair) ct_pair), sl_pair⟩)
    (c_pair : PySem.W.codeIn K (.ref C_pair) "_law_pair" = true)
    (k_pair : PySem.W.keepIn K (.ref f_pair) = true)
    (e_pair : K.lookup C_pair = some ⟨e1_pair, e2_pair, .fields e3_pair, e4_pair⟩)
    (v_pair : e3_pair[11]? = some (.ref P_pair))
    (r_pair : ((recsOf q).find? fun r => r.name == ("_law_pair" : Str)).isSome = true)
    (n_pair : K.lookup P_pair = none)
    (a_whole : PySem.W.nsIn K mainGlobals "_law_whole" = some (some (.ref f_whole)))
    (l_whole : K.lookup f_whole = some ⟨oc_whole, od_whole, .func (PySem.W.fnOf "_law_whole" "_law_whole" (defArgs s_whole) (defBody s_whole) (defScope s_whole) .none kV_whole doc_whole pm_whole an_whole (.ref C_whole) ct_whole), sl_whole⟩)
    (c_whole : PySem.W.codeIn K (.ref C_whole) "_law_whole" = true)
    (k_whole : PySem.W.keepIn K (.ref f_whole) = true)
    (e_whole : K.lookup C_whole = some ⟨e1_whole, e2_whole, .fields e3_whole, e4_whole⟩)
    (v_whole : e3_whole[11]? = some (.ref P_whole))
    (r_whole : ((recsOf q).find? fun r => r.name == ("_law_whole" : Str)).isSome = true)
    (n_whole : K.lookup P_whole = none)
    (a_law : PySem.W.nsIn K mainGlobals "law" = some (some (.ref f_law)))
    (l_law : K.lookup f_law = some ⟨oc_law, od_law, .func (PySem.W.fnOf "law" "law" (defArgs s_law) (defBody s_law) (defScope s_law) .none kV_law doc_law pm_law an_law (.ref C_law) ct_law), sl_law⟩)
    (c_law : PySem.W.codeIn K (.ref C_law) "law" = true)
    (k_law : PySem.W.keepIn K (.ref f_law) = true)
    (e_law : K.lookup C_law = some ⟨e1_law, e2_law, .fields e3_law, e4_law⟩)
    (v_law : e3_law[11]? = some (.ref P_law))
    (r_law : ((recsOf q).find? fun r => r.name == ("law" : Str)).isSome = true)
    (n_law : K.lookup P_law = none)
    (aJ : PySem.W.nsIn K mainGlobals "JoinsError" = some (some (.ref cj)))
    (rJ : PySem.W.readsIn K cj (.type "type") = true)
    (sJ : PySem.W.specialIn K (.ref cj) "__getattribute__" = some (some (.builtin "type.__getattribute__")))
    (vJ : PySem.W.findCls K (.ref cj) (.type "type") "__init__" = some (.val (.builtin "ValueError.__init__")))
    (iJ : PySem.W.isClsIn K cj = true)
    (tJ : PySem.W.typeIn K (.ref cj) = some (.type "type"))
    (aC_BadOver : PySem.W.nsIn K mainGlobals "BadOver" = some (some (.ref C_BadOver)))
    (xL_BadOver : K.lookup C_BadOver = some (excClassObj nm_BadOver q_BadOver C_BadOver N_BadOver bs_BadOver [.ref cj, .type "ValueError", .type "Exception", .type "BaseException", .type "object"] true sn_BadOver sub_BadOver ab_BadOver col_BadOver dd_BadOver m0_BadOver m1_BadOver m2_BadOver m3_BadOver m5_BadOver "ValueError.__new__"))
    (iI_BadOver : PySem.W.findIn K (.ref C_BadOver) "__init__" = some (some (.ref I_BadOver)))
    (eB_BadOver : errB K C_BadOver I_BadOver [] = true)
    (lI_BadOver : K.lookup I_BadOver = some ⟨oc_BadOver, od_BadOver, .func (PySem.W.fnOf "__init__" "BadOver.__init__" (defArgs s_BadOver) (defBody s_BadOver) (defScope s_BadOver) .none kV_BadOver doc_BadOver pm_BadOver an_BadOver cd_BadOver ct_BadOver), sl_BadOver⟩)
    (cI_BadOver : PySem.W.codeIn K cd_BadOver "BadOver.__init__" = true)
    (kI_BadOver : PySem.W.keepIn K (.ref I_BadOver) = true)
    (aC : PySem.W.nsIn K mainGlobals "Ratio" = some (some (.ref C)))
    (i_Ratio__init__ : PySem.W.findIn K (.ref C) "__init__" = some (some (.ref f_Ratio__init__)))
    (l_Ratio__init__ : K.lookup f_Ratio__init__ = some ⟨oc_Ratio__init__, od_Ratio__init__, .func (PySem.W.fnOf "__init__" "Ratio.__init__" (defArgs s_Ratio__init__) (defBody s_Ratio__init__) (defScope s_Ratio__init__) (.ref T0) kV_Ratio__init__ doc_Ratio__init__ pm_Ratio__init__ an_Ratio__init__ cd_Ratio__init__ ct_Ratio__init__), sl_Ratio__init__⟩)
    (c_Ratio__init__ : PySem.W.codeIn K cd_Ratio__init__ "Ratio.__init__" = true)
    (k_Ratio__init__ : PySem.W.keepIn K (.ref f_Ratio__init__) = true)
    (i_Ratio__add__ : PySem.W.findIn K (.ref C) "__add__" = some (some (.ref f_Ratio__add__)))
    (l_Ratio__add__ : K.lookup f_Ratio__add__ = some ⟨oc_Ratio__add__, od_Ratio__add__, .func (PySem.W.fnOf "__add__" "Ratio.__add__" (defArgs s_Ratio__add__) (defBody s_Ratio__add__) (defScope s_Ratio__add__) .none kV_Ratio__add__ doc_Ratio__add__ pm_Ratio__add__ an_Ratio__add__ cd_Ratio__add__ ct_Ratio__add__), sl_Ratio__add__⟩)
    (c_Ratio__add__ : PySem.W.codeIn K cd_Ratio__add__ "Ratio.__add__" = true)
    (k_Ratio__add__ : PySem.W.keepIn K (.ref f_Ratio__add__) = true)
    (i_Ratio__radd__ : PySem.W.findIn K (.ref C) "__radd__" = some (some (.ref f_Ratio__radd__)))
    (l_Ratio__radd__ : K.lookup f_Ratio__radd__ = some ⟨oc_Ratio__radd__, od_Ratio__radd__, .func (PySem.W.fnOf "__radd__" "Ratio.__radd__" (defArgs s_Ratio__radd__) (defBody s_Ratio__radd__) (defScope s_Ratio__radd__) .none kV_Ratio__radd__ doc_Ratio__radd__ pm_Ratio__radd__ an_Ratio__radd__ cd_Ratio__radd__ ct_Ratio__radd__), sl_Ratio__radd__⟩)
    (c_Ratio__radd__ : PySem.W.codeIn K cd_Ratio__radd__ "Ratio.__radd__" = true)
    (k_Ratio__radd__ : PySem.W.keepIn K (.ref f_Ratio__radd__) = true)
    (i_Ratio__sub__ : PySem.W.findIn K (.ref C) "__sub__" = some (some (.ref f_Ratio__sub__)))
    (l_Ratio__sub__ : K.lookup f_Ratio__sub__ = some ⟨oc_Ratio__sub__, od_Ratio__sub__, .func (PySem.W.fnOf "__sub__" "Ratio.__sub__" (defArgs s_Ratio__sub__) (defBody s_Ratio__sub__) (defScope s_Ratio__sub__) .none kV_Ratio__sub__ doc_Ratio__sub__ pm_Ratio__sub__ an_Ratio__sub__ cd_Ratio__sub__ ct_Ratio__sub__), sl_Ratio__sub__⟩)
    (c_Ratio__sub__ : PySem.W.codeIn K cd_Ratio__sub__ "Ratio.__sub__" = true)
    (k_Ratio__sub__ : PySem.W.keepIn K (.ref f_Ratio__sub__) = true)
    (i_Ratio__rsub__ : PySem.W.findIn K (.ref C) "__rsub__" = some (some (.ref f_Ratio__rsub__)))
    (l_Ratio__rsub__ : K.lookup f_Ratio__rsub__ = some ⟨oc_Ratio__rsub__, od_Ratio__rsub__, .func (PySem.W.fnOf "__rsub__" "Ratio.__rsub__" (defArgs s_Ratio__rsub__) (defBody s_Ratio__rsub__) (defScope s_Ratio__rsub__) .none kV_Ratio__rsub__ doc_Ratio__rsub__ pm_Ratio__rsub__ an_Ratio__rsub__ cd_Ratio__rsub__ ct_Ratio__rsub__), sl_Ratio__rsub__⟩)
    (c_Ratio__rsub__ : PySem.W.codeIn K cd_Ratio__rsub__ "Ratio.__rsub__" = true)
    (k_Ratio__rsub__ : PySem.W.keepIn K (.ref f_Ratio__rsub__) = true)
    (i_Ratio__mul__ : PySem.W.findIn K (.ref C) "__mul__" = some (some (.ref f_Ratio__mul__)))
    (l_Ratio__mul__ : K.lookup f_Ratio__mul__ = some ⟨oc_Ratio__mul__, od_Ratio__mul__, .func (PySem.W.fnOf "__mul__" "Ratio.__mul__" (defArgs s_Ratio__mul__) (defBody s_Ratio__mul__) (defScope s_Ratio__mul__) .none kV_Ratio__mul__ doc_Ratio__mul__ pm_Ratio__mul__ an_Ratio__mul__ cd_Ratio__mul__ ct_Ratio__mul__), sl_Ratio__mul__⟩)
    (c_Ratio__mul__ : PySem.W.codeIn K cd_Ratio__mul__ "Ratio.__mul__" = true)
    (k_Ratio__mul__ : PySem.W.keepIn K (.ref f_Ratio__mul__) = true)
    (i_Ratio__rmul__ : PySem.W.findIn K (.ref C) "__rmul__" = some (some (.ref f_Ratio__rmul__)))
    (l_Ratio__rmul__ : K.lookup f_Ratio__rmul__ = some ⟨oc_Ratio__rmul__, od_Ratio__rmul__, .func (PySem.W.fnOf "__rmul__" "Ratio.__rmul__" (defArgs s_Ratio__rmul__) (defBody s_Ratio__rmul__) (defScope s_Ratio__rmul__) .none kV_Ratio__rmul__ doc_Ratio__rmul__ pm_Ratio__rmul__ an_Ratio__rmul__ cd_Ratio__rmul__ ct_Ratio__rmul__), sl_Ratio__rmul__⟩)
    (c_Ratio__rmul__ : PySem.W.codeIn K cd_Ratio__rmul__ "Ratio.__rmul__" = true)
    (k_Ratio__rmul__ : PySem.W.keepIn K (.ref f_Ratio__rmul__) = true)
    (i_Ratio__neg__ : PySem.W.findIn K (.ref C) "__neg__" = some (some (.ref f_Ratio__neg__)))
    (l_Ratio__neg__ : K.lookup f_Ratio__neg__ = some ⟨oc_Ratio__neg__, od_Ratio__neg__, .func (PySem.W.fnOf "__neg__" "Ratio.__neg__" (defArgs s_Ratio__neg__) (defBody s_Ratio__neg__) (defScope s_Ratio__neg__) .none kV_Ratio__neg__ doc_Ratio__neg__ pm_Ratio__neg__ an_Ratio__neg__ cd_Ratio__neg__ ct_Ratio__neg__), sl_Ratio__neg__⟩)
    (c_Ratio__neg__ : PySem.W.codeIn K cd_Ratio__neg__ "Ratio.__neg__" = true)
    (k_Ratio__neg__ : PySem.W.keepIn K (.ref f_Ratio__neg__) = true)
    (i_Ratio__abs__ : PySem.W.findIn K (.ref C) "__abs__" = some (some (.ref f_Ratio__abs__)))
    (l_Ratio__abs__ : K.lookup f_Ratio__abs__ = some ⟨oc_Ratio__abs__, od_Ratio__abs__, .func (PySem.W.fnOf "__abs__" "Ratio.__abs__" (defArgs s_Ratio__abs__) (defBody s_Ratio__abs__) (defScope s_Ratio__abs__) .none kV_Ratio__abs__ doc_Ratio__abs__ pm_Ratio__abs__ an_Ratio__abs__ cd_Ratio__abs__ ct_Ratio__abs__), sl_Ratio__abs__⟩)
    (c_Ratio__abs__ : PySem.W.codeIn K cd_Ratio__abs__ "Ratio.__abs__" = true)
    (k_Ratio__abs__ : PySem.W.keepIn K (.ref f_Ratio__abs__) = true)
    (i_Ratio__eq__ : PySem.W.findIn K (.ref C) "__eq__" = some (some (.ref f_Ratio__eq__)))
    (l_Ratio__eq__ : K.lookup f_Ratio__eq__ = some ⟨oc_Ratio__eq__, od_Ratio__eq__, .func (PySem.W.fnOf "__eq__" "Ratio.__eq__" (defArgs s_Ratio__eq__) (defBody s_Ratio__eq__) (defScope s_Ratio__eq__) .none kV_Ratio__eq__ doc_Ratio__eq__ pm_Ratio__eq__ an_Ratio__eq__ cd_Ratio__eq__ ct_Ratio__eq__), sl_Ratio__eq__⟩)
    (c_Ratio__eq__ : PySem.W.codeIn K cd_Ratio__eq__ "Ratio.__eq__" = true)
    (k_Ratio__eq__ : PySem.W.keepIn K (.ref f_Ratio__eq__) = true)
    (i_Ratio__str__ : PySem.W.findIn K (.ref C) "__str__" = some (some (.ref f_Ratio__str__)))
    (l_Ratio__str__ : K.lookup f_Ratio__str__ = some ⟨oc_Ratio__str__, od_Ratio__str__, .func (PySem.W.fnOf "__str__" "Ratio.__str__" (defArgs s_Ratio__str__) (defBody s_Ratio__str__) (defScope s_Ratio__str__) .none kV_Ratio__str__ doc_Ratio__str__ pm_Ratio__str__ an_Ratio__str__ cd_Ratio__str__ ct_Ratio__str__), sl_Ratio__str__⟩)
    (c_Ratio__str__ : PySem.W.codeIn K cd_Ratio__str__ "Ratio.__str__" = true)
    (k_Ratio__str__ : PySem.W.keepIn K (.ref f_Ratio__str__) = true)
    (i_Ratiois_less : PySem.W.findIn K (.ref C) "is_less" = some (some (.ref f_Ratiois_less)))
    (l_Ratiois_less : K.lookup f_Ratiois_less = some ⟨oc_Ratiois_less, od_Ratiois_less, .func (PySem.W.fnOf "is_less" "Ratio.is_less" (defArgs s_Ratiois_less) (defBody s_Ratiois_less) (defScope s_Ratiois_less) .none kV_Ratiois_less doc_Ratiois_less pm_Ratiois_less an_Ratiois_less cd_Ratiois_less ct_Ratiois_less), sl_Ratiois_less⟩)
    (c_Ratiois_less : PySem.W.codeIn K cd_Ratiois_less "Ratio.is_less" = true)
    (k_Ratiois_less : PySem.W.keepIn K (.ref f_Ratiois_less) = true)
    (i_Ratiodivided : PySem.W.findIn K (.ref C) "divided" = some (some (.ref f_Ratiodivided)))
    (l_Ratiodivided : K.lookup f_Ratiodivided = some ⟨oc_Ratiodivided, od_Ratiodivided, .func (PySem.W.fnOf "divided" "Ratio.divided" (defArgs s_Ratiodivided) (defBody s_Ratiodivided) (defScope s_Ratiodivided) .none kV_Ratiodivided doc_Ratiodivided pm_Ratiodivided an_Ratiodivided cd_Ratiodivided ct_Ratiodivided), sl_Ratiodivided⟩)
    (c_Ratiodivided : PySem.W.codeIn K cd_Ratiodivided "Ratio.divided" = true)
    (k_Ratiodivided : PySem.W.keepIn K (.ref f_Ratiodivided) = true)
    (lT : K.lookup T0 = some ⟨ot, odt, .seq #[.int 1 tkT] nT, slt⟩)
    (rB : ratioB K C f_Ratio__init__ = true)
    (oB_add : binB K C f_Ratio__add__ f_Ratio__radd__ "__add__" "__radd__" = true)
    (oB_sub : binB K C f_Ratio__sub__ f_Ratio__rsub__ "__sub__" "__rsub__" = true)
    (oB_mul : binB K C f_Ratio__mul__ f_Ratio__rmul__ "__mul__" "__rmul__" = true)
    (fn_neg : PySem.W.isFn K (.ref f_Ratio__neg__) = true)
    (fn_abs : PySem.W.isFn K (.ref f_Ratio__abs__) = true)
    (fn_eq : PySem.W.isFn K (.ref f_Ratio__eq__) = true)
    (fn_str : PySem.W.isFn K (.ref f_Ratio__str__) = true)
    (oNe : PySem.W.findIn K (.ref C) "__ne__" = some (some (.builtin "object.__ne__")))
    (oS0 : PySem.W.subIn K (.ref C) (.type "object") = some true)
    (oNf : PySem.W.notFirst K C (.ref C) = true)
    (oNi : PySem.W.notFirst K C (.type "int") = true)
    (fn_is_less : PySem.W.isFn K (.ref f_Ratiois_less) = true)
    (fn_divided : PySem.W.isFn K (.ref f_Ratiodivided) = true)
    (d1 : P_pair ≠ P_whole)
    (d2 : P_pair ≠ P_law)
    (d3 : P_whole ≠ P_law)
    (q_gcd : PySem.W.nsIn K mainGlobals "gcd" = some (some (.builtin "math.gcd")))
    (q_BLOCK_DIGITS : PySem.W.nsIn K mainGlobals "BLOCK_DIGITS" = some (some (.int (64) tk_BLOCK_DIGITS)))
    (q_BLOCK : PySem.W.nsIn K mainGlobals "BLOCK" = some (some (.int (10000000000000000000000000000000000000000000000000000000000000000) tk_BLOCK)))
    (z_NotImplemented : PySem.W.nsIn K mainGlobals "NotImplemented" = some none)
    (z_ValueError : PySem.W.nsIn K mainGlobals "ValueError" = some none)
    (z_abs : PySem.W.nsIn K mainGlobals "abs" = some none)
    (z_all : PySem.W.nsIn K mainGlobals "all" = some none)
    (z_bool : PySem.W.nsIn K mainGlobals "bool" = some none)
    (z_divmod : PySem.W.nsIn K mainGlobals "divmod" = some none)
    (z_int : PySem.W.nsIn K mainGlobals "int" = some none)
    (z_isinstance : PySem.W.nsIn K mainGlobals "isinstance" = some none)
    (z_len : PySem.W.nsIn K mainGlobals "len" = some none)
    (z_list : PySem.W.nsIn K mainGlobals "list" = some none)
    (z_range : PySem.W.nsIn K mainGlobals "range" = some none)
    (z_reversed : PySem.W.nsIn K mainGlobals "reversed" = some none)
    (z_str : PySem.W.nsIn K mainGlobals "str" = some none) :
    LawAtS l w K CX0 10 63 "_law_script" mg fa h := by
  have e := hfa.symm.trans (PySem.W.mg_of X G a_law)
  cases e
  have t_pair : PySem.W.tabIn K "_law_pair" = some (C_pair, P_pair) := tab_mk a_pair l_pair rfl e_pair v_pair
  have t_whole : PySem.W.tabIn K "_law_whole" = some (C_whole, P_whole) := tab_mk a_whole l_whole rfl e_whole v_whole
  have t_law : PySem.W.tabIn K "law" = some (C_law, P_law) := tab_mk a_law l_law rfl e_law v_law
  have FD : FunD K "__init__" "Ratio.__init__" (defArgs s_Ratio__init__) (defBody s_Ratio__init__) (defScope s_Ratio__init__) [.int 1] [] f_Ratio__init__ (PySem.W.fnOf "__init__" "Ratio.__init__" (defArgs s_Ratio__init__) (defBody s_Ratio__init__) (defScope s_Ratio__init__) (.ref T0) kV_Ratio__init__ doc_Ratio__init__ pm_Ratio__init__ an_Ratio__init__ cd_Ratio__init__ ct_Ratio__init__) :=
    ⟨⟨_, _, _, _, _, _, _, _, _, _, rfl, l_Ratio__init__, c_Ratio__init__, .inr ⟨by simp, T0, _, [.int 1 tkT], nT, rfl, lT, rfl, .cons ⟨_, rfl⟩ .nil⟩, .inl rfl⟩, k_Ratio__init__⟩
  have B1 : ∃ ds, Vals [V.int 1] ds ∧ Binds K (PySem.W.fnOf "__init__" "Ratio.__init__" (defArgs s_Ratio__init__) (defBody s_Ratio__init__) (defScope s_Ratio__init__) (.ref T0) kV_Ratio__init__ doc_Ratio__init__ pm_Ratio__init__ an_Ratio__init__ cd_Ratio__init__ ct_Ratio__init__) ["self", "number", "over"] ds :=
    FD.binds1 2 0 (by simp) rfl fun T kV doc pm an cdv ct us its h1 h2 => match us, its, h1, h2 with | [_, _], [_], _, _ => ⟨_, rfl, rfl⟩
  have B2 : Binds K (PySem.W.fnOf "__init__" "Ratio.__init__" (defArgs s_Ratio__init__) (defBody s_Ratio__init__) (defScope s_Ratio__init__) (.ref T0) kV_Ratio__init__ doc_Ratio__init__ pm_Ratio__init__ an_Ratio__init__ cd_Ratio__init__ ct_Ratio__init__) ["self", "number", "over"] [] := by
    obtain ⟨ds, r, b⟩ := FD.binds1 (ps := ["self", "number", "over"]) 3 1 (by simp) rfl fun T kV doc pm an cdv ct us its h1 h2 => match us, its, h1, h2 with | [_, _, _], [_], _, _ => ⟨_, rfl, rfl⟩
    cases r
    exact b
  have T : Txt K mg { cj := cj, a_isint := f_isint, d_isint := PySem.W.fnOf "is_int" "is_int" (defArgs s_isint) (defBody s_isint) (defScope s_isint) .none kV_isint doc_isint pm_isint an_isint cd_isint ct_isint, a_digits := f_digits, d_digits := PySem.W.fnOf "digits" "digits" (defArgs s_digits) (defBody s_digits) (defScope s_digits) .none kV_digits doc_digits pm_digits an_digits cd_digits ct_digits, a_signeddigits := f_signeddigits, d_signeddigits := PySem.W.fnOf "signed_digits" "signed_digits" (defArgs s_signeddigits) (defBody s_signeddigits) (defScope s_signeddigits) .none kV_signeddigits doc_signeddigits pm_signeddigits an_signeddigits cd_signeddigits ct_signeddigits, a_ratioof := f_ratioof, d_ratioof := PySem.W.fnOf "ratio_of" "ratio_of" (defArgs s_ratioof) (defBody s_ratioof) (defScope s_ratioof) .none kV_ratioof doc_ratioof pm_ratioof an_ratioof cd_ratioof ct_ratioof, a_penof := f_penof, d_penof := PySem.W.fnOf "_law_pen_of" "_law_pen_of" (defArgs s_penof) (defBody s_penof) (defScope s_penof) .none kV_penof doc_penof pm_penof an_penof cd_penof ct_penof, a_draw := f_draw, d_draw := PySem.W.fnOf "_law_draw" "_law_draw" (defArgs s_draw) (defBody s_draw) (defScope s_draw) .none kV_draw doc_draw pm_draw an_draw cd_draw ct_draw, a_pick := f_pick, d_pick := PySem.W.fnOf "_law_pick" "_law_pick" (defArgs s_pick) (defBody s_pick) (defScope s_pick) .none kV_pick doc_pick pm_pick an_pick cd_pick ct_pick, a_numberof := f_numberof, d_numberof := PySem.W.fnOf "_law_number_of" "_law_number_of" (defArgs s_numberof) (defBody s_numberof) (defScope s_numberof) .none kV_numberof doc_numberof pm_numberof an_numberof cd_numberof ct_numberof, a_lowest := f_lowest, d_lowest := PySem.W.fnOf "_law_lowest" "_law_lowest" (defArgs s_lowest) (defBody s_lowest) (defScope s_lowest) .none kV_lowest doc_lowest pm_lowest an_lowest cd_lowest ct_lowest, a_is := f_is, d_is := PySem.W.fnOf "_law_is" "_law_is" (defArgs s_is) (defBody s_is) (defScope s_is) .none kV_is doc_is pm_is an_is cd_is ct_is, a_bad := f_bad, d_bad := PySem.W.fnOf "_law_bad" "_law_bad" (defArgs s_bad) (defBody s_bad) (defScope s_bad) .none kV_bad doc_bad pm_bad an_bad cd_bad ct_bad, a_pair := f_pair, d_pair := PySem.W.fnOf "_law_pair" "_law_pair" (defArgs s_pair) (defBody s_pair) (defScope s_pair) .none kV_pair doc_pair pm_pair an_pair (.ref C_pair) ct_pair, k_pair := C_pair, p_pair := P_pair, a_whole := f_whole, d_whole := PySem.W.fnOf "_law_whole" "_law_whole" (defArgs s_whole) (defBody s_whole) (defScope s_whole) .none kV_whole doc_whole pm_whole an_whole (.ref C_whole) ct_whole, k_whole := C_whole, p_whole := P_whole, a_law := fa, d_law := PySem.W.fnOf "law" "law" (defArgs s_law) (defBody s_law) (defScope s_law) .none kV_law doc_law pm_law an_law (.ref C_law) ct_law, k_law := C_law, p_law := P_law, c_BadOver := C_BadOver, i_BadOver := I_BadOver, d_BadOver := PySem.W.fnOf "__init__" "BadOver.__init__" (defArgs s_BadOver) (defBody s_BadOver) (defScope s_BadOver) .none kV_BadOver doc_BadOver pm_BadOver an_BadOver cd_BadOver ct_BadOver, c_Ratio := C, a_Ratio__init__ := f_Ratio__init__, d_Ratio__init__ := PySem.W.fnOf "__init__" "Ratio.__init__" (defArgs s_Ratio__init__) (defBody s_Ratio__init__) (defScope s_Ratio__init__) (.ref T0) kV_Ratio__init__ doc_Ratio__init__ pm_Ratio__init__ an_Ratio__init__ cd_Ratio__init__ ct_Ratio__init__, a_Ratio__add__ := f_Ratio__add__, d_Ratio__add__ := PySem.W.fnOf "__add__" "Ratio.__add__" (defArgs s_Ratio__add__) (defBody s_Ratio__add__) (defScope s_Ratio__add__) .none kV_Ratio__add__ doc_Ratio__add__ pm_Ratio__add__ an_Ratio__add__ cd_Ratio__add__ ct_Ratio__add__, a_Ratio__radd__ := f_Ratio__radd__, d_Ratio__radd__ := PySem.W.fnOf "__radd__" "Ratio.__radd__" (defArgs s_Ratio__radd__) (defBody s_Ratio__radd__) (defScope s_Ratio__radd__) .none kV_Ratio__radd__ doc_Ratio__radd__ pm_Ratio__radd__ an_Ratio__radd__ cd_Ratio__radd__ ct_Ratio__radd__, a_Ratio__sub__ := f_Ratio__sub__, d_Ratio__sub__ := PySem.W.fnOf "__sub__" "Ratio.__sub__" (defArgs s_Ratio__sub__) (defBody s_Ratio__sub__) (defScope s_Ratio__sub__) .none kV_Ratio__sub__ doc_Ratio__sub__ pm_Ratio__sub__ an_Ratio__sub__ cd_Ratio__sub__ ct_Ratio__sub__, a_Ratio__rsub__ := f_Ratio__rsub__, d_Ratio__rsub__ := PySem.W.fnOf "__rsub__" "Ratio.__rsub__" (defArgs s_Ratio__rsub__) (defBody s_Ratio__rsub__) (defScope s_Ratio__rsub__) .none kV_Ratio__rsub__ doc_Ratio__rsub__ pm_Ratio__rsub__ an_Ratio__rsub__ cd_Ratio__rsub__ ct_Ratio__rsub__, a_Ratio__mul__ := f_Ratio__mul__, d_Ratio__mul__ := PySem.W.fnOf "__mul__" "Ratio.__mul__" (defArgs s_Ratio__mul__) (defBody s_Ratio__mul__) (defScope s_Ratio__mul__) .none kV_Ratio__mul__ doc_Ratio__mul__ pm_Ratio__mul__ an_Ratio__mul__ cd_Ratio__mul__ ct_Ratio__mul__, a_Ratio__rmul__ := f_Ratio__rmul__, d_Ratio__rmul__ := PySem.W.fnOf "__rmul__" "Ratio.__rmul__" (defArgs s_Ratio__rmul__) (defBody s_Ratio__rmul__) (defScope s_Ratio__rmul__) .none kV_Ratio__rmul__ doc_Ratio__rmul__ pm_Ratio__rmul__ an_Ratio__rmul__ cd_Ratio__rmul__ ct_Ratio__rmul__, a_Ratio__neg__ := f_Ratio__neg__, d_Ratio__neg__ := PySem.W.fnOf "__neg__" "Ratio.__neg__" (defArgs s_Ratio__neg__) (defBody s_Ratio__neg__) (defScope s_Ratio__neg__) .none kV_Ratio__neg__ doc_Ratio__neg__ pm_Ratio__neg__ an_Ratio__neg__ cd_Ratio__neg__ ct_Ratio__neg__, a_Ratio__abs__ := f_Ratio__abs__, d_Ratio__abs__ := PySem.W.fnOf "__abs__" "Ratio.__abs__" (defArgs s_Ratio__abs__) (defBody s_Ratio__abs__) (defScope s_Ratio__abs__) .none kV_Ratio__abs__ doc_Ratio__abs__ pm_Ratio__abs__ an_Ratio__abs__ cd_Ratio__abs__ ct_Ratio__abs__, a_Ratio__eq__ := f_Ratio__eq__, d_Ratio__eq__ := PySem.W.fnOf "__eq__" "Ratio.__eq__" (defArgs s_Ratio__eq__) (defBody s_Ratio__eq__) (defScope s_Ratio__eq__) .none kV_Ratio__eq__ doc_Ratio__eq__ pm_Ratio__eq__ an_Ratio__eq__ cd_Ratio__eq__ ct_Ratio__eq__, a_Ratio__str__ := f_Ratio__str__, d_Ratio__str__ := PySem.W.fnOf "__str__" "Ratio.__str__" (defArgs s_Ratio__str__) (defBody s_Ratio__str__) (defScope s_Ratio__str__) .none kV_Ratio__str__ doc_Ratio__str__ pm_Ratio__str__ an_Ratio__str__ cd_Ratio__str__ ct_Ratio__str__, a_Ratiois_less := f_Ratiois_less, d_Ratiois_less := PySem.W.fnOf "is_less" "Ratio.is_less" (defArgs s_Ratiois_less) (defBody s_Ratiois_less) (defScope s_Ratiois_less) .none kV_Ratiois_less doc_Ratiois_less pm_Ratiois_less an_Ratiois_less cd_Ratiois_less ct_Ratiois_less, a_Ratiodivided := f_Ratiodivided, d_Ratiodivided := PySem.W.fnOf "divided" "Ratio.divided" (defArgs s_Ratiodivided) (defBody s_Ratiodivided) (defScope s_Ratiodivided) .none kV_Ratiodivided doc_Ratiodivided pm_Ratiodivided an_Ratiodivided cd_Ratiodivided ct_Ratiodivided } := { F_isint := (fun_mk l_isint c_isint k_isint), g_isint := (PySem.W.mg_of X G a_isint), b_isint := ((fun_mk (st := s_isint) l_isint c_isint k_isint).binds fun _ _ _ _ _ _ us hl => match us, hl with | [_], _ => rfl), F_digits := (fun_mk l_digits c_digits k_digits), g_digits := (PySem.W.mg_of X G a_digits), b_digits := ((fun_mk (st := s_digits) l_digits c_digits k_digits).binds fun _ _ _ _ _ _ us hl => match us, hl with | [_], _ => rfl), F_signeddigits := (fun_mk l_signeddigits c_signeddigits k_signeddigits), g_signeddigits := (PySem.W.mg_of X G a_signeddigits), b_signeddigits := ((fun_mk (st := s_signeddigits) l_signeddigits c_signeddigits k_signeddigits).binds fun _ _ _ _ _ _ us hl => match us, hl with | [_], _ => rfl), F_ratioof := (fun_mk l_ratioof c_ratioof k_ratioof), g_ratioof := (PySem.W.mg_of X G a_ratioof), b_ratioof := ((fun_mk (st := s_ratioof) l_ratioof c_ratioof k_ratioof).binds fun _ _ _ _ _ _ us hl => match us, hl with | [_], _ => rfl), F_penof := (fun_mk l_penof c_penof k_penof), g_penof := (PySem.W.mg_of X G a_penof), b_penof := ((fun_mk (st := s_penof) l_penof c_penof k_penof).binds fun _ _ _ _ _ _ us hl => match us, hl with | [_], _ => rfl), F_draw := (fun_mk l_draw c_draw k_draw), g_draw := (PySem.W.mg_of X G a_draw), b_draw := ((fun_mk (st := s_draw) l_draw c_draw k_draw).binds fun _ _ _ _ _ _ us hl => match us, hl with | [_, _], _ => rfl), F_pick := (fun_mk l_pick c_pick k_pick), g_pick := (PySem.W.mg_of X G a_pick), b_pick := ((fun_mk (st := s_pick) l_pick c_pick k_pick).binds fun _ _ _ _ _ _ us hl => match us, hl with | [_, _], _ => rfl), F_numberof := (fun_mk l_numberof c_numberof k_numberof), g_numberof := (PySem.W.mg_of X G a_numberof), b_numberof := ((fun_mk (st := s_numberof) l_numberof c_numberof k_numberof).binds fun _ _ _ _ _ _ us hl => match us, hl with | [_], _ => rfl), F_lowest := (fun_mk l_lowest c_lowest k_lowest), g_lowest := (PySem.W.mg_of X G a_lowest), b_lowest := ((fun_mk (st := s_lowest) l_lowest c_lowest k_lowest).binds fun _ _ _ _ _ _ us hl => match us, hl with | [_, _], _ => rfl), F_is := (fun_mk l_is c_is k_is), g_is := (PySem.W.mg_of X G a_is), b_is := ((fun_mk (st := s_is) l_is c_is k_is).binds fun _ _ _ _ _ _ us hl => match us, hl with | [_, _, _], _ => rfl), F_bad := (fun_mk l_bad c_bad k_bad), g_bad := (PySem.W.mg_of X G a_bad), b_bad := ((fun_mk (st := s_bad) l_bad c_bad k_bad).binds fun _ _ _ _ _ _ us hl => match us, hl with | [_], _ => rfl), F_pair := (func_mk l_pair c_pair k_pair), g_pair := (PySem.W.mg_of X G a_pair), b_pair := ((func_mk (st := s_pair) l_pair c_pair k_pair).fn.binds fun _ _ _ _ _ _ us hl => match us, hl with | [_, _, _, _, _, _], _ => rfl), F_whole := (func_mk l_whole c_whole k_whole), g_whole := (PySem.W.mg_of X G a_whole), b_whole := ((func_mk (st := s_whole) l_whole c_whole k_whole).fn.binds fun _ _ _ _ _ _ us hl => match us, hl with | [_, _, _, _], _ => rfl), F_law := (func_mk l_law c_law k_law), g_law := (PySem.W.mg_of X G a_law), b_law := ((func_mk (st := s_law) l_law c_law k_law).fn.binds fun _ _ _ _ _ _ us hl => match us, hl with | [_], _ => rfl), E_BadOver := (ec_mk X G aC_BadOver xL_BadOver eB_BadOver lI_BadOver cI_BadOver kI_BadOver ⟨fun s us ws _ h1 h2 => match us, ws, h1, h2 with | [_], [], _, _ => .of_eq rfl, fun r _ => r⟩ ((fun_mk (st := s_BadOver) lI_BadOver cI_BadOver kI_BadOver).binds fun _ _ _ _ _ _ us hl => match us, hl with | [_], _ => rfl)), B := (⟨rJ, sJ, vJ⟩), gj := (PySem.W.mg_of X G aJ), cj := (iJ), tj := (tJ), g_Ratio := (PySem.W.mg_of X G aC), F_Ratio__add__ := (fun_mk l_Ratio__add__ c_Ratio__add__ k_Ratio__add__), b_Ratio__add__ := ((fun_mk (st := s_Ratio__add__) l_Ratio__add__ c_Ratio__add__ k_Ratio__add__).binds fun _ _ _ _ _ _ us hl => match us, hl with | [_, _], _ => rfl), F_Ratio__radd__ := (fun_mk l_Ratio__radd__ c_Ratio__radd__ k_Ratio__radd__), b_Ratio__radd__ := ((fun_mk (st := s_Ratio__radd__) l_Ratio__radd__ c_Ratio__radd__ k_Ratio__radd__).binds fun _ _ _ _ _ _ us hl => match us, hl with | [_, _], _ => rfl), F_Ratio__sub__ := (fun_mk l_Ratio__sub__ c_Ratio__sub__ k_Ratio__sub__), b_Ratio__sub__ := ((fun_mk (st := s_Ratio__sub__) l_Ratio__sub__ c_Ratio__sub__ k_Ratio__sub__).binds fun _ _ _ _ _ _ us hl => match us, hl with | [_, _], _ => rfl), F_Ratio__rsub__ := (fun_mk l_Ratio__rsub__ c_Ratio__rsub__ k_Ratio__rsub__), b_Ratio__rsub__ := ((fun_mk (st := s_Ratio__rsub__) l_Ratio__rsub__ c_Ratio__rsub__ k_Ratio__rsub__).binds fun _ _ _ _ _ _ us hl => match us, hl with | [_, _], _ => rfl), F_Ratio__mul__ := (fun_mk l_Ratio__mul__ c_Ratio__mul__ k_Ratio__mul__), b_Ratio__mul__ := ((fun_mk (st := s_Ratio__mul__) l_Ratio__mul__ c_Ratio__mul__ k_Ratio__mul__).binds fun _ _ _ _ _ _ us hl => match us, hl with | [_, _], _ => rfl), F_Ratio__rmul__ := (fun_mk l_Ratio__rmul__ c_Ratio__rmul__ k_Ratio__rmul__), b_Ratio__rmul__ := ((fun_mk (st := s_Ratio__rmul__) l_Ratio__rmul__ c_Ratio__rmul__ k_Ratio__rmul__).binds fun _ _ _ _ _ _ us hl => match us, hl with | [_, _], _ => rfl), F_Ratio__neg__ := (fun_mk l_Ratio__neg__ c_Ratio__neg__ k_Ratio__neg__), b_Ratio__neg__ := ((fun_mk (st := s_Ratio__neg__) l_Ratio__neg__ c_Ratio__neg__ k_Ratio__neg__).binds fun _ _ _ _ _ _ us hl => match us, hl with | [_], _ => rfl), F_Ratio__abs__ := (fun_mk l_Ratio__abs__ c_Ratio__abs__ k_Ratio__abs__), b_Ratio__abs__ := ((fun_mk (st := s_Ratio__abs__) l_Ratio__abs__ c_Ratio__abs__ k_Ratio__abs__).binds fun _ _ _ _ _ _ us hl => match us, hl with | [_], _ => rfl), F_Ratio__eq__ := (fun_mk l_Ratio__eq__ c_Ratio__eq__ k_Ratio__eq__), b_Ratio__eq__ := ((fun_mk (st := s_Ratio__eq__) l_Ratio__eq__ c_Ratio__eq__ k_Ratio__eq__).binds fun _ _ _ _ _ _ us hl => match us, hl with | [_, _], _ => rfl), F_Ratio__str__ := (fun_mk l_Ratio__str__ c_Ratio__str__ k_Ratio__str__), b_Ratio__str__ := ((fun_mk (st := s_Ratio__str__) l_Ratio__str__ c_Ratio__str__ k_Ratio__str__).binds fun _ _ _ _ _ _ us hl => match us, hl with | [_], _ => rfl), F_Ratiois_less := (fun_mk l_Ratiois_less c_Ratiois_less k_Ratiois_less), b_Ratiois_less := ((fun_mk (st := s_Ratiois_less) l_Ratiois_less c_Ratiois_less k_Ratiois_less).binds fun _ _ _ _ _ _ us hl => match us, hl with | [_, _], _ => rfl), F_Ratiodivided := (fun_mk l_Ratiodivided c_Ratiodivided k_Ratiodivided), b_Ratiodivided := ((fun_mk (st := s_Ratiodivided) l_Ratiodivided c_Ratiodivided k_Ratiodivided).binds fun _ _ _ _ _ _ us hl => match us, hl with | [_, _], _ => rfl), Ro := (rc_mk rB), o_add := (bin_mk oB_add), o_sub := (bin_mk oB_sub), o_mul := (bin_mk oB_mul), o_neg := (i_Ratio__neg__), n_neg := (fn_neg), o_abs := (i_Ratio__abs__), n_abs := (fn_abs), o_eq := (i_Ratio__eq__), n_eq := (fn_eq), o_str := (i_Ratio__str__), n_str := (fn_str), o_ne := (oNe), o_sub0 := (oS0), nfc := (oNf), nfi := (oNi), M_is_less := (⟨i_Ratiois_less, fn_is_less, k_Ratiois_less⟩), M_divided := (⟨i_Ratiodivided, fn_divided, k_Ratiodivided⟩), p1 := (d1), p2 := (d2), p3 := (d3), z_gcd := (PySem.W.mg_of X G q_gcd), k_BLOCK_DIGITS := (⟨_, PySem.W.mg_of X G q_BLOCK_DIGITS⟩), k_BLOCK := (⟨_, PySem.W.mg_of X G q_BLOCK⟩), z_NotImplemented := (PySem.W.mg_none_of X G z_NotImplemented), z_ValueError := (PySem.W.mg_none_of X G z_ValueError), z_abs := (PySem.W.mg_none_of X G z_abs), z_all := (PySem.W.mg_none_of X G z_all), z_bool := (PySem.W.mg_none_of X G z_bool), z_divmod := (PySem.W.mg_none_of X G z_divmod), z_int := (PySem.W.mg_none_of X G z_int), z_isinstance := (PySem.W.mg_none_of X G z_isinstance), z_len := (PySem.W.mg_none_of X G z_len), z_list := (PySem.W.mg_none_of X G z_list), z_range := (PySem.W.mg_none_of X G z_range), z_reversed := (PySem.W.mg_none_of X G z_reversed), z_str := (PySem.W.mg_none_of X G z_str), F_Ratio__init__ := (FD), b_init1 := (B1), b_init2 := (B2) }
  refine ⟨_, [(C_pair, P_pair), (C_whole, P_whole), (C_law, P_law)], spLaw K _, fun p hp => ?_, fun p hp => ?_, fun p hp => ?_, fun s u => .of_eq rfl, fun H a ns hl _ hH hS => ⟨a, ns, rfl, hS, hl, fun p hp => ?_, fun _ => rfl⟩, fun base _ _ tb => ok_law T (tb (C_pair, P_pair) (by simp)) (tb (C_whole, P_whole) (by simp)) (tb (C_law, P_law) (by simp))⟩
  · simp only [List.mem_cons, List.not_mem_nil, or_false] at hp
    rcases hp with rfl | rfl | rfl
    · exact (TF _ _ _ r_pair t_pair).2
    · exact (TF _ _ _ r_whole t_whole).2
    · exact (TF _ _ _ r_law t_law).2
  · simp only [List.mem_cons, List.not_mem_nil, or_false] at hp
    rcases hp with rfl | rfl | rfl
    · exact n_pair
    · exact n_whole
    · exact n_law
  · simp only [List.mem_cons, List.not_mem_nil, or_false] at hp
    rcases hp with rfl | rfl | rfl
    · exact (TF _ _ _ r_pair t_pair).1
    · exact (TF _ _ _ r_whole t_whole).1
    · exact (TF _ _ _ r_law t_law).1
  · unfold TL at hp
    simp only [List.mem_cons, List.not_mem_nil, or_false] at hp
    rcases hp with rfl | rfl | rfl
    · exact TabS.nil (hH (C_pair, P_pair) (by simp))
    · exact TabS.nil (hH (C_whole, P_whole) (by simp))
    · exact TabS.nil (hH (C_law, P_law) (by simp))
end
end Z

set_option Elab.async false
open PySem PySem.W PyProof.Rows
set_option maxRecDepth 100000
set_option maxHeartbeats 0
open_top k35head for PySem.Challenge.rw_leastjoined_k35_ratios

open PySem PySem.W PyProof.Rows
set_option Elab.async false
set_option maxRecDepth 100000
set_option maxHeartbeats 0
theorem PySem.Challenge.cw_leastjoined_k35_ratios_holds : PySem.Challenge.rw_leastjoined_k35_ratios.Holds := by
  refine k35head ?_
  k_fill
  refine XV.walk_ofTab (l := PySem.Challenge.rw_leastjoined_k35_ratios) (n := 63) (k := 10) (x := "_law_script") (CX := fun _ => L2.CX0) rfl (by decide) rfl ⟨rfl, by decide, by decide⟩ (fun w h Y => PySem.W.km_in_of Y) ?F ?hCX
  case hCX => intro w H s e s' h; exact h
  case F =>
    intro w mg fa h TF Y KX G hmg
    refine' Z.all_mk TF KX G hmg ?a_isint ?l_isint ?c_isint ?k_isint ?a_digits ?l_digits ?c_digits ?k_digits ?a_signeddigits ?l_signeddigits ?c_signeddigits ?k_signeddigits ?a_ratioof ?l_ratioof ?c_ratioof ?k_ratioof ?a_penof ?l_penof ?c_penof ?k_penof ?a_draw ?l_draw ?c_draw ?k_draw ?a_pick ?l_pick ?c_pick ?k_pick ?a_numberof ?l_numberof ?c_numberof ?k_numberof ?a_lowest ?l_lowest ?c_lowest ?k_lowest ?a_is ?l_is ?c_is ?k_is ?a_bad ?l_bad ?c_bad ?k_bad ?a_pair ?l_pair ?c_pair ?k_pair ?e_pair ?v_pair ?r_pair ?n_pair ?a_whole ?l_whole ?c_whole ?k_whole ?e_whole ?v_whole ?r_whole ?n_whole ?a_law ?l_law ?c_law ?k_law ?e_law ?v_law ?r_law ?n_law ?aJ ?rJ ?sJ ?vJ ?iJ ?tJ ?aC_BadOver ?xL_BadOver ?iI_BadOver ?eB_BadOver ?lI_BadOver ?cI_BadOver ?kI_BadOver ?aC ?i_Ratio__init__ ?l_Ratio__init__ ?c_Ratio__init__ ?k_Ratio__init__ ?i_Ratio__add__ ?l_Ratio__add__ ?c_Ratio__add__ ?k_Ratio__add__ ?i_Ratio__radd__ ?l_Ratio__radd__ ?c_Ratio__radd__ ?k_Ratio__radd__ ?i_Ratio__sub__ ?l_Ratio__sub__ ?c_Ratio__sub__ ?k_Ratio__sub__ ?i_Ratio__rsub__ ?l_Ratio__rsub__ ?c_Ratio__rsub__ ?k_Ratio__rsub__ ?i_Ratio__mul__ ?l_Ratio__mul__ ?c_Ratio__mul__ ?k_Ratio__mul__ ?i_Ratio__rmul__ ?l_Ratio__rmul__ ?c_Ratio__rmul__ ?k_Ratio__rmul__ ?i_Ratio__neg__ ?l_Ratio__neg__ ?c_Ratio__neg__ ?k_Ratio__neg__ ?i_Ratio__abs__ ?l_Ratio__abs__ ?c_Ratio__abs__ ?k_Ratio__abs__ ?i_Ratio__eq__ ?l_Ratio__eq__ ?c_Ratio__eq__ ?k_Ratio__eq__ ?i_Ratio__str__ ?l_Ratio__str__ ?c_Ratio__str__ ?k_Ratio__str__ ?i_Ratiois_less ?l_Ratiois_less ?c_Ratiois_less ?k_Ratiois_less ?i_Ratiodivided ?l_Ratiodivided ?c_Ratiodivided ?k_Ratiodivided ?lT ?rB ?oB_add ?oB_sub ?oB_mul ?fn_neg ?fn_abs ?fn_eq ?fn_str ?oNe ?oS0 ?oNf ?oNi ?fn_is_less ?fn_divided ?d1 ?d2 ?d3 ?q_gcd ?q_BLOCK_DIGITS ?q_BLOCK ?z_NotImplemented ?z_ValueError ?z_abs ?z_all ?z_bool ?z_divmod ?z_int ?z_isinstance ?z_len ?z_list ?z_range ?z_reversed ?z_str
    (case a_isint => k_is)
    (case l_isint => k_is)
    (case c_isint => k_is)
    (case k_isint => k_is)
    (case a_digits => k_is)
    (case l_digits => k_is)
    (case c_digits => k_is)
    (case k_digits => k_is)
    (case a_signeddigits => k_is)
    (case l_signeddigits => k_is)
    (case c_signeddigits => k_is)
    (case k_signeddigits => k_is)
    (case a_ratioof => k_is)
    (case l_ratioof => k_is)
    (case c_ratioof => k_is)
    (case k_ratioof => k_is)
    (case a_penof => k_is)
    (case l_penof => k_is)
    (case c_penof => k_is)
    (case k_penof => k_is)
    (case a_draw => k_is)
    (case l_draw => k_is)
    (case c_draw => k_is)
    (case k_draw => k_is)
    (case a_pick => k_is)
    (case l_pick => k_is)
    (case c_pick => k_is)
    (case k_pick => k_is)
    (case a_numberof => k_is)
    (case l_numberof => k_is)
    (case c_numberof => k_is)
    (case k_numberof => k_is)
    (case a_lowest => k_is)
    (case l_lowest => k_is)
    (case c_lowest => k_is)
    (case k_lowest => k_is)
    (case a_is => k_is)
    (case l_is => k_is)
    (case c_is => k_is)
    (case k_is => k_is)
    (case a_bad => k_is)
    (case l_bad => k_is)
    (case c_bad => k_is)
    (case k_bad => k_is)
    (case a_pair => k_is)
    (case l_pair => k_is)
    (case c_pair => k_is)
    (case k_pair => k_is)
    (case e_pair => k_is)
    (case v_pair => exact rfl)
    (case r_pair => kernel_rfl)
    (case n_pair => kernel_rfl)
    (case a_whole => k_is)
    (case l_whole => k_is)
    (case c_whole => k_is)
    (case k_whole => k_is)
    (case e_whole => k_is)
    (case v_whole => exact rfl)
    (case r_whole => kernel_rfl)
    (case n_whole => kernel_rfl)
    (case a_law => k_is)
    (case l_law => k_is)
    (case c_law => k_is)
    (case k_law => k_is)
    (case e_law => k_is)
    (case v_law => exact rfl)
    (case r_law => kernel_rfl)
    (case n_law => kernel_rfl)
    (case aJ => k_is)
    (case rJ => first | k_is | kernel_rfl)
    (case sJ => first | k_is | kernel_rfl)
    (case vJ => first | k_is | kernel_rfl)
    (case iJ => first | k_is | kernel_rfl)
    (case tJ => first | k_is | kernel_rfl)
    (case aC_BadOver => k_is)
    (case xL_BadOver => k_is)
    (case iI_BadOver => k_is)
    (case eB_BadOver => kernel_rfl)
    (case lI_BadOver => k_is)
    (case cI_BadOver => k_is)
    (case kI_BadOver => k_is)
    (case aC => k_is)
    (case i_Ratio__init__ => k_is)
    (case l_Ratio__init__ => k_is)
    (case c_Ratio__init__ => k_is)
    (case k_Ratio__init__ => k_is)
    (case i_Ratio__add__ => k_is)
    (case l_Ratio__add__ => k_is)
    (case c_Ratio__add__ => k_is)
    (case k_Ratio__add__ => k_is)
    (case i_Ratio__radd__ => k_is)
    (case l_Ratio__radd__ => k_is)
    (case c_Ratio__radd__ => k_is)
    (case k_Ratio__radd__ => k_is)
    (case i_Ratio__sub__ => k_is)
    (case l_Ratio__sub__ => k_is)
    (case c_Ratio__sub__ => k_is)
    (case k_Ratio__sub__ => k_is)
    (case i_Ratio__rsub__ => k_is)
    (case l_Ratio__rsub__ => k_is)
    (case c_Ratio__rsub__ => k_is)
    (case k_Ratio__rsub__ => k_is)
    (case i_Ratio__mul__ => k_is)
    (case l_Ratio__mul__ => k_is)
    (case c_Ratio__mul__ => k_is)
    (case k_Ratio__mul__ => k_is)
    (case i_Ratio__rmul__ => k_is)
    (case l_Ratio__rmul__ => k_is)
    (case c_Ratio__rmul__ => k_is)
    (case k_Ratio__rmul__ => k_is)
    (case i_Ratio__neg__ => k_is)
    (case l_Ratio__neg__ => k_is)
    (case c_Ratio__neg__ => k_is)
    (case k_Ratio__neg__ => k_is)
    (case i_Ratio__abs__ => k_is)
    (case l_Ratio__abs__ => k_is)
    (case c_Ratio__abs__ => k_is)
    (case k_Ratio__abs__ => k_is)
    (case i_Ratio__eq__ => k_is)
    (case l_Ratio__eq__ => k_is)
    (case c_Ratio__eq__ => k_is)
    (case k_Ratio__eq__ => k_is)
    (case i_Ratio__str__ => k_is)
    (case l_Ratio__str__ => k_is)
    (case c_Ratio__str__ => k_is)
    (case k_Ratio__str__ => k_is)
    (case i_Ratiois_less => k_is)
    (case l_Ratiois_less => k_is)
    (case c_Ratiois_less => k_is)
    (case k_Ratiois_less => k_is)
    (case i_Ratiodivided => k_is)
    (case l_Ratiodivided => k_is)
    (case c_Ratiodivided => k_is)
    (case k_Ratiodivided => k_is)
    (case lT => k_is)
    (case rB => kernel_rfl)
    (case oB_add => kernel_rfl)
    (case oB_sub => kernel_rfl)
    (case oB_mul => kernel_rfl)
    (case fn_neg => kernel_rfl)
    (case fn_abs => kernel_rfl)
    (case fn_eq => kernel_rfl)
    (case fn_str => kernel_rfl)
    (case oNe => kernel_rfl)
    (case oS0 => kernel_rfl)
    (case oNf => kernel_rfl)
    (case oNi => kernel_rfl)
    (case fn_is_less => kernel_rfl)
    (case fn_divided => kernel_rfl)
    (case d1 => decide)
    (case d2 => decide)
    (case d3 => decide)
    (case q_gcd => k_is)
    (case q_BLOCK_DIGITS => k_is)
    (case q_BLOCK => k_is)
    (case z_NotImplemented => k_is)
    (case z_ValueError => k_is)
    (case z_abs => k_is)
    (case z_all => k_is)
    (case z_bool => k_is)
    (case z_divmod => k_is)
    (case z_int => k_is)
    (case z_isinstance => k_is)
    (case z_len => k_is)
    (case z_list => k_is)
    (case z_range => k_is)
    (case z_reversed => k_is)
    (case z_str => k_is)

